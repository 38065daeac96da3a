package store_test

import (
	"math"
	"math/big"
	"testing"

	"belvedere/api"
	"belvedere/fault"
	"belvedere/store"
)

// fresh is a store with room for so many squares.
func fresh(t *testing.T, most int) *store.Store {
	t.Helper()
	s, e := store.New(most)
	if s == nil || e != nil {
		t.Fatalf("New(%d) = %v, %v", most, s, e)
	}
	return s
}

// made is the square of four.
func made(t *testing.T, s *store.Store, k store.Kids) store.ID {
	t.Helper()
	x, e := s.Make(k)
	if e != nil {
		t.Fatalf("Make(%v): %v", k, e)
	}
	return x
}

// alike are four times the same square.
func alike(x store.ID) store.Kids {
	return store.Kids{x, x, x, x}
}

// tower has, for each level up to top, a square of four times the one below; at level 0 it is x.
func tower(t *testing.T, s *store.Store, x store.ID, top int) []store.ID {
	t.Helper()
	l := []store.ID{x}
	for range top {
		l = append(l, made(t, s, alike(l[len(l)-1])))
	}
	return l
}

// cellsOf are four cells, from bits of a number: bit 0 is the first one.
func cellsOf(n int) store.Kids {
	var k store.Kids
	for i := range k {
		k[i] = store.ID(n >> i & 1)
	}
	return k
}

// wantLen checks how many squares there are, and how many more there may be.
func wantLen(t *testing.T, name string, s *store.Store, there, room int) {
	t.Helper()
	if s.Len() != there || s.Room() != room || s.Mark() != store.Mark(there) {
		t.Errorf("%s: Len, Room, Mark = %d, %d, %d, want %d, %d, %d", name, s.Len(), s.Room(), s.Mark(), there, room, there)
	}
	for x := range store.ID(there) {
		if !s.Is(x) {
			t.Errorf("%s: there is no square %d of %d", name, x, there)
		}
	}
	for _, x := range []int{there, there + 1, there + 1000, 1 << 21, 1 << 31, math.MaxUint32} {
		wantNone(t, name, s, store.ID(x))
	}
}

// wantNone checks that there is no square.
func wantNone(t *testing.T, name string, s *store.Store, x store.ID) {
	t.Helper()
	k, ok := s.Of(x)
	if s.Is(x) || s.Level(x) != -1 || s.Count(x) != 0 || ok || k != (store.Kids{}) {
		t.Errorf("%s: square %d: Is %v, Level %d, Count %d, Of %v, %v, but there is none", name, x, s.Is(x), s.Level(x), s.Count(x), k, ok)
	}
}

// wantSquare checks what is told of a square that has four.
func wantSquare(t *testing.T, name string, s *store.Store, x store.ID, level int, count uint64, k store.Kids) {
	t.Helper()
	got, ok := s.Of(x)
	if !s.Is(x) || s.Level(x) != level || s.Count(x) != count || !ok || got != k {
		t.Errorf("%s: square %d: Is %v, Level %d, Count %d, Of %v, %v, want true, %d, %d, %v, true", name, x, s.Is(x), s.Level(x), s.Count(x), got, ok, level, count, k)
	}
}

// wantCells checks what is told of Dead and Alive.
func wantCells(t *testing.T, name string, s *store.Store) {
	t.Helper()
	for x, count := range []uint64{store.Dead: 0, store.Alive: 1} {
		x := store.ID(x)
		k, ok := s.Of(x)
		if !s.Is(x) || s.Level(x) != 0 || s.Count(x) != count || ok || k != (store.Kids{}) {
			t.Errorf("%s: cell %d: Is %v, Level %d, Count %d, Of %v, %v", name, x, s.Is(x), s.Level(x), s.Count(x), k, ok)
		}
	}
}

// wantMake checks which square Make returns, and that it adds so many.
func wantMake(t *testing.T, name string, s *store.Store, k store.Kids, want store.ID, added int) {
	t.Helper()
	there := s.Len()
	x, e := s.Make(k)
	if x != want || e != nil || s.Len() != there+added {
		t.Errorf("%s: Make(%v) = %d, %v, %d added, want %d, nil, %d added", name, k, x, e, s.Len()-there, want, added)
	}
}

// wantNoMake checks the error of Make, and that nothing is added.
func wantNoMake(t *testing.T, name string, s *store.Store, k store.Kids, n api.Errno) {
	t.Helper()
	there := s.Len()
	x, e := s.Make(k)
	if x != 0 || fault.Code(e) != n || !fault.Is(e, n) || s.Len() != there {
		t.Errorf("%s: Make(%v) = %d, %v, %d added, want 0, %v, 0 added", name, k, x, e, s.Len()-there, n)
	}
}

// wantEmpty checks that Empty returns a square of a level, and of dead cells, and adds so many.
func wantEmpty(t *testing.T, name string, s *store.Store, level int, want store.ID, added int) {
	t.Helper()
	there := s.Len()
	x, e := s.Empty(level)
	if x != want || e != nil || s.Len() != there+added {
		t.Errorf("%s: Empty(%d) = %d, %v, %d added, want %d, nil, %d added", name, level, x, e, s.Len()-there, want, added)
	}
	if s.Level(x) != level || s.Count(x) != 0 {
		t.Errorf("%s: Empty(%d) = %d, of level %d, with %d living cells", name, level, x, s.Level(x), s.Count(x))
	}
}

// wantNoEmpty checks the error of Empty, and that so many squares are added.
func wantNoEmpty(t *testing.T, name string, s *store.Store, level int, n api.Errno, added int) {
	t.Helper()
	there := s.Len()
	x, e := s.Empty(level)
	if x != 0 || fault.Code(e) != n || !fault.Is(e, n) || s.Len() != there+added {
		t.Errorf("%s: Empty(%d) = %d, %v, %d added, want 0, %v, %d added", name, level, x, e, s.Len()-there, n, added)
	}
}

// The chapter's constants.
func TestConstants(t *testing.T) {
	if store.MostLevel != 62 || store.MostNodes != 1048576 || store.Dead != 0 || store.Alive != 1 {
		t.Error(store.MostLevel, store.MostNodes, store.Dead, store.Alive)
	}
}

// The chapter's example.
func TestMakeTwice(t *testing.T) {
	s := fresh(t, 10)
	wantMake(t, "once", s, alike(store.Dead), 2, 1)
	wantMake(t, "twice", s, alike(store.Dead), 2, 0)
}

// P6.1
func TestNew(t *testing.T) {
	for _, most := range []int{2, 3, 4, 1000, 1<<20 - 1, 1 << 20} {
		s := fresh(t, most)
		wantLen(t, "new", s, 2, most-2)
		wantCells(t, "new", s)
	}
	for _, most := range []int{1, 0, -1, -2, -1 << 20, 1<<20 + 1, 1 << 21, 1<<32 + 2, math.MinInt, math.MaxInt} {
		if s, e := store.New(most); s != nil || fault.Code(e) != api.ErrArg || !fault.Is(e, api.ErrArg) {
			t.Errorf("New(%d) = %v, %v, want nil, ErrArg", most, s, e)
		}
	}
}

// P6.1: a store with room for the two cells alone.
func TestLeastStore(t *testing.T) {
	s := fresh(t, 2)
	wantNoMake(t, "no room", s, alike(store.Dead), api.ErrFull)
	wantEmpty(t, "no room", s, 0, store.Dead, 0)
	wantNoEmpty(t, "no room", s, 1, api.ErrFull, 0)
	wantLen(t, "no room", s, 2, 0)
	wantCells(t, "no room", s)
}

// P6.1, P6.2: a store with as many squares as there may be.
func TestGreatestStore(t *testing.T) {
	s := fresh(t, store.MostNodes)
	for n := range 16 {
		made(t, s, cellsOf(n)) // squares 2 to 17
	}
	fours := func(n int) store.Kids {
		l := [2]store.ID{store.ID(n % 1000), store.ID(n / 1000)}
		return store.Kids{l[0] + 18, l[1] + 18, l[1] + 18, l[0] + 18}
	}
	for n := range 1 << 16 {
		made(t, s, store.Kids{2 + store.ID(n)&15, 2 + store.ID(n)>>4&15, 2 + store.ID(n)>>8&15, 2 + store.ID(n)>>12})
	}
	last := 0
	for ; s.Room() > 0; last++ {
		wantMake(t, "level 3", s, fours(last), store.ID(1<<16+18+last), 1)
	}
	if s.Len() != 1<<20 || !s.Is(1<<20-1) || s.Is(1<<20) {
		t.Errorf("Len = %d", s.Len())
	}
	for n := range last {
		wantMake(t, "there already", s, fours(n), store.ID(1<<16+18+n), 0)
	}
	wantNoMake(t, "no room", s, fours(last), api.ErrFull)
	wantNoMake(t, "no room", s, alike(1<<20-1), api.ErrFull)
	wantNoMake(t, "no square", s, alike(1<<20), api.ErrArg)
}

// dice are numbers that look like thrown ones, the same in each run.
type dice uint64

// below is the next number, from 0 on, below n.
func (d *dice) below(n int) int {
	*d = *d*6364136223846793005 + 1442695040888963407
	return int(uint64(*d) >> 33 % uint64(n))
}

// sameLevel is a square of the level of another one.
func sameLevel(s *store.Store, d *dice, x store.ID) store.ID {
	for range 8 {
		if y := store.ID(d.below(s.Len())); s.Level(y) == s.Level(x) {
			return y
		}
	}
	return x
}

// P6.1
func TestSquaresAsTheyAreMade(t *testing.T) {
	s := fresh(t, 100)
	for n := range 16 {
		x := made(t, s, cellsOf(n))
		if int(x) != n+2 {
			t.Fatalf("square %d, want %d", x, n+2)
		}
		wantLen(t, "level 1", s, n+3, 97-n)
		count := uint64(n&1 + n>>1&1 + n>>2&1 + n>>3&1)
		wantSquare(t, "level 1", s, x, 1, count, cellsOf(n))
	}
	k := store.Kids{2, 17, 9, 5} // of 0, 4, 3 and 2 living cells
	wantMake(t, "level 2", s, k, 18, 1)
	wantSquare(t, "level 2", s, 18, 2, 9, k)
	wantMake(t, "level 3", s, alike(18), 19, 1)
	wantSquare(t, "level 3", s, 19, 3, 36, alike(18))
	wantLen(t, "level 3", s, 20, 80)
	wantCells(t, "level 3", s)
}

// P6.1: four in another order are another square.
func TestOrderOfFour(t *testing.T) {
	s := fresh(t, 100)
	seen := map[store.ID]store.Kids{}
	for n := range 16 {
		k := cellsOf(n)
		x := made(t, s, k)
		if o, ok := seen[x]; ok {
			t.Errorf("%v and %v are both square %d", o, k, x)
		}
		seen[x] = k
	}
}

// P6.1
func TestCountOfAllAlive(t *testing.T) {
	s := fresh(t, 100)
	for level, x := range tower(t, s, store.Alive, store.MostLevel) {
		want := uint64(math.MaxUint64)
		if level < 32 {
			want = 1 << (2 * level)
		}
		if s.Level(x) != level || s.Count(x) != want {
			t.Errorf("level %d: Level %d, Count %d, want %d", level, s.Level(x), s.Count(x), want)
		}
	}
}

// P6.1: around 2^64 - 1, of squares of all kinds, against sums without bounds.
func TestCountNearTheGreatest(t *testing.T) {
	s := fresh(t, 20000)
	count := []*big.Int{store.Dead: big.NewInt(0), store.Alive: big.NewInt(1)}
	levels := [][]store.ID{{store.Dead, store.Alive}}
	d := dice(61)
	for level := 1; level <= store.MostLevel; level++ {
		below := levels[level-1]
		full := below[1]
		ks := []store.Kids{alike(below[0]), alike(full)}
		for i := range 40 {
			k := alike(full)
			for j := range i % 4 {
				k[d.below(4)] = below[d.below(len(below))]
				k[j] = below[d.below(len(below))]
			}
			ks = append(ks, k)
		}
		var l []store.ID
		for _, k := range ks {
			there := s.Len()
			x := made(t, s, k)
			l = append(l, x)
			if s.Len() == there {
				continue
			}
			all := new(big.Int)
			for _, y := range k {
				all.Add(all, count[y])
			}
			count = append(count, all)
		}
		levels = append(levels, l)
	}
	great := new(big.Int).SetUint64(math.MaxUint64)
	above, near := 0, 0
	for x, n := range count {
		if n.Cmp(great) > 0 {
			n = great
			above++
		} else if n.BitLen() == 64 {
			near++
		}
		if got := s.Count(store.ID(x)); got != n.Uint64() {
			t.Errorf("Count(%d), of level %d, = %d, want %v", x, s.Level(store.ID(x)), got, n)
		}
	}
	if above < 10 || near < 10 {
		t.Errorf("only %d squares above 2^64 - 1, %d below and near", above, near)
	}
}

// P6.1: exactly 2^64 - 1, 2^64 - 2 and 2^64 living cells.
func TestCountOfOneDead(t *testing.T) {
	s := fresh(t, 300)
	full := tower(t, s, store.Alive, 33)
	dead := tower(t, s, store.Dead, 33)
	one, two := store.Dead, store.Dead
	for level := range 32 {
		k := alike(full[level])
		k[3] = two
		if level == 31 {
			k[3], k[0] = one, one
		}
		two = made(t, s, k)
		k = alike(full[level])
		k[level%4] = one
		one = made(t, s, k)
	}
	for _, c := range []struct {
		name string
		x    store.ID
		want uint64
	}{
		{"all", full[32], math.MaxUint64},
		{"all but one", one, math.MaxUint64},
		{"all but two", two, math.MaxUint64 - 1},
		{"all but one, and none", made(t, s, store.Kids{one, dead[32], dead[32], dead[32]}), math.MaxUint64},
		{"none, and all but two", made(t, s, store.Kids{dead[32], dead[32], dead[32], two}), math.MaxUint64 - 1},
		{"all but two, twice", made(t, s, store.Kids{two, dead[32], two, dead[32]}), math.MaxUint64},
		{"all, and none", made(t, s, store.Kids{dead[32], full[32], dead[32], dead[32]}), math.MaxUint64},
		{"half of it", made(t, s, store.Kids{full[31], dead[31], dead[31], full[31]}), 1 << 63},
	} {
		if got := s.Count(c.x); got != c.want {
			t.Errorf("%s: Count = %d, want %d", c.name, got, c.want)
		}
	}
}

// P6.1: what Of returns is its caller's.
func TestOfIsACopy(t *testing.T) {
	s := fresh(t, 10)
	x := made(t, s, cellsOf(6))
	k, _ := s.Of(x)
	k[0] = 9
	wantSquare(t, "changed outside", s, x, 1, 2, cellsOf(6))
	wantMake(t, "changed outside", s, cellsOf(6), x, 0)
}

// P6.2
func TestMakeOfWrongFours(t *testing.T) {
	s := fresh(t, 200)
	full := tower(t, s, store.Alive, 62) // squares 2 to 63
	top := full[62]
	for i := range 4 {
		for _, c := range []struct {
			name       string
			most, less store.ID
		}{
			{"a cell among squares", full[1], store.Dead},
			{"a square among cells", store.Alive, full[1]},
			{"two levels", full[7], full[8]},
			{"far levels", full[2], full[61]},
			{"one of the highest level", full[61], top},
			{"one that there isn't", full[3], 64},
			{"a great one that there isn't", full[3], math.MaxUint32},
			{"one that there is among ones that there aren't", 64, full[3]},
			{"a cell among ones that there aren't", 64, store.Alive},
		} {
			k := alike(c.most)
			k[i] = c.less
			wantNoMake(t, c.name, s, k, api.ErrArg)
		}
	}
	for _, x := range []store.ID{64, 65, 199, 200, 1 << 20, 1 << 31, math.MaxUint32} {
		wantNoMake(t, "none of them is there", s, alike(x), api.ErrArg)
	}
	wantNoMake(t, "none of them is there", s, store.Kids{64, 65, 66, 67}, api.ErrArg)
	wantLen(t, "behind errors", s, 64, 136)
}

// P6.2
func TestMakeAtTheHighestLevel(t *testing.T) {
	s := fresh(t, 200)
	full := tower(t, s, store.Alive, 61)
	wantMake(t, "of level 61", s, alike(full[61]), 63, 1)
	wantSquare(t, "level 62", s, 63, 62, math.MaxUint64, alike(full[61]))
	wantMake(t, "of level 61, again", s, alike(full[61]), 63, 0)
	wantNoMake(t, "of level 62", s, alike(63), api.ErrArg)
	wantLen(t, "level 62", s, 64, 136)
}

// P6.2
func TestMakeWithoutRoom(t *testing.T) {
	s := fresh(t, 5)
	wantMake(t, "room for 3", s, cellsOf(0), 2, 1)
	wantMake(t, "room for 2", s, cellsOf(5), 3, 1)
	wantMake(t, "room for 1", s, store.Kids{2, 3, 3, 2}, 4, 1)
	for range 2 {
		wantNoMake(t, "no room", s, cellsOf(1), api.ErrFull)
		wantNoMake(t, "no room", s, store.Kids{3, 2, 2, 3}, api.ErrFull)
		wantNoMake(t, "no room", s, alike(4), api.ErrFull)
		wantMake(t, "there already", s, cellsOf(0), 2, 0)
		wantMake(t, "there already", s, cellsOf(5), 3, 0)
		wantMake(t, "there already", s, store.Kids{2, 3, 3, 2}, 4, 0)
		wantNoMake(t, "wrong, and no room", s, store.Kids{2, 3, 1, 2}, api.ErrArg)
		wantNoMake(t, "wrong, and no room", s, alike(5), api.ErrArg)
		wantLen(t, "no room", s, 5, 0)
	}
	s.Back(4)
	wantMake(t, "room again", s, cellsOf(1), 4, 1)
	wantNoMake(t, "no room again", s, store.Kids{2, 3, 3, 2}, api.ErrFull)
}

// P6.2: of level 62, ErrArg comes before ErrFull.
func TestMakeAboveTheHighestLevelWithoutRoom(t *testing.T) {
	s := fresh(t, 64)
	top := tower(t, s, store.Dead, 62)[62]
	wantLen(t, "a tower", s, 64, 0)
	wantNoMake(t, "of level 62, no room", s, alike(top), api.ErrArg)
	wantEmpty(t, "there already", s, 62, top, 0)
	wantNoEmpty(t, "level 63, no room", s, 63, api.ErrArg, 0)
}

// P6.2
func TestEmpty(t *testing.T) {
	s := fresh(t, 100)
	wantEmpty(t, "a cell", s, 0, store.Dead, 0)
	wantEmpty(t, "once", s, 1, 2, 1)
	wantEmpty(t, "twice", s, 1, 2, 0)
	wantSquare(t, "level 1", s, 2, 1, 0, alike(store.Dead))
	wantMake(t, "another one", s, cellsOf(15), 3, 1)
	wantEmpty(t, "once", s, 62, 64, 61)
	wantEmpty(t, "twice", s, 62, 64, 0)
	wantSquare(t, "level 2", s, 4, 2, 0, alike(2))
	for level := 3; level <= 62; level++ {
		x := store.ID(level + 2)
		wantSquare(t, "smaller ones first", s, x, level, 0, alike(x-1))
		wantEmpty(t, "there already", s, level, x, 0)
	}
	wantEmpty(t, "a cell", s, 0, store.Dead, 0)
	for _, level := range []int{-1, -2, -62, 63, 64, 1 << 32, math.MinInt, math.MaxInt} {
		wantNoEmpty(t, "no level", s, level, api.ErrArg, 0)
	}
	wantLen(t, "all levels", s, 65, 35)
}

// P6.2: Empty finds what Make has made.
func TestEmptyOfMade(t *testing.T) {
	s := fresh(t, 10)
	a := made(t, s, alike(store.Dead))
	b := made(t, s, alike(a))
	wantEmpty(t, "made before", s, 2, b, 0)
	wantEmpty(t, "one more", s, 3, 4, 1)
	wantMake(t, "made by Empty", s, alike(b), 4, 0)
}

// P6.2: those before the one that can't be made have been made.
func TestEmptyWithTooLittleRoom(t *testing.T) {
	for room := range 10 {
		s := fresh(t, 2+room)
		wantNoEmpty(t, "too little room", s, room+1, api.ErrFull, room)
		wantLen(t, "too little room", s, 2+room, 0)
		below := store.Dead
		for level := 1; level <= room; level++ {
			x := store.ID(level + 1)
			wantSquare(t, "made before", s, x, level, 0, alike(below))
			wantEmpty(t, "made before", s, level, x, 0)
			below = x
		}
		wantNoEmpty(t, "again", s, room+1, api.ErrFull, 0)
		wantNoEmpty(t, "the highest level", s, 62, api.ErrFull, 0)
		wantNoEmpty(t, "no level", s, 63, api.ErrArg, 0)
		wantNoEmpty(t, "no level", s, -1, api.ErrArg, 0)
		wantEmpty(t, "a cell", s, 0, store.Dead, 0)
	}
}

// P6.2
func TestBackToAMark(t *testing.T) {
	s := fresh(t, 20)
	wantMake(t, "before", s, cellsOf(3), 2, 1)
	wantMake(t, "before", s, cellsOf(9), 3, 1)
	m := s.Mark()
	if m != 4 {
		t.Fatalf("Mark = %d, want 4", m)
	}
	wantMake(t, "since", s, cellsOf(12), 4, 1)
	wantMake(t, "since", s, store.Kids{2, 3, 4, 4}, 5, 1)
	wantEmpty(t, "since", s, 2, 7, 2)
	s.Back(m)
	wantLen(t, "back", s, 4, 16)
	wantCells(t, "back", s)
	wantSquare(t, "back", s, 2, 1, 2, cellsOf(3))
	wantSquare(t, "back", s, 3, 1, 2, cellsOf(9))
	wantMake(t, "kept", s, cellsOf(3), 2, 0)
	wantMake(t, "kept", s, cellsOf(9), 3, 0)
	wantNoMake(t, "gone", s, store.Kids{2, 3, 4, 4}, api.ErrArg)
	wantNoMake(t, "gone", s, alike(6), api.ErrArg)
	wantEmpty(t, "made anew", s, 1, 4, 1)
	wantMake(t, "made anew", s, store.Kids{2, 3, 4, 4}, 5, 1)
	wantSquare(t, "made anew", s, 5, 2, 4, store.Kids{2, 3, 4, 4})
	wantMake(t, "made anew", s, cellsOf(12), 6, 1)
	wantSquare(t, "made anew", s, 6, 1, 2, cellsOf(12))
}

// P6.2: marks that do nothing, and those that take some.
func TestBackToNumbers(t *testing.T) {
	for _, c := range []struct {
		m    store.Mark
		want int
	}{
		{math.MinInt, 18}, {-1 << 32, 18}, {-1, 18}, {0, 18}, {1, 18},
		{2, 2}, {3, 3}, {10, 10}, {17, 17}, {18, 18},
		{19, 18}, {20, 18}, {1000, 18}, {1 << 32, 18}, {1<<32 + 2, 18}, {math.MaxInt, 18},
	} {
		s := fresh(t, 20)
		for n := range 16 {
			made(t, s, cellsOf(n))
		}
		s.Back(c.m)
		wantLen(t, "back", s, c.want, 20-c.want)
		for n := range c.want - 2 {
			wantSquare(t, "kept", s, store.ID(n+2), 1, s.Count(store.ID(n+2)), cellsOf(n))
			wantMake(t, "kept", s, cellsOf(n), store.ID(n+2), 0)
		}
		for n := 15; n >= c.want-2; n-- {
			wantMake(t, "made anew", s, cellsOf(n), store.ID(s.Len()), 1)
		}
		wantLen(t, "made anew", s, 18, 2)
	}
}

// P6.2: back and on, again and again; a mark beyond what there is does nothing later on either.
func TestBackTwice(t *testing.T) {
	s := fresh(t, 6)
	a := s.Mark()
	made(t, s, cellsOf(1))
	b := s.Mark()
	made(t, s, cellsOf(2))
	c := s.Mark()
	s.Back(b)
	s.Back(c)
	wantLen(t, "back to b", s, 3, 3)
	s.Back(b)
	wantLen(t, "back to b again", s, 3, 3)
	wantMake(t, "behind b", s, cellsOf(1), 2, 0)
	s.Back(a)
	wantLen(t, "back to a", s, 2, 4)
	for range 3 {
		wantMake(t, "behind a", s, cellsOf(2), 2, 1)
		wantMake(t, "behind a", s, cellsOf(1), 3, 1)
		wantMake(t, "behind a", s, store.Kids{2, 3, 2, 3}, 4, 1)
		wantEmpty(t, "behind a", s, 1, 5, 1)
		wantNoEmpty(t, "behind a", s, 2, api.ErrFull, 0)
		s.Back(a)
		wantLen(t, "back to a", s, 2, 4)
	}
}

// P6.1, P6.2: a store that New didn't make does nothing.
func TestNoStore(t *testing.T) {
	for name, s := range map[string]*store.Store{"nil": nil, "empty": {}} {
		for range 2 {
			wantLen(t, name, s, 0, 0)
			wantNone(t, name, s, store.Dead)
			wantNone(t, name, s, store.Alive)
			wantNoMake(t, name, s, alike(store.Dead), api.ErrArg)
			wantNoMake(t, name, s, alike(2), api.ErrArg)
			for _, level := range []int{-1, 0, 1, 62, 63} {
				wantNoEmpty(t, name, s, level, api.ErrArg, 0)
			}
			for _, m := range []store.Mark{math.MinInt, -1, 0, 1, 2, 3, math.MaxInt} {
				s.Back(m)
			}
		}
	}
}

// P6.1, P2: one store doesn't know of another one.
func TestTwoStores(t *testing.T) {
	a, b := fresh(t, 4), fresh(t, 10)
	wantMake(t, "a", a, cellsOf(1), 2, 1)
	wantMake(t, "b", b, cellsOf(2), 2, 1)
	wantMake(t, "b", b, cellsOf(1), 3, 1)
	a.Back(2)
	wantLen(t, "a", a, 2, 2)
	wantLen(t, "b", b, 4, 6)
	wantSquare(t, "b", b, 2, 1, 1, cellsOf(2))
}

// drawn is a square as its cells, row by row, of level 2 and below.
func drawn(s *store.Store, x store.ID) string {
	side := 1 << s.Level(x)
	out := make([]byte, 0, side*side)
	for y := range side {
		for z := range side {
			out = append(out, '0'+byte(cellAt(s, x, z, y)))
		}
	}
	return string(out)
}

// cellAt is the cell of a square at a place.
func cellAt(s *store.Store, x store.ID, right, down int) store.ID {
	k, ok := s.Of(x)
	if !ok {
		return x
	}
	half := 1 << (s.Level(x) - 1)
	return cellAt(s, k[right/half+down/half*2], right%half, down%half)
}

// P6.3: all squares of levels 1 and 2.
func TestSameCellsAreTheSameSquare(t *testing.T) {
	s := fresh(t, 2+16+1<<16)
	var ones []store.ID
	for n := range 16 {
		ones = append(ones, made(t, s, cellsOf(n)))
	}
	seen := map[string]store.ID{}
	for range 2 {
		for n := range 1 << 16 {
			k := store.Kids{ones[n&15], ones[n>>4&15], ones[n>>8&15], ones[n>>12]}
			x := made(t, s, k)
			cells := drawn(s, x)
			if o, ok := seen[cells]; ok && o != x {
				t.Fatalf("squares %d and %d have the same cells", o, x)
			}
			seen[cells] = x
		}
	}
	if len(seen) != 1<<16 || s.Room() != 0 {
		t.Errorf("%d squares have different cells, room for %d", len(seen), s.Room())
	}
}

// P6.3: squares of several levels, made and gone in any order, against their cells.
func TestSameCellsBehindBack(t *testing.T) {
	s := fresh(t, 300)
	d := dice(63)
	kept := []string{store.Dead: "0", store.Alive: "1"} // each square's cells, by its number
	at := map[string]store.ID{"0": store.Dead, "1": store.Alive}
	fulls, backs := 0, 0
	for range 20000 {
		if d.below(100) == 0 {
			m := 2 + d.below(s.Len())
			s.Back(store.Mark(m))
			for _, gone := range kept[min(m, len(kept)):] {
				delete(at, gone)
			}
			kept = kept[:min(m, len(kept))]
			backs++
		}
		x := store.ID(d.below(s.Len()))
		if s.Level(x) > 3 {
			continue
		}
		k := store.Kids{x, sameLevel(s, &d, x), sameLevel(s, &d, x), sameLevel(s, &d, x)}
		cells := "(" + kept[k[0]] + kept[k[1]] + kept[k[2]] + kept[k[3]] + ")"
		want, there := at[cells]
		y, e := s.Make(k)
		switch {
		case there:
			if y != want || e != nil {
				t.Fatalf("Make(%v) = %d, %v, want %d", k, y, e, want)
			}
		case len(kept) == 300:
			fulls++
			if y != 0 || !fault.Is(e, api.ErrFull) {
				t.Fatalf("Make(%v) = %d, %v, want ErrFull", k, y, e)
			}
		default:
			if int(y) != len(kept) || e != nil {
				t.Fatalf("Make(%v) = %d, %v, want %d", k, y, e, len(kept))
			}
			kept = append(kept, cells)
			at[cells] = y
		}
		if s.Len() != len(kept) {
			t.Fatalf("Len = %d, want %d", s.Len(), len(kept))
		}
	}
	if fulls < 100 || backs < 100 {
		t.Errorf("full only %d times, back only %d times", fulls, backs)
	}
}
