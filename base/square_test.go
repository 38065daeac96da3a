package base_test

import (
	"fmt"
	"math"
	"math/bits"
	"testing"

	"belvedere/api"
	"belvedere/base"
	"belvedere/fault"
	"belvedere/store"
)

// enough is room for each square of levels 0 to 2, and some more.
const enough = 100000

// some are Fours for tests that would be long with all of them.
var some = []base.Four{0, 1, 2, 8, 16, 0x8000, 0x0660, 0x0070, 0x0e00, 0x0222, 0x1234, 0x8421, 0x1248, 0x5a5a, 0xa5a5, 0x00ff, 0x3333, 0x6996, 0xf99f, 0xfffe, 0x7fff, 0xffff}

// fresh is a store with room for so many squares.
func fresh(t *testing.T, most int) *store.Store {
	t.Helper()
	s, e := store.New(most)
	if s == nil || e != nil {
		t.Fatalf("New(%d) = %v, %v", most, s, e)
	}
	return s
}

// kids are the cells of a square of level 1, of which the first is at x, y in a Four.
func kids(n, x, y int) store.Kids {
	var k store.Kids
	for i, at := range [][2]int{{x, y}, {x + 1, y}, {x, y + 1}, {x + 1, y + 1}} {
		if alive(n, at[0], at[1]) {
			k[i] = store.Alive
		}
	}
	return k
}

// made is the square of four.
func made(t *testing.T, s *store.Store, k store.Kids) store.ID {
	t.Helper()
	x, e := s.Make(k)
	if e != nil {
		t.Fatalf("Make(%v): %v", k, e)
	}
	return x
}

// built is the square of level 2 of a Four, made by the store alone.
func built(t *testing.T, s *store.Store, n int) store.ID {
	t.Helper()
	return made(t, s, store.Kids{
		made(t, s, kids(n, 0, 0)), made(t, s, kids(n, 2, 0)),
		made(t, s, kids(n, 0, 2)), made(t, s, kids(n, 2, 2)),
	})
}

// square is the square of level 2 of a Four.
func square(t *testing.T, s *store.Store, f base.Four) store.ID {
	t.Helper()
	x, e := base.Square(s, f)
	if e != nil {
		t.Fatalf("Square(%#04x): %v", uint16(f), e)
	}
	return x
}

// wantError checks a square's number, and its error.
func wantError(t *testing.T, name string, x store.ID, e error, n api.Errno) {
	t.Helper()
	if x != 0 || fault.Code(e) != n || !fault.Is(e, n) {
		t.Errorf("%s = %d, %v, want 0, %v", name, x, e, n)
	}
}

// wantNoSquare checks that Read and Next of what is no square of level 2 return ErrArg, and make nothing.
func wantNoSquare(t *testing.T, name string, s *store.Store, x store.ID) {
	t.Helper()
	there := s.Len()
	f, e := base.Read(s, x)
	wantError(t, fmt.Sprintf("%s: Read(%d)", name, x), store.ID(f), e, api.ErrArg)
	y, e := base.Next(s, x)
	wantError(t, fmt.Sprintf("%s: Next(%d)", name, x), y, e, api.ErrArg)
	if s.Len() != there {
		t.Errorf("%s: %d squares, and %d before", name, s.Len(), there)
	}
}

// wantTold checks a square's level, count and four.
func wantTold(t *testing.T, name string, s *store.Store, x store.ID, level, count int, k store.Kids) {
	t.Helper()
	got, ok := s.Of(x)
	if !s.Is(x) || s.Level(x) != level || s.Count(x) != uint64(count) || !ok || got != k {
		t.Errorf("%s: square %d: Is %v, Level %d, Count %d, Of %v, %v, want true, %d, %d, %v, true", name, x, s.Is(x), s.Level(x), s.Count(x), got, ok, level, count, k)
	}
}

// wantCells checks the cells of a square of level 2.
func wantCells(t *testing.T, name string, s *store.Store, x store.ID, f base.Four) {
	t.Helper()
	if got, e := base.Read(s, x); got != f || e != nil {
		t.Errorf("%s: Read(%d) = %#04x, %v, want %#04x, nil", name, x, uint16(got), e, uint16(f))
	}
}

// The chapter's example: a row of three in the middle, a column.
func TestExample(t *testing.T) {
	s := fresh(t, enough)
	for _, c := range []struct {
		row  base.Four
		want store.Kids
	}{
		{0x0070, store.Kids{store.Alive, store.Dead, store.Alive, store.Dead}},
		{0x00e0, store.Kids{store.Dead, store.Alive, store.Dead, store.Alive}},
		{0x0700, store.Kids{store.Alive, store.Dead, store.Alive, store.Dead}},
		{0x0e00, store.Kids{store.Dead, store.Alive, store.Dead, store.Alive}},
	} {
		x := square(t, s, c.row)
		y, e := base.Next(s, x)
		if e != nil {
			t.Errorf("Next of %#04x: %v", uint16(c.row), e)
		}
		wantTold(t, fmt.Sprintf("next of %#04x", uint16(c.row)), s, y, 1, 2, c.want)
	}
}

// P9.2: squares that the store made, with no, some and all cells alive.
func TestRead(t *testing.T) {
	s := fresh(t, enough)
	for n := range every {
		x := built(t, s, n)
		there := s.Len()
		wantCells(t, "built", s, x, base.Four(n))
		if s.Len() != there {
			t.Fatalf("Read(%d) made %d squares", x, s.Len()-there)
		}
	}
	empty, e := s.Empty(2)
	if e != nil {
		t.Fatal(e)
	}
	wantCells(t, "empty", s, empty, 0)
}

// P9.2: Read of Square is what was given, and the same Four the same square.
func TestSquare(t *testing.T) {
	s := fresh(t, enough)
	seen := make(map[store.ID]int)
	for n := range every {
		f := base.Four(n)
		name := fmt.Sprintf("Square(%#04x)", n)
		x := square(t, s, f)
		if old, there := seen[x]; there {
			t.Errorf("%s = %d, which is of %#04x", name, x, old)
		}
		seen[x] = n
		there := s.Len()
		if again := square(t, s, f); again != x || s.Len() != there {
			t.Errorf("%s = %d, and then %d, %d made", name, x, again, s.Len()-there)
		}
		wantCells(t, name, s, x, f)
		if s.Level(x) != 2 || s.Count(x) != uint64(bits.OnesCount16(uint16(n))) {
			t.Errorf("%s = %d, of level %d, with %d living cells", name, x, s.Level(x), s.Count(x))
		}
		// P6.3: what the store makes of the same cells is the same square.
		if y := built(t, s, n); y != x || s.Len() != there {
			t.Errorf("%s = %d, want %d", name, x, y)
		}
	}
	// The cells, each square of level 1, and each of level 2: nothing else was made.
	if s.Len() != 2+16+every {
		t.Errorf("%d squares", s.Len())
	}
}

// P9.2: each time all is as in a store of its own.
func TestSquareMakesOnlyWhatIsNeeded(t *testing.T) {
	for n := range every {
		s, own := fresh(t, 7), fresh(t, 7)
		x := square(t, s, base.Four(n))
		if built(t, own, n); s.Len() != own.Len() {
			t.Errorf("Square(%#04x) = %d: %d squares, want %d", n, x, s.Len(), own.Len())
		}
	}
}

// P9.2: against Inner, and against the cells by the words; at most one square is made.
func TestNext(t *testing.T) {
	s := fresh(t, enough)
	for n := range every {
		f := base.Four(n)
		x := square(t, s, f)
		there := s.Len()
		y, e := base.Next(s, x)
		if e != nil {
			t.Fatalf("Next of %#04x: %v", n, e)
		}
		var k store.Kids
		count := 0
		for i, alive := range f.Inner() {
			if alive {
				k[i] = store.Alive
				count++
			}
		}
		name := fmt.Sprintf("next of %#04x", n)
		wantTold(t, name, s, y, 1, count, k)
		if words := inner(n); words != f.Inner() {
			t.Errorf("%s: Inner %v, want %v", name, f.Inner(), words)
		}
		if again, e := base.Next(s, x); again != y || e != nil || s.Len() > there+1 {
			t.Errorf("%s: %d, and then %d, %v, %d made", name, y, again, e, s.Len()-there)
		}
		wantCells(t, name, s, x, f)
	}
}

// P9.2: there is no cell of a square outside it, so that a neighbour in a larger square counts for nothing.
func TestNextInALargerSquare(t *testing.T) {
	s := fresh(t, enough)
	row, all := square(t, s, 0x0070), square(t, s, 0xffff)
	before, e := base.Next(s, row)
	if e != nil {
		t.Fatal(e)
	}
	made(t, s, store.Kids{row, all, all, all})
	if after, e := base.Next(s, row); after != before || e != nil {
		t.Errorf("%d, %v, want %d", after, e, before)
	}
}

// P9.2: ErrArg of squares of every other level.
func TestOtherLevels(t *testing.T) {
	s := fresh(t, enough)
	for _, x := range []store.ID{store.Dead, store.Alive} {
		z := x
		for level := 0; level <= store.MostLevel; level++ {
			if s.Level(z) != level {
				t.Fatalf("square %d is of level %d, want %d", z, s.Level(z), level)
			}
			if level != 2 {
				wantNoSquare(t, fmt.Sprintf("level %d", level), s, z)
			}
			if level < store.MostLevel {
				z = made(t, s, store.Kids{z, z, z, z})
			}
		}
	}
	for n := range 16 {
		// The two lowest bits are the first row, the others the second one.
		wantNoSquare(t, "level 1", s, made(t, s, kids(n&3|n<<2&48, 0, 0)))
	}
	for _, f := range some {
		x := square(t, s, f)
		wantNoSquare(t, "level 3", s, made(t, s, store.Kids{x, x, x, x}))
		wantNoSquare(t, "level 3", s, made(t, s, store.Kids{x, built(t, s, 0), built(t, s, 0), built(t, s, 0)}))
	}
}

// P9.2: ErrArg of numbers that no square has.
func TestNoSuchSquare(t *testing.T) {
	s := fresh(t, enough)
	for range 2 {
		there := s.Len()
		for _, x := range []int{there, there + 1, there + 100, enough, 1 << 20, 1 << 31, math.MaxUint32 - 1, math.MaxUint32} {
			wantNoSquare(t, "no square", s, store.ID(x))
		}
		square(t, s, 0x1234)
	}
	// What was removed is there no longer.
	m := s.Mark()
	x := square(t, s, 0x8421)
	wantCells(t, "before", s, x, 0x8421)
	s.Back(m)
	wantNoSquare(t, "removed", s, x)
}

// P9.2: ErrArg of stores in which nothing is.
func TestNoStore(t *testing.T) {
	for name, s := range map[string]*store.Store{"nil": nil, "none of New's": {}} {
		for _, x := range []store.ID{store.Dead, store.Alive, 2, 100, math.MaxUint32} {
			wantNoSquare(t, name, s, x)
		}
		for n := range every {
			x, e := base.Square(s, base.Four(n))
			wantError(t, name+": Square", x, e, api.ErrArg)
		}
		if s.Len() != 0 {
			t.Errorf("%s: %d squares", name, s.Len())
		}
	}
}

// P9.2: in a store without room, too, what is no square of level 2 is ErrArg.
func TestOrderOfErrors(t *testing.T) {
	s := fresh(t, 2)
	if x, e := base.Square(s, 0x0660); x != 0 || fault.Code(e) != api.ErrFull {
		t.Errorf("Square = %d, %v", x, e)
	}
	for _, x := range []store.ID{store.Dead, store.Alive, 2, 3, math.MaxUint32} {
		wantNoSquare(t, "no room", s, x)
	}
	s = fresh(t, 8)
	// Its four are 2, 3 and twice 4, it is 5 itself, and its next one isn't there; levels above take the rest.
	x := square(t, s, 0x0070)
	for y := x; s.Room() > 0; {
		y = made(t, s, store.Kids{y, y, y, y})
	}
	for y := range store.ID(20) {
		if y != x {
			wantNoSquare(t, "no room", s, y)
		}
	}
	y, e := base.Next(s, x)
	wantError(t, "Next", y, e, api.ErrFull)
}

// told is what a store tells of its squares.
func told(s *store.Store) string {
	text := fmt.Sprint(s.Len(), s.Room())
	for x := range store.ID(s.Len()) {
		k, ok := s.Of(x)
		text += fmt.Sprint("; ", s.Level(x), s.Count(x), k, ok)
	}
	return text
}

// wantAsBefore checks that an error is ErrFull, and that a store is as it was.
func wantAsBefore(t *testing.T, name string, s *store.Store, before string, x store.ID, e error) {
	t.Helper()
	wantError(t, name, x, e, api.ErrFull)
	if after := told(s); after != before {
		t.Errorf("%s: %s, and before %s", name, after, before)
	}
}

// P9.2: ErrFull of Square, if and only if there isn't room for all that it makes; what was there stays.
func TestSquareFull(t *testing.T) {
	for _, there := range some {
		for _, f := range some {
			ample := fresh(t, enough)
			square(t, ample, there)
			first := ample.Len()
			want := square(t, ample, f)
			for most := first; most <= ample.Len(); most++ {
				name := fmt.Sprintf("Square(%#04x), with %#04x, room for %d", uint16(f), uint16(there), most)
				s := fresh(t, most)
				old := square(t, s, there)
				before := told(s)
				x, e := base.Square(s, f)
				if most < ample.Len() {
					wantAsBefore(t, name, s, before, x, e)
				} else if x != want || e != nil {
					t.Errorf("%s = %d, %v, want %d", name, x, e, want)
				}
				wantCells(t, name, s, old, there)
			}
		}
	}
}

// P9.2: stores of every room, with no square but the cells.
func TestSquareInSmallStores(t *testing.T) {
	for n := range every {
		ample := fresh(t, 7)
		built(t, ample, n)
		for most := 2; most <= ample.Len(); most++ {
			s := fresh(t, most)
			x, e := base.Square(s, base.Four(n))
			if most < ample.Len() {
				name := fmt.Sprintf("Square(%#04x), room for %d", n, most)
				wantError(t, name, x, e, api.ErrFull)
				if s.Len() != 2 {
					t.Errorf("%s: %d squares, want 2", name, s.Len())
				}
			} else if e != nil || s.Room() != 0 {
				t.Errorf("Square(%#04x), room for %d: %v, room for %d more", n, most, e, s.Room())
			}
		}
	}
}

// P9.2: ErrFull of Next, if and only if the square isn't there, and there is no room for it.
func TestNextFull(t *testing.T) {
	for n := range every {
		f := base.Four(n)
		ample := fresh(t, 8)
		square(t, ample, f)
		first := ample.Len()
		y, e := base.Next(ample, square(t, ample, f))
		if e != nil {
			t.Fatalf("Next of %#04x: %v", n, e)
		}
		for most := first; most <= ample.Len(); most++ {
			name := fmt.Sprintf("Next of %#04x, room for %d", n, most)
			s := fresh(t, most)
			x := square(t, s, f)
			before := told(s)
			got, e := base.Next(s, x)
			if most < ample.Len() {
				wantAsBefore(t, name, s, before, got, e)
			} else if got != y || e != nil {
				t.Errorf("%s = %d, %v, want %d", name, got, e, y)
			}
			wantCells(t, name, s, x, f)
		}
	}
}

// P9.2: after ErrFull the room that there was is there still.
func TestRoomAfterFull(t *testing.T) {
	s := fresh(t, 5)
	for range 3 {
		x, e := base.Square(s, 0x8421)
		if e != nil {
			t.Fatalf("Square(0x8421): %v", e)
		}
		wantCells(t, "in room for 5", s, x, 0x8421)
		s.Back(2)
		y, e := base.Square(s, 0x1234)
		wantError(t, "Square(0x1234)", y, e, api.ErrFull)
	}
}
