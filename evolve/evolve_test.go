package evolve_test

import (
	"fmt"
	"math"
	"slices"
	"testing"

	"belvedere/api"
	"belvedere/evolve"
	"belvedere/fault"
	"belvedere/store"
)

// enough is room for all squares of a test.
const enough = store.MostNodes

// fresh is a store with room for so many squares.
func fresh(t *testing.T, most int) *store.Store {
	t.Helper()
	s, e := store.New(most)
	if s == nil || e != nil {
		t.Fatalf("New(%d) = %v, %v", most, s, e)
	}
	return s
}

// made is the square of four.
func made(t *testing.T, s *store.Store, k store.Kids) store.ID {
	t.Helper()
	x, e := s.Make(k)
	if e != nil {
		t.Fatalf("Make(%v): %v", k, e)
	}
	return x
}

// dice are numbers that look like thrown ones, the same in each run.
type dice uint64

// below is the next number, from 0 on, below n.
func (d *dice) below(n int) int {
	*d = *d*6364136223846793005 + 1442695040888963407
	return int(uint64(*d) >> 33 % uint64(n))
}

// board is the cells of a square, row by row.
type board [][]bool

// dead is a board of a side without living cells.
func dead(side int) board {
	b := make(board, side)
	for y := range b {
		b[y] = make([]bool, side)
	}
	return b
}

// drawn is a board of a level of rows of text, in which an o is a living cell; the rest is dead.
func drawn(level int, rows ...string) board {
	b := dead(1 << level)
	for y, row := range rows {
		for x, c := range row {
			b[y][x] = c == 'o'
		}
	}
	return b
}

// thrown is a board of a level in which so many of a hundred cells live.
func (d *dice) thrown(level, part int) board {
	b := dead(1 << level)
	for _, row := range b {
		for x := range row {
			row[x] = d.below(100) < part
		}
	}
	return b
}

// at tells whether a cell is alive; outside they are all as beyond tells.
func (b board) at(x, y int, beyond bool) bool {
	if x < 0 || y < 0 || x >= len(b) || y >= len(b) {
		return beyond
	}
	return b[y][x]
}

// near counts the living neighbours of a cell.
func (b board) near(x, y int, beyond bool) int {
	n := 0
	for _, d := range [][2]int{{-1, -1}, {0, -1}, {1, -1}, {-1, 0}, {1, 0}, {-1, 1}, {0, 1}, {1, 1}} {
		if b.at(x+d[0], y+d[1], beyond) {
			n++
		}
	}
	return n
}

// next is the board one generation later, by the rule, cell by cell.
func (b board) next(beyond bool) board {
	after := dead(len(b))
	for y, row := range b {
		for x, alive := range row {
			switch b.near(x, y, beyond) {
			case 3:
				after[y][x] = true
			case 2:
				after[y][x] = alive
			}
		}
	}
	return after
}

// part is a square board of a board, from a cell on.
func (b board) part(x, y, side int) board {
	var l board
	for _, row := range b[y : y+side] {
		l = append(l, slices.Clone(row[x:x+side]))
	}
	return l
}

// middle is the half in the middle.
func (b board) middle() board {
	n := len(b)
	return b.part(n/4, n/4, n/2)
}

// after is what the successor is by the words, as long as the cells outside are as beyond tells.
func (b board) after(power int, beyond bool) board {
	for range 1 << power {
		b = b.next(beyond)
	}
	return b.middle()
}

// built is the square of a board, made by the store alone.
func (b board) built(t *testing.T, s *store.Store) store.ID {
	t.Helper()
	if len(b) == 1 {
		if b[0][0] {
			return store.Alive
		}
		return store.Dead
	}
	half := len(b) / 2
	var k store.Kids
	for i := range k {
		k[i] = b.part(half*(i&1), half*(i>>1), half).built(t, s)
	}
	return made(t, s, k)
}

// same tells whether two boards have the same cells.
func (b board) same(c board) bool {
	return slices.EqualFunc(b, c, slices.Equal[[]bool])
}

// shown is a board of a square, told by the store alone.
func shown(s *store.Store, x store.ID) board {
	k, ok := s.Of(x)
	if !ok {
		return board{{x == store.Alive}}
	}
	half := 1 << (s.Level(x) - 1)
	b := dead(2 * half)
	for i, y := range k {
		for r, row := range shown(s, y) {
			copy(b[half*(i>>1)+r][half*(i&1):], row)
		}
	}
	return b
}

// next is the successor, which must be there.
func next(t *testing.T, m *evolve.Memo, x store.ID, power int) store.ID {
	t.Helper()
	y, e := m.Next(x, power)
	if e != nil {
		t.Fatalf("Next(%d, %d), level %d: %v", x, power, m.Level(x), e)
	}
	return y
}

// wantNext checks a successor against its cells, and that it is there when it is told again.
func wantNext(t *testing.T, name string, m *evolve.Memo, x store.ID, power int, want board) store.ID {
	t.Helper()
	y, e := m.Next(x, power)
	if e != nil || m.Level(y) != m.Level(x)-1 {
		t.Fatalf("%s: Next(%d, %d) = %d, %v, of level %d", name, x, power, y, e, m.Level(y))
	}
	if got := shown(m.Store, y); !got.same(want) {
		t.Errorf("%s: Next(%d, %d) = %d, with the cells %v, want %v", name, x, power, y, got, want)
	}
	there, known := m.Len(), m.Known()
	if known < 1 {
		t.Errorf("%s: Known = %d", name, known)
	}
	if again, e := m.Next(x, power); again != y || e != nil || m.Len() != there || m.Known() != known {
		t.Errorf("%s: Next(%d, %d) = %d, and then %d, %v, %d squares made, %d known and %d before", name, x, power, y, again, e, m.Len()-there, m.Known(), known)
	}
	return y
}

// wantNoNext checks an error, and that nothing is made, or known.
func wantNoNext(t *testing.T, name string, m *evolve.Memo, x store.ID, power int, n api.Errno) {
	t.Helper()
	there, known := 0, m.Known()
	if m != nil {
		there = m.Len()
	}
	y, e := m.Next(x, power)
	if y != 0 || fault.Code(e) != n || !fault.Is(e, n) {
		t.Errorf("%s: Next(%d, %d) = %d, %v, want 0, %v", name, x, power, y, e, n)
	}
	if m != nil && m.Len() != there || m.Known() != known {
		t.Errorf("%s: Next(%d, %d) made squares, or %d are known, and %d before", name, x, power, m.Known(), known)
	}
}

// The chapter's example: for a block in the middle of level 3, the block.
func TestBlock(t *testing.T) {
	b := drawn(3, "", "", "", "...oo", "...oo")
	block := drawn(2, "", ".oo.", ".oo.")
	for power := range 2 {
		s := fresh(t, enough)
		y := wantNext(t, "block", evolve.New(s), b.built(t, s), power, block)
		if y != block.built(t, s) {
			t.Errorf("the block is square %d", y)
		}
	}
}

// P10.1: each square of level 2.
func TestEachOfLevel2(t *testing.T) {
	s := fresh(t, enough)
	m := evolve.New(s)
	for n := range 1 << 16 {
		b := dead(4)
		for i := range 16 {
			b[i/4][i%4] = n>>i&1 == 1
		}
		x := b.built(t, s)
		there := s.Len()
		wantNext(t, fmt.Sprintf("%#04x", n), m, x, 0, b.after(0, false))
		if s.Len() > there+1 || m.Known() != n+1 {
			t.Fatalf("%#04x: %d squares made, %d known, want %d", n, s.Len()-there, m.Known(), n+1)
		}
	}
}

// P10.1: squares of each level and with each power, against the rule, cell by cell.
func TestAgainstTheRule(t *testing.T) {
	d := dice(10)
	for level := 2; level <= 7; level++ {
		for _, part := range []int{0, 3, 20, 35, 50, 80, 100} {
			b := d.thrown(level, part)
			s := fresh(t, enough)
			x, m := b.built(t, s), evolve.New(s)
			for power := 0; power <= level-2; power++ {
				name := fmt.Sprintf("level %d, %d%%", level, part)
				y := wantNext(t, name, m, x, power, b.after(power, false))
				if alone := next(t, evolve.New(s), x, power); alone != y {
					t.Errorf("%s, power %d: %d, by another memo %d", name, power, y, alone)
				}
			}
			if !shown(s, x).same(b) {
				t.Errorf("level %d: square %d has other cells than before", level, x)
			}
		}
	}
}

// P10.1: many small squares in one memo, of which some have parts in common.
func TestManySmall(t *testing.T) {
	d := dice(11)
	s := fresh(t, enough)
	m := evolve.New(s)
	for n := range 1500 {
		level := 2 + d.below(4)
		b := d.thrown(level, 20+d.below(40))
		power := d.below(level - 1)
		wantNext(t, fmt.Sprint("square ", n), m, b.built(t, s), power, b.after(power, false))
	}
}

// P10.1: one living cell more or less, at each place of a square, and three in a row there.
func TestEachPlace(t *testing.T) {
	s := fresh(t, enough)
	m := evolve.New(s)
	for level := 2; level <= 4; level++ {
		side := 1 << level
		for i := range side * side {
			one, row, hole := dead(side), dead(side), dead(side)
			for j := range side * side {
				x, y := j%side, j/side
				one[y][x] = j == i
				row[y][x] = y == i/side && (x == i%side || x == i%side+1 || x == i%side+2)
				hole[y][x] = j != i && (x+y)%3 == 0
			}
			for power := range level - 1 {
				for name, b := range map[string]board{"one": one, "row": row, "hole": hole} {
					wantNext(t, fmt.Sprint(name, " at ", i), m, b.built(t, s), power, b.after(power, false))
				}
			}
		}
	}
}

// P10.1: the cells outside don't matter, as far as they are: all dead, all alive, or a larger square.
func TestOutside(t *testing.T) {
	d := dice(12)
	for level := 2; level <= 6; level++ {
		for power := 0; power <= level-2; power++ {
			name := fmt.Sprintf("level %d, power %d", level, power)
			around := d.thrown(level+1, 40)
			b := around.middle()
			if !b.after(power, false).same(b.after(power, true)) {
				t.Fatalf("%s: the words don't hold", name)
			}
			s := fresh(t, enough)
			m := evolve.New(s)
			y := wantNext(t, name, m, b.built(t, s), power, b.after(power, true))
			outer := next(t, m, around.built(t, s), power)
			if z := shown(s, outer).middle().built(t, s); z != y {
				t.Errorf("%s: %d, within another one %d", name, y, z)
			}
		}
	}
}

// raised is the square of a level with one in its middle, and dead cells around it.
func raised(t *testing.T, s *store.Store, x store.ID, level int) store.ID {
	t.Helper()
	for n := s.Level(x); n < level; n++ {
		empty, e := s.Empty(n - 1)
		if e != nil {
			t.Fatal(e)
		}
		k, _ := s.Of(x)
		for i, y := range k {
			part := store.Kids{empty, empty, empty, empty}
			part[3-i] = y
			k[i] = made(t, s, part)
		}
		x = made(t, s, k)
	}
	return x
}

// glider is one that goes to the right and downward, at a place from the middle of a board.
func glider(level, at int) board {
	b := dead(1 << level)
	mid := 1<<(level-1) + at
	for _, c := range [][2]int{{0, -1}, {1, 0}, {-1, 1}, {0, 1}, {1, 1}} {
		b[mid+c[1]][mid+c[0]] = true
	}
	return b
}

// P10.1: up to the highest level, and the most generations: what stays, what comes back, and what moves.
func TestHighLevels(t *testing.T) {
	block := drawn(3, "", "", "", "...oo", "...oo")
	row := drawn(3, "", "", "", "", "...ooo")
	column := drawn(3, "", "", "", "....o", "....o", "....o")
	for level := 5; level <= 62; level++ {
		s := fresh(t, enough)
		m := evolve.New(s)
		empty, _ := s.Empty(level)
		less, _ := s.Empty(level - 1)
		for power := 0; power <= level-2; power++ {
			name := fmt.Sprintf("level %d, power %d: ", level, power)
			if y := next(t, m, empty, power); y != less {
				t.Errorf("%sempty: %d, want %d", name, y, less)
			}
			if y := next(t, m, raised(t, s, block.built(t, s), level), power); y != raised(t, s, block.built(t, s), level-1) {
				t.Errorf("%sthe block is another one", name)
			}
			after := column
			if power > 0 {
				after = row
			}
			if y := next(t, m, raised(t, s, row.built(t, s), level), power); y != raised(t, s, after.built(t, s), level-1) {
				t.Errorf("%sthe row of three is wrong", name)
			}
			alive := store.Alive
			for range level {
				alive = made(t, s, store.Kids{alive, alive, alive, alive})
			}
			if y := next(t, m, alive, power); y != less {
				t.Errorf("%sall alive: %d, want %d", name, y, less)
			}
		}
	}
}

// P10.1: a glider moves by a cell in four generations, however far.
func TestGliderFar(t *testing.T) {
	for level := 6; level <= 62; level++ {
		s := fresh(t, enough)
		m := evolve.New(s)
		start := raised(t, s, glider(4, 0).built(t, s), level)
		for power := 2; power <= level-2; power++ {
			y := next(t, m, start, power)
			// The first cell of the glider's three by three was at -1, -1 from the middle.
			far := uint64(1)<<(power-2) - 1
			want := board{{false, true, false}, {false, false, true}, {true, true, true}}
			if s.Count(y) != 5 || s.Level(y) != level-1 {
				t.Fatalf("level %d, power %d: %d living cells, level %d", level, power, s.Count(y), s.Level(y))
			}
			for r, l := range want {
				for c, alive := range l {
					if got := cellAt(s, y, far+uint64(c), far+uint64(r)); got != alive {
						t.Errorf("level %d, power %d: the cell %d, %d of the glider is %v", level, power, c, r, got)
					}
				}
			}
		}
	}
}

// cellAt tells whether a cell is alive, so far to the right of, and below the middle.
func cellAt(s *store.Store, x store.ID, right, below uint64) bool {
	level := s.Level(x)
	right += 1 << (level - 1)
	below += 1 << (level - 1)
	for n := level - 1; n >= 0; n-- {
		k, _ := s.Of(x)
		x = k[right>>n&1+2*(below>>n&1)]
	}
	return x == store.Alive
}

// P10.1: what isn't a square of level 2 or higher.
func TestNoSuchSquare(t *testing.T) {
	s := fresh(t, enough)
	m := evolve.New(s)
	var l []store.ID
	for n := range 16 {
		l = append(l, made(t, s, store.Kids{store.ID(n & 1), store.ID(n >> 1 & 1), store.ID(n >> 2 & 1), store.ID(n >> 3)}))
	}
	x := made(t, s, store.Kids{l[3], l[5], l[9], l[15]})
	next(t, m, x, 0)
	there := store.ID(s.Len())
	l = append(l, store.Dead, store.Alive, there, there+1, there+1000, 1<<20, 1<<31, math.MaxUint32)
	for _, y := range l {
		for _, power := range []int{0, 1, -1, -2, -3, 60, 61, math.MinInt, math.MaxInt, math.MinInt + 2} {
			wantNoNext(t, "no square", m, y, power, api.ErrArg)
		}
	}
}

// P10.1: powers that can't be, of squares of each level.
func TestNoSuchPower(t *testing.T) {
	s := fresh(t, enough)
	m := evolve.New(s)
	for level := 2; level <= 62; level++ {
		empty, _ := s.Empty(level)
		b := raised(t, s, drawn(2, "", ".oo.", ".oo.").built(t, s), level)
		for _, x := range []store.ID{empty, b} {
			for _, power := range []int{-1, -2, -level, -62, -64, level - 1, level, level + 1, 61, 62, 63, 64, 65, 256, 1 << 16, 1 << 32, 1<<32 + level - 2, math.MinInt, math.MinInt + 1, math.MinInt + level - 2, math.MaxInt} {
				wantNoNext(t, fmt.Sprint("level ", level), m, x, power, api.ErrArg)
			}
			next(t, m, x, level-2)
			wantNoNext(t, "after the greatest one", m, x, level-1, api.ErrArg)
			wantNoNext(t, "after the greatest one", m, x, -1, api.ErrArg)
		}
	}
}

// P10.1: ErrArg is told ahead of ErrFull.
func TestErrArgFirst(t *testing.T) {
	s := fresh(t, 2)
	m := evolve.New(s)
	wantNoNext(t, "no squares", m, store.Alive, 0, api.ErrArg)
	wantNoNext(t, "no squares", m, 2, 0, api.ErrArg)

	b := drawn(3, "", "", "...oo", "..oo", "...o")
	s = fresh(t, enough)
	b.built(t, s)
	s = fresh(t, s.Len())
	m = evolve.New(s)
	x := b.built(t, s)
	k, _ := s.Of(x)
	quarters, _ := s.Of(k[0])
	for _, y := range []store.ID{store.Dead, store.Alive, quarters[0], x + 1, math.MaxUint32} {
		wantNoNext(t, "no room, no square", m, y, 0, api.ErrArg)
	}
	for _, power := range []int{-1, 2, 3, math.MinInt, math.MaxInt} {
		wantNoNext(t, "no room, no power", m, x, power, api.ErrArg)
	}
	for power := range 2 {
		if y, e := m.Next(x, power); y != 0 || !fault.Is(e, api.ErrFull) || fault.Code(e) != api.ErrFull || s.Room() != 0 {
			t.Errorf("Next(%d, %d) = %d, %v, without room", x, power, y, e)
		}
	}
}

// P10.2: a nil memo.
func TestNilMemo(t *testing.T) {
	var m *evolve.Memo
	for _, x := range []store.ID{0, 1, 2, 20, math.MaxUint32} {
		for _, power := range []int{0, 1, -1, math.MinInt, math.MaxInt} {
			wantNoNext(t, "nil memo", m, x, power, api.ErrArg)
		}
	}
	m.Forget()
	m.Change(func(x store.ID) (store.ID, bool) {
		t.Error("something is known")
		return x, true
	})
	m.Change(nil)
	if m.Known() != 0 {
		t.Errorf("Known = %d", m.Known())
	}
}

// Stores without squares have no successors.
func TestNoStore(t *testing.T) {
	for name, m := range map[string]*evolve.Memo{
		"nil store":  evolve.New(nil),
		"no store":   {},
		"zero store": evolve.New(&store.Store{}),
	} {
		for _, x := range []store.ID{0, 1, 2, 20, math.MaxUint32} {
			wantNoNext(t, name, m, x, 0, api.ErrArg)
		}
		m.Forget()
		m.Change(func(x store.ID) (store.ID, bool) { return x, true })
		if m.Known() != 0 {
			t.Errorf("%s: Known = %d", name, m.Known())
		}
	}
	// A memo that New didn't make, but with a store.
	b := drawn(3, "", "", "", "...oo", "...oo")
	s := fresh(t, enough)
	wantNext(t, "not by New", &evolve.Memo{Store: s}, b.built(t, s), 1, b.after(1, false))
}
