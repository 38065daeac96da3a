package clock_test

import (
	"cmp"
	"fmt"
	"slices"
	"testing"

	"belvedere/api"
	"belvedere/area"
	"belvedere/clock"
	"belvedere/evolve"
	"belvedere/fault"
	"belvedere/grid"
	"belvedere/quad"
	"belvedere/store"
)

// enough is room for all squares of a test that isn't about room.
const enough = store.MostNodes

// far is the first coordinate beyond those of near points.
const far = int64(clock.Far)

// pt is a point.
func pt(x, y int64) grid.Point {
	return grid.Point{X: x, Y: y}
}

// fresh is a store with room for so many squares.
func fresh(t *testing.T, most int) *store.Store {
	t.Helper()
	s, e := store.New(most)
	if s == nil || e != nil {
		t.Fatalf("store.New(%d) = %v, %v", most, s, e)
	}
	return s
}

// drawn are the points of rows of text that have an o; the first one of the first row is at a corner.
func drawn(corner grid.Point, rows ...string) []grid.Point {
	var l []grid.Point
	for y, row := range rows {
		for x, c := range row {
			if c == 'o' {
				l = append(l, pt(corner.X+int64(x), corner.Y+int64(y)))
			}
		}
	}
	return l
}

// glider moves by one to the right, and one down, in four generations.
func glider(x, y int64) []grid.Point {
	return drawn(pt(x, y), ".o.", "..o", "ooo")
}

// moved are points elsewhere.
func moved(l []grid.Point, by grid.Point) []grid.Point {
	l = slices.Clone(l)
	for i, p := range l {
		l[i] = pt(p.X+by.X, p.Y+by.Y)
	}
	return l
}

// sorted are points in order, each once.
func sorted(l []grid.Point) []grid.Point {
	l = slices.Clone(l)
	slices.SortFunc(l, func(a, b grid.Point) int {
		return cmp.Or(cmp.Compare(a.Y, b.Y), cmp.Compare(a.X, b.X))
	})
	return slices.Compact(l)
}

// after are the living cells so many generations later, by the rule, cell by cell.
func after(l []grid.Point, n uint64) []grid.Point {
	for range n {
		near := make(map[grid.Point]int)
		for _, p := range l {
			for y := int64(-1); y <= 1; y++ {
				for x := int64(-1); x <= 1; x++ {
					near[pt(p.X+x, p.Y+y)]++
				}
			}
		}
		// The cell itself is counted too, if it lives.
		var next []grid.Point
		for p, c := range near {
			if c == 3 || c == 4 && slices.Contains(l, p) {
				next = append(next, p)
			}
		}
		l = next
	}
	return sorted(l)
}

// lowest is the lowest level of a plane that has all points: the reckoning by the words.
func lowest(l []grid.Point) int {
	for level := 3; ; level++ {
		half := int64(1) << (level - 1)
		if !slices.ContainsFunc(l, func(p grid.Point) bool {
			return p.X < -half || p.X >= half || p.Y < -half || p.Y >= half
		}) {
			return level
		}
	}
}

// timeOf is the time of a generation that has these living cells, of a level as low as may be.
func timeOf(t *testing.T, s *store.Store, gen uint64, l []grid.Point) clock.Time {
	t.Helper()
	p, e := quad.New(s)
	for _, c := range l {
		if e == nil {
			p, e = p.Set(c, true)
		}
	}
	if e != nil {
		t.Fatal(e)
	}
	return clock.Time{Plane: p, Gen: gen}
}

// raised is a time of a higher level.
func raised(t *testing.T, x clock.Time, level int) clock.Time {
	t.Helper()
	for x.Level(x.Root) < level {
		p, e := x.Expand()
		if e != nil {
			t.Fatal(e)
		}
		x.Plane = p
	}
	return x
}

// wantTime checks a time: its store, generation, level and living cells.
func wantTime(t *testing.T, name string, s *store.Store, x clock.Time, e error, gen uint64, l []grid.Point) {
	t.Helper()
	if e != nil || x.Store != s || x.Gen != gen || x.Level(x.Root) != lowest(l) {
		t.Errorf("%s: %v, generation %d, level %d, want generation %d, level %d", name, e, x.Gen, x.Level(x.Root), gen, lowest(l))
		return
	}
	box, _ := area.Box(x.Plane)
	if got, _ := area.Cells(x.Plane, box, len(l)); !slices.Equal(got, sorted(l)) || x.Count(x.Root) != uint64(len(l)) {
		t.Errorf("%s: %d cells, %v, want %v", name, x.Count(x.Root), got, sorted(l))
	}
}

// wantStep checks a step, and that the time from which it goes stays what it was.
func wantStep(t *testing.T, name string, x clock.Time, m *evolve.Memo, n uint64, l []grid.Point) clock.Time {
	t.Helper()
	before, count := x, x.Count(x.Root)
	y, e := x.Step(m, n)
	wantTime(t, fmt.Sprintf("%s, %d generations", name, n), x.Store, y, e, x.Gen+n, l)
	if x != before || x.Count(x.Root) != count {
		t.Errorf("%s: Step changed %v to %v", name, before, x)
	}
	there := x.Len()
	if z, e := x.Step(m, n); z != y || e != nil || x.Len() != there {
		t.Errorf("%s: %d generations, again: %v, %v, %d squares made, and before %v", name, n, z, e, x.Len()-there, y)
	}
	return y
}

// wantError checks that a step returns an error's number and nothing else, and makes no square.
func wantError(t *testing.T, name string, x clock.Time, m *evolve.Memo, n uint64, want api.Errno) {
	t.Helper()
	there := x.Len()
	y, e := x.Step(m, n)
	if y != (clock.Time{}) || e == nil || fault.Code(e) != want || !fault.Is(e, want) {
		t.Errorf("%s: %v, %v, want no time, %v", name, y, e, want)
	}
	if x.Len() != there {
		t.Errorf("%s: %d squares made", name, x.Len()-there)
	}
}

// dice are numbers that look like thrown ones, the same in each run.
type dice uint64

// below is the next number, from 0 on, below n.
func (d *dice) below(n int) int {
	*d = *d*6364136223846793005 + 1442695040888963407
	return int(uint64(*d) >> 33 % uint64(n))
}

// thrown are points of a square of a side, so many of a hundred, somewhere around the point 0, 0.
func (d *dice) thrown(side, part int) []grid.Point {
	corner := pt(int64(d.below(2*side)-2*side), int64(d.below(2*side)-2*side))
	var l []grid.Point
	for y := range side {
		for x := range side {
			if d.below(100) < part {
				l = append(l, pt(corner.X+int64(x), corner.Y+int64(y)))
			}
		}
	}
	return l
}

// The chapter's constant.
func TestFar(t *testing.T) {
	if clock.Far != 288230376151711744 {
		t.Error(far)
	}
}

// The chapter's example: three in a row, one generation later: three in a column.
func TestRow(t *testing.T) {
	s := fresh(t, enough)
	x, e := clock.New(s)
	for i := range 3 {
		if e == nil {
			x.Plane, e = x.Set(pt(int64(i), 0), true)
		}
	}
	if e != nil {
		t.Fatal(e)
	}
	wantStep(t, "a row", x, evolve.New(s), 1, []grid.Point{pt(1, -1), pt(1, 0), pt(1, 1)})
}

// P11.1: New is layer 7's, of generation 0.
func TestNew(t *testing.T) {
	s := fresh(t, enough)
	for range 2 {
		x, e := clock.New(s)
		wantTime(t, "New", s, x, e, 0, nil)
		if p, e := quad.New(s); x.Plane != p || e != nil {
			t.Errorf("New = %v, and layer 7's %v, %v", x, p, e)
		}
	}
	// A cell, and the empty squares of levels 1 to 3.
	full := fresh(t, 5)
	x, e := clock.New(full)
	wantTime(t, "as little room as may be", full, x, e, 0, nil)
}

// P11.1: New returns layer 7's error.
func TestNewErrors(t *testing.T) {
	for _, c := range []struct {
		name string
		s    *store.Store
		want api.Errno
	}{
		{"nil", nil, api.ErrArg},
		{"a store that New didn't make", &store.Store{}, api.ErrArg},
		{"no room", fresh(t, 4), api.ErrFull},
		{"no room at all", fresh(t, 2), api.ErrFull},
	} {
		x, e := clock.New(c.s)
		if x != (clock.Time{}) || fault.Code(e) != c.want || !fault.Is(e, c.want) {
			t.Errorf("%s: %v, %v, want no time, %v", c.name, x, e, c.want)
		}
	}
}

// P11.1: small patterns, against the rule, cell by cell.
func TestAgainstTheRule(t *testing.T) {
	d := dice(11)
	for n := range 60 {
		side := 1 + d.below(12)
		l := d.thrown(side, 20+d.below(60))
		s := fresh(t, enough)
		x, m := timeOf(t, s, uint64(n), l), evolve.New(s)
		for gen := range uint64(20) {
			wantStep(t, fmt.Sprintf("pattern %d", n), x, m, gen, after(l, gen))
		}
	}
}

// P11.1: all patterns of three by three cells.
func TestAllOfThreeByThree(t *testing.T) {
	s := fresh(t, enough)
	m := evolve.New(s)
	for n := range 1 << 9 {
		var l []grid.Point
		for i := range 9 {
			if n>>i&1 == 1 {
				l = append(l, pt(int64(i%3)-1, int64(i/3)-1))
			}
		}
		x := timeOf(t, s, 0, l)
		for gen := range uint64(4) {
			wantStep(t, fmt.Sprintf("pattern %#o", n), x, m, gen, after(l, gen))
		}
	}
}

// P11.1: a plane of any level comes to the same.
func TestOfAnyLevel(t *testing.T) {
	s := fresh(t, enough)
	m := evolve.New(s)
	l := drawn(pt(-1, -1), ".oo", "oo.", ".o.")
	for level := 3; level <= store.MostLevel; level++ {
		x := raised(t, timeOf(t, s, 7, l), level)
		for _, n := range []uint64{0, 1, 2, 13} {
			wantStep(t, fmt.Sprintf("level %d", level), x, m, n, after(l, n))
		}
	}
}

// P11.1: the lowest level is lower than before, since a cell far off dies.
func TestLowerLevel(t *testing.T) {
	s := fresh(t, enough)
	m := evolve.New(s)
	for k := 4; k <= 58; k++ {
		alone := int64(1) << k
		for _, p := range []grid.Point{pt(alone-1, 0), pt(-alone, 0), pt(0, alone-1), pt(0, -alone)} {
			l := append(drawn(pt(-1, 0), "ooo"), p)
			x := timeOf(t, s, 0, l)
			name := fmt.Sprintf("alone at %v", p)
			wantStep(t, name, x, m, 0, l)
			y := wantStep(t, name, x, m, 1, drawn(pt(0, -1), "o", "o", "o"))
			if x.Level(x.Root) != k+1 || y.Level(y.Root) != 3 {
				t.Errorf("%s: level %d, and then %d", name, x.Level(x.Root), y.Level(y.Root))
			}
		}
	}
}

// P11.1: the lowest level is higher than before, since cells live beyond the edge.
func TestHigherLevel(t *testing.T) {
	s := fresh(t, enough)
	m := evolve.New(s)
	for k := 2; k <= 58; k++ {
		edge := int64(1) << k
		for _, at := range []int64{edge - 1, -edge} {
			l, later := drawn(pt(-1, at), "ooo"), drawn(pt(0, at-1), "o", "o", "o")
			x := timeOf(t, s, 0, l)
			wantStep(t, "at the edge", x, m, 0, l)
			y := wantStep(t, "at the edge", x, m, 1, later)
			if x.Level(x.Root) != k+1 || y.Level(y.Root) != k+2 {
				t.Errorf("at %d: level %d, and then %d", at, x.Level(x.Root), y.Level(y.Root))
			}
			wantStep(t, "at the edge", x, m, 2, l)
		}
	}
}

// P11.1: patterns that die out, at once or later; what has no cell may go on for long.
func TestDieOut(t *testing.T) {
	s := fresh(t, enough)
	m := evolve.New(s)
	for _, c := range []struct {
		l     []grid.Point
		lives uint64
	}{
		{nil, 0},
		{drawn(pt(0, 0), "o"), 1},
		{drawn(pt(-1, -1), "o.o.o"), 1},
		{drawn(pt(3, 3), "o..", ".o.", "..o"), 2},
		{drawn(pt(-7, 2), "o.....", ".o....", "..o...", "...o..", "....o.", ".....o"), 3},
		{drawn(pt(-far, far-1), "o"), 1},
	} {
		x := timeOf(t, s, 5, c.l)
		for n := range c.lives {
			if y := wantStep(t, "while it lives", x, m, n, after(c.l, n)); y.Count(y.Root) == 0 {
				t.Errorf("%v: no cell after %d generations", c.l, n)
			}
		}
		for _, n := range []uint64{c.lives, c.lives + 1, 1000, 1<<40 + 3, clock.Far - 1} {
			wantStep(t, "afterwards", x, m, n, nil)
		}
	}
}

// P11.1: without living cells there is no end but that of generations.
func TestNothing(t *testing.T) {
	s := fresh(t, enough)
	m := evolve.New(s)
	for level := 3; level <= store.MostLevel; level++ {
		x := raised(t, timeOf(t, s, 0, nil), level)
		for _, n := range []uint64{0, 1, clock.Far - 1, clock.Far, clock.Far + 1, api.MaxGen - 1, api.MaxGen} {
			wantStep(t, "nothing", x, m, n, nil)
		}
		wantError(t, "nothing", x, m, api.MaxGen+1, api.ErrRange)
	}
}
