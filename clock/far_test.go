package clock_test

import (
	"fmt"
	"math"
	"slices"
	"testing"

	"belvedere/api"
	"belvedere/clock"
	"belvedere/evolve"
	"belvedere/grid"
	"belvedere/quad"
	"belvedere/store"
)

// many are numbers of generations, the greatest that may be among them.
func many() []uint64 {
	return []uint64{100, 1001, 65535, 1<<20 + 2, 1<<31 - 1, 1 << 32, 1<<40 + 5, 1<<57 - 1, 1 << 57, clock.Far - 6, clock.Far - 5, clock.Far - 4, clock.Far - 3, clock.Far - 2, clock.Far - 1}
}

// course is a pattern that is the same again after a number of generations, but that it has moved.
type course struct {
	name string
	l    []grid.Point
	time uint64
	by   grid.Point
}

// courses are patterns that stay, and ones that move.
func courses() []course {
	return []course{
		{"block", drawn(pt(0, 0), "oo", "oo"), 1, pt(0, 0)},
		{"beehive", drawn(pt(-9, 4), ".oo.", "o..o", ".oo."), 1, pt(0, 0)},
		{"blinker", drawn(pt(-1, 0), "ooo"), 2, pt(0, 0)},
		{"toad", drawn(pt(100, -77), ".ooo", "ooo."), 2, pt(0, 0)},
		{"pulsar", drawn(pt(-6, -6), "..ooo...ooo..", "", "o....o.o....o", "o....o.o....o", "o....o.o....o", "..ooo...ooo..", "", "..ooo...ooo..", "o....o.o....o", "o....o.o....o", "o....o.o....o", "", "..ooo...ooo.."), 3, pt(0, 0)},
		{"pentadecathlon", drawn(pt(0, 0), "..o....o..", "oo.oooo.oo", "..o....o.."), 15, pt(0, 0)},
		{"glider", glider(-1, -1), 4, pt(1, 1)},
		{"ship", drawn(pt(0, 0), ".o..o", "o....", "o...o", "oooo."), 4, pt(-2, 0)},
	}
}

// later are the living cells of a course so many generations later.
func (c course) later(n uint64) []grid.Point {
	times := int64(n / c.time)
	return moved(after(c.l, n%c.time), pt(c.by.X*times, c.by.Y*times))
}

// P11.1: great numbers of generations, of patterns of which the course is known.
func TestCourses(t *testing.T) {
	for _, c := range courses() {
		s := fresh(t, enough)
		m := evolve.New(s)
		x := timeOf(t, s, 3, c.l)
		for n := range uint64(20) {
			if !slices.Equal(c.later(n), after(c.l, n)) {
				t.Fatalf("%s isn't what the test takes it for", c.name)
			}
			wantStep(t, c.name, x, m, n, c.later(n))
		}
		for _, n := range many() {
			wantStep(t, c.name, x, m, n, c.later(n))
		}
	}
}

// P11.1: gliders in all four directions, at the edges of what is near: towards the middle, and away from it.
func TestGlidersFar(t *testing.T) {
	s := fresh(t, enough)
	m := evolve.New(s)
	for _, n := range []uint64{1, 3, 4, 1000, clock.Far - 4, clock.Far - 1} {
		for _, at := range []grid.Point{pt(-far, -far), pt(far-3, far-3), pt(-far, far-3), pt(far-3, -far), pt(0, 0)} {
			g := course{"glider", glider(at.X, at.Y), 4, pt(1, 1)}
			for turn := range 4 {
				x := timeOf(t, s, 0, mirrored(g.l, at, turn))
				to := mirrored(g.later(n), at, turn)
				y := wantStep(t, fmt.Sprintf("glider at %v, turn %d", at, turn), x, m, n, to)
				if y.Level(y.Root) > 60 {
					t.Errorf("level %d", y.Level(y.Root))
				}
			}
		}
	}
}

// mirrored are points turned over, within three by three cells at a corner: from left to right, or up and down, or both.
func mirrored(l []grid.Point, at grid.Point, turn int) []grid.Point {
	l = slices.Clone(l)
	for i, p := range l {
		if turn&1 > 0 {
			l[i].X = 2*at.X + 2 - p.X
		}
		if turn&2 > 0 {
			l[i].Y = 2*at.Y + 2 - p.Y
		}
	}
	return l
}

// P11.1: cells in the corners of what is near.
func TestCornersOfNear(t *testing.T) {
	s := fresh(t, enough)
	m := evolve.New(s)
	var l []grid.Point
	for _, at := range []grid.Point{pt(-far, -far), pt(far-2, -far), pt(-far, far-2), pt(far-2, far-2)} {
		l = append(l, drawn(at, "oo", "oo")...)
	}
	for level := 59; level <= store.MostLevel; level++ {
		x := raised(t, timeOf(t, s, 0, l), level)
		for _, n := range append(many(), 0, 1, 2) {
			wantStep(t, "blocks", x, m, n, l)
		}
		wantError(t, "blocks", x, m, clock.Far, api.ErrRange)
	}
}

// P11.1: one cell beyond what is near, on each side: only no generation at all is possible.
func TestBeyondNear(t *testing.T) {
	s := fresh(t, enough)
	m := evolve.New(s)
	for _, p := range []grid.Point{
		pt(-far-1, 0), pt(far, 0), pt(0, -far-1), pt(0, far), pt(far, far), pt(-far-1, -far-1), pt(far, -far-1), pt(-far-1, far), pt(far, -far), pt(far-1, far),
		pt(1<<60, 0), pt(0, -1<<60), pt(api.Edge-1, api.Edge-1), pt(1-api.Edge, 1-api.Edge), pt(1-api.Edge, 0),
	} {
		for _, l := range [][]grid.Point{{p}, append(drawn(pt(0, 0), "oo", "oo"), p)} {
			for level := 60; level <= store.MostLevel; level++ {
				x := raised(t, timeOf(t, s, 9, l), level)
				wantStep(t, "far", x, m, 0, l)
				for _, n := range []uint64{1, 2, 1000, clock.Far - 1, clock.Far, api.MaxGen - 9} {
					wantError(t, fmt.Sprintf("%v", p), x, m, n, api.ErrRange)
				}
			}
		}
	}
}

// P11.1: cells on each side just near, alone, of planes that have room for more: they die, or stay.
func TestJustNear(t *testing.T) {
	s := fresh(t, enough)
	m := evolve.New(s)
	for _, p := range []grid.Point{pt(-far, 0), pt(far-1, 0), pt(0, -far), pt(0, far-1), pt(far-1, far-1), pt(-far, -far), pt(far-1, -far), pt(-far, far-1)} {
		for level := 59; level <= store.MostLevel; level++ {
			x := raised(t, timeOf(t, s, 0, []grid.Point{p}), level)
			wantStep(t, "alone", x, m, 0, []grid.Point{p})
			wantStep(t, "alone", x, m, 1, nil)
			wantStep(t, "alone", x, m, clock.Far-1, nil)
			wantError(t, "alone", x, m, clock.Far, api.ErrRange)
		}
	}
}

// P11.1: what was near may have gone too far for a further step, but not for that one.
func TestGoneTooFar(t *testing.T) {
	s := fresh(t, enough)
	m := evolve.New(s)
	g := course{"glider", glider(far-3, far-3), 4, pt(1, 1)}
	y := wantStep(t, "glider", timeOf(t, s, 0, g.l), m, clock.Far-4, g.later(clock.Far-4))
	wantError(t, "glider", y, m, 1, api.ErrRange)
	wantStep(t, "glider", y, m, 0, g.later(clock.Far-4))
	row := timeOf(t, s, 0, drawn(pt(0, far-1), "ooo"))
	column := wantStep(t, "row", row, m, 1, drawn(pt(1, far-2), "o", "o", "o"))
	wantError(t, "column", column, m, 1, api.ErrRange)
}

// whole is a time of a level, all of whose cells live.
func whole(t *testing.T, s *store.Store, level int) clock.Time {
	t.Helper()
	root := store.Alive
	for range level {
		var e error
		if root, e = s.Make(store.Kids{root, root, root, root}); e != nil {
			t.Fatal(e)
		}
	}
	return clock.Time{Plane: quad.Plane{Store: s, Root: root}}
}

// P11.1: planes full of living cells: all but the corners die, and beyond the sides new ones live.
func TestWhole(t *testing.T) {
	s := fresh(t, enough)
	m := evolve.New(s)
	for level := 3; level <= 59; level++ {
		x := whole(t, s, level)
		y, e := x.Step(m, 1)
		side := uint64(1) << level
		if e != nil || y.Level(y.Root) != level+1 || y.Count(y.Root) != 4+4*(side-2) || y.Gen != 1 {
			t.Errorf("level %d: %v, level %d, %d cells", level, e, y.Level(y.Root), y.Count(y.Root))
		}
		half := int64(1) << (level - 1)
		for _, c := range []struct {
			p     grid.Point
			alive bool
		}{
			{pt(-half, -half), true}, {pt(half-1, half-1), true}, {pt(0, 0), false}, {pt(-half, -half+1), false},
			{pt(-half-1, 0), true}, {pt(0, half), true}, {pt(half, half-1), false}, {pt(half, half-2), true}, {pt(half, half), false}, {pt(half+1, 0), false},
		} {
			if y.Get(c.p) != c.alive {
				t.Errorf("level %d: cell %v is alive: %v", level, c.p, !c.alive)
			}
		}
	}
	for level := 60; level <= store.MostLevel; level++ {
		x := whole(t, s, level)
		wantError(t, "not near", x, m, 1, api.ErrRange)
		if y, e := x.Step(m, 0); y != x || e != nil {
			t.Errorf("level %d: %v, %v, want %v", level, y, e, x)
		}
	}
}

// P11.1: so many generations at once, and one more.
func TestMostGenerations(t *testing.T) {
	s := fresh(t, enough)
	m := evolve.New(s)
	l := drawn(pt(0, 0), "oo", "oo")
	x := timeOf(t, s, 0, l)
	wantStep(t, "block", x, m, 288230376151711743, l)
	for _, n := range []uint64{288230376151711744, 288230376151711745, 1 << 59, 1<<62 - 1, 1 << 62, 1<<62 + 1, 1 << 63, math.MaxUint64} {
		wantError(t, fmt.Sprintf("%d generations", n), x, m, n, api.ErrRange)
	}
}

// P11.1: the last generation there is, whether or not there are living cells.
func TestLastGeneration(t *testing.T) {
	s := fresh(t, enough)
	m := evolve.New(s)
	for _, l := range [][]grid.Point{nil, drawn(pt(0, 0), "oo", "oo")} {
		for _, c := range []struct{ gen, n uint64 }{
			{1 << 62, 0}, {1<<62 - 1, 1}, {1<<62 - 100, 100}, {1<<62 - (clock.Far - 1), clock.Far - 1},
		} {
			y := wantStep(t, "to the last one", timeOf(t, s, c.gen, l), m, c.n, l)
			if y.Gen != 4611686018427387904 {
				t.Errorf("generation %d", y.Gen)
			}
			wantStep(t, "the last one", y, m, 0, l)
			wantError(t, "beyond", y, m, 1, api.ErrRange)
			wantError(t, "beyond", timeOf(t, s, c.gen, l), m, c.n+1, api.ErrRange)
			wantError(t, "beyond", timeOf(t, s, c.gen+1, l), m, c.n, api.ErrRange)
		}
		for _, c := range []struct{ gen, n uint64 }{
			{0, math.MaxUint64}, {1, math.MaxUint64}, {2, math.MaxUint64}, {1 << 62, math.MaxUint64}, {1 << 62, 1 << 63}, {1 << 62, 1 << 62},
			{math.MaxUint64, 0}, {math.MaxUint64, 1}, {math.MaxUint64, 2}, {math.MaxUint64, math.MaxUint64}, {math.MaxUint64 - 3, 1<<58 + 4}, {1 << 63, 1 << 63}, {1 << 63, 0}, {1<<62 + 1, 0},
		} {
			wantError(t, fmt.Sprintf("generation %d, %d more", c.gen, c.n), timeOf(t, s, c.gen, l), m, c.n, api.ErrRange)
		}
	}
}
