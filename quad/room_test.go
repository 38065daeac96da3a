package quad_test

import (
	"fmt"
	"testing"

	"belvedere/api"
	"belvedere/grid"
	"belvedere/quad"
	"belvedere/store"
)

// part adds a square, and all that it is made of, to those that are needed.
func part(s *store.Store, x store.ID, needed map[store.ID]int) {
	if needed[x] > 0 {
		return
	}
	needed[x]++
	if k, ok := s.Of(x); ok {
		for _, y := range k {
			part(s, y, needed)
		}
	}
}

// crowded are planes, by level, on which calls are tried with any room.
func crowded() map[int][][]grid.Point {
	d := dice(7)
	m := make(map[int][][]grid.Point)
	for _, level := range []int{3, 4, 6, 9, 62} {
		m[level] = [][]grid.Point{nil, {pt(1, 1)}, {pt(-2, 3), pt(3, -1)}, corners(level), d.points(level, 6)}
	}
	return m
}

// calls are what is tried with any room; Set needs the plane of Reach, and its own.
func calls() []change {
	l := []change{expand(), trim()}
	for _, q := range []grid.Point{pt(0, 0), pt(-4, 3), pt(4, 0), pt(100, -3), pt(-1<<40, 1<<20), pt(api.Edge-1, 1-api.Edge)} {
		l = append(l, reach(q), set(q, true), set(q, false))
	}
	return l
}

// P7.2: ErrFull, if and only if a square that is needed can't be made; the plane that was given stays.
func TestFull(t *testing.T) {
	for level, planes := range crowded() {
		for i, cells := range planes {
			for j, c := range calls() {
				name := fmt.Sprintf("%s (call %d), level %d, plane %d", c.name, j, level, i)
				wantFull(t, name, level, cells, c)
			}
		}
	}
}

// wantFull checks a call on a plane, with each room from none on to what it needs.
func wantFull(t *testing.T, name string, level int, cells []grid.Point, c change) {
	t.Helper()
	// A store with room enough shows how many squares the call makes.
	ample := fresh(t, enough)
	p := planeOf(t, ample, level, cells)
	there := ample.Len()
	want, e := c.do(p)
	if e != nil {
		if level != 62 || c.name != "Expand" {
			t.Errorf("%s: %v with room enough", name, e)
		}
		return
	}
	for most := there; most <= ample.Len(); most++ {
		s := fresh(t, most)
		p := planeOf(t, s, level, cells)
		q, e := c.do(p)
		if most < ample.Len() {
			wantError(t, name, q, e, api.ErrFull)
		} else {
			wantPlane(t, name, s, q, e, want.Level(want.Root), cellsOf(want))
		}
		wantPlane(t, name+", before", s, p, nil, level, cells)
	}
}

// P7.2: no square is made that isn't needed.
func TestMakesOnlyWhatIsNeeded(t *testing.T) {
	for level, planes := range crowded() {
		for i, cells := range planes {
			for j, c := range calls() {
				name := fmt.Sprintf("%s (call %d), level %d, plane %d", c.name, j, level, i)
				wantNeeded(t, name, level, cells, c)
			}
		}
	}
}

// wantNeeded checks that each square that a call made is one of its plane, or of one that Reach returns on the way.
func wantNeeded(t *testing.T, name string, level int, cells []grid.Point, c change) {
	t.Helper()
	s := fresh(t, enough)
	p := planeOf(t, s, level, cells)
	there := s.Len()
	q, e := c.do(p)
	if e != nil {
		return
	}
	needed := make(map[store.ID]int)
	part(s, q.Root, needed)
	if c.name == "Set" {
		// The plane of Reach has the same level, and the cells as they were.
		m := s.Mark()
		part(s, planeOf(t, s, q.Level(q.Root), cells).Root, needed)
		if s.Mark() != m {
			t.Errorf("%s: the plane of Reach wasn't there", name)
		}
	}
	for x := there; x < s.Len(); x++ {
		if needed[store.ID(x)] == 0 {
			t.Errorf("%s: made square %d, of level %d, for nothing", name, x, s.Level(store.ID(x)))
		}
	}
}

// P7.1, P7.2: the store's own methods, asked through the plane, are those of its store.
func TestPromoted(t *testing.T) {
	s := fresh(t, enough)
	p, _ := quad.New(s)
	p, _ = p.Set(pt(-1, 2), true)
	if p.Len() != s.Len() || p.Room() != s.Room() || p.Level(p.Root) != 3 || p.Count(p.Root) != 1 || !p.Is(p.Root) {
		t.Errorf("%d, %d, %d, %d, %v", p.Len(), p.Room(), p.Level(p.Root), p.Count(p.Root), p.Is(p.Root))
	}
	var none quad.Plane
	if none.Len() != 0 || none.Room() != 0 || none.Level(none.Root) != -1 || none.Is(none.Root) {
		t.Error("Plane{} has squares")
	}
}
