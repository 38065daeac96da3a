package area_test

import (
	"fmt"
	"testing"

	"belvedere/api"
	"belvedere/area"
	"belvedere/grid"
	"belvedere/quad"
	"belvedere/rle"
	"belvedere/store"
)

// call is a call that returns another plane.
type call struct {
	name string
	do   func(p quad.Plane) (quad.Plane, error)
}

// filling is a Fill.
func filling(r grid.Rect, alive bool) call {
	return call{fmt.Sprintf("Fill(%v, %v)", r, alive), func(p quad.Plane) (quad.Plane, error) { return area.Fill(p, r, alive) }}
}

// pasting is a Paste.
func pasting(b rle.Pattern, at grid.Point, over bool) call {
	name := fmt.Sprintf("Paste of %d, %d at %v, over %v", b.Wide, b.High, at, over)
	return call{name, func(p quad.Plane) (quad.Plane, error) { return area.Paste(p, b, at, over) }}
}

// calls are what is tried with any room.
func calls(t *testing.T) []call {
	t.Helper()
	var l []call
	for _, alive := range []bool{true, false} {
		for _, r := range []grid.Rect{
			single(pt(0, 0)), single(pt(100, -3)), rect(-4, -4, 4, 4), rect(-5, -2, 3, 1), rect(-1, 2, 9, 40), rect(8, 8, 16, 16),
			rect(-last, 1, last+1, 2), rect(-1<<40, -1<<30, 1<<20, -1<<29), whole(),
		} {
			l = append(l, filling(r, alive))
		}
	}
	for _, b := range []rle.Pattern{pattern(t, "x = 3, y = 3\nbob$2bo$3o!"), pattern(t, "x = 9, y = 5\n$o4bo!"), pattern(t, "x = 2, y = 6\n!")} {
		for _, at := range []grid.Point{pt(0, 0), pt(-2, -3), pt(60, 2), pt(-1<<40, 1<<20), pt(-last, 0)} {
			l = append(l, pasting(b, at, true), pasting(b, at, false))
		}
	}
	return l
}

// crowded are planes' living cells, for a level, on which calls are tried with any room.
func crowded(level int) [][]grid.Point {
	d := dice(level)
	return [][]grid.Point{nil, {pt(1, 1)}, corners(rect(-2, 0, 1, 3)), corners(square(level)), d.points(square(level).And(whole()), 5)}
}

// eachCrowded checks each call on planes of some levels.
func eachCrowded(t *testing.T, check func(t *testing.T, name string, level int, cells []grid.Point, c call)) {
	t.Helper()
	for _, level := range []int{3, 4, 6, 62} {
		for i, cells := range crowded(level) {
			name := fmt.Sprintf("level %d, plane %d", level, i)
			t.Run(name, func(t *testing.T) {
				t.Parallel()
				for _, c := range calls(t) {
					check(t, c.name+", "+name, level, cells, c)
				}
			})
		}
	}
}

// P8.1: ErrFull, if and only if a square can't be made; the plane that was given stays.
func TestFull(t *testing.T) {
	eachCrowded(t, func(t *testing.T, name string, level int, cells []grid.Point, c call) {
		// A store with room enough shows how many squares the call makes.
		ample := fresh(t, enough)
		p := planeOf(t, ample, level, cells)
		there := ample.Len()
		want, e := c.do(p)
		if e != nil {
			t.Errorf("%s: %v with room enough", name, e)
			return
		}
		for most := there; most <= ample.Len(); most++ {
			name := fmt.Sprintf("%s, room for %d", name, most)
			s := fresh(t, most)
			p := planeOf(t, s, level, cells)
			q, e := c.do(p)
			if most < ample.Len() {
				wantError(t, name, q, e, api.ErrFull)
			} else if e != nil || q.Store != s || q.Root != want.Root {
				// Squares are numbered in the order in which they are made, which is the same each time.
				t.Errorf("%s: %v, %v, want root %d", name, q, e, want.Root)
			}
			wantPlane(t, name+", before", s, p, nil, level, cells)
		}
	})
}

// P8.1: no square is made that isn't one of the plane's that is returned, so that ErrFull isn't told for others.
func TestMakesOnlyWhatIsNeeded(t *testing.T) {
	eachCrowded(t, func(t *testing.T, name string, level int, cells []grid.Point, c call) {
		p := planeOf(t, fresh(t, enough), level, cells)
		there := p.Len()
		q, e := c.do(p)
		if e != nil {
			t.Errorf("%s: %v", name, e)
			return
		}
		needed := make(map[store.ID]int)
		parts(p.Store, q.Root, needed)
		for x := there; x < p.Len(); x++ {
			if needed[store.ID(x)] == 0 {
				t.Errorf("%s: made square %d, of level %d, for nothing", name, x, p.Level(store.ID(x)))
			}
		}
	})
}

// parts adds a square, and all that it is made of, to those that are needed.
func parts(s *store.Store, x store.ID, needed map[store.ID]int) {
	if needed[x] > 0 {
		return
	}
	needed[x]++
	if k, ok := s.Of(x); ok {
		for _, y := range k {
			parts(s, y, needed)
		}
	}
}

// P8.1: what is there already needs no room.
func TestNoRoomNeeded(t *testing.T) {
	cells := []grid.Point{pt(0, 0), pt(1, 0), pt(0, 1), pt(1, 1)}
	p := planeOf(t, fresh(t, enough), 5, cells)
	full := planeOf(t, fresh(t, p.Len()), 5, cells)
	b := pattern(t, "x = 2, y = 2\n2o$2o!")
	for _, c := range []call{filling(rect(0, 0, 2, 2), true), filling(rect(-16, -16, 0, 16), false), pasting(b, pt(0, 0), true), pasting(b, pt(0, 0), false)} {
		if q, e := c.do(full); q != full || e != nil {
			t.Errorf("%s: %v, %v, want %v", c.name, q, e, full)
		}
	}
}
