package area_test

import (
	"fmt"
	"math"
	"slices"
	"testing"

	"belvedere/api"
	"belvedere/area"
	"belvedere/fault"
	"belvedere/grid"
	"belvedere/quad"
)

// P8.2: rectangles with none, some and all living cells, with most that is just enough, one too few, and more.
func TestCells(t *testing.T) {
	for _, level := range []int{3, 4, 7, 31, 32, 33, 61, 62} {
		for name, cells := range samples(level) {
			p := planeOf(t, fresh(t, enough), level, cells)
			for _, r := range slices.Concat(great(level), noPoints(), leaving()) {
				wantCells(t, fmt.Sprintf("level %d, %s: Cells(%v)", level, name, r), p, r, cells)
			}
			wantPlane(t, "before", p.Store, p, nil, level, cells)
		}
	}
}

// wantCells checks Cells of a plane with these living cells.
func wantCells(t *testing.T, name string, p quad.Plane, r grid.Rect, cells []grid.Point) {
	t.Helper()
	want := sorted(inside(cells, r))
	n := len(want)
	for _, most := range []int{n, n + 1, math.MaxInt} {
		l, e := area.Cells(p, r, most)
		if !slices.Equal(l, want) || e != nil {
			t.Errorf("%s, most %d: %v, %v, want %v", name, most, l, e, want)
		}
	}
	if n > 0 {
		wantNoCells(t, name, p, r, n-1, api.ErrLimit)
		wantNoCells(t, name, p, r, 0, api.ErrLimit)
	}
	wantNoCells(t, name, p, r, -1, api.ErrArg)
	wantNoCells(t, name, p, r, math.MinInt, api.ErrArg)
}

// wantNoCells checks that Cells returned an error's number, and no cells.
func wantNoCells(t *testing.T, name string, p quad.Plane, r grid.Rect, most int, n api.Errno) {
	t.Helper()
	l, e := area.Cells(p, r, most)
	if len(l) != 0 || e == nil || fault.Code(e) != n || !fault.Is(e, n) {
		t.Errorf("%s, most %d: %v, %v, want %v", name, most, l, e, n)
	}
}

// P8.2: many cells of small squares, in all rectangles, in their order.
func TestCellsSmall(t *testing.T) {
	d := dice(3)
	for _, level := range []int{3, 4} {
		for _, n := range []int{1, 10, 60, 300} {
			cells := d.points(square(level), n)
			p := planeOf(t, fresh(t, enough), level, cells)
			for _, r := range rectsOf([]int64{-9, -8, -5, -4, -1, 0, 2, 4, 5, 8}) {
				wantCells(t, fmt.Sprintf("level %d, %d cells: Cells(%v)", level, n, r), p, r, cells)
			}
		}
	}
}

// P8.2: what isn't a plane has no cells to tell of.
func TestCellsFails(t *testing.T) {
	for name, p := range noPlanes(t) {
		for _, r := range slices.Concat(great(3), noPoints(), leaving()) {
			for _, most := range []int{-1, 0, 1, math.MaxInt} {
				wantNoCells(t, name, p, r, most, api.ErrArg)
			}
		}
	}
}

// P8.2, P1: rows beside rows without end, which no one can go through one by one.
func TestCellsBesideMany(t *testing.T) {
	s := fresh(t, enough)
	p := planeOf(t, s, 3, nil)
	for _, y := range []int64{-8, -1, 2, 1 << 50} {
		p = fill(t, p, rect(-last, y, last+1, y+1), true)
		p = fill(t, p, rect(y, -last, y+1, last+1), true)
	}
	p = fill(t, p, rect(0, 0, 2, 1), true)
	for _, r := range []grid.Rect{rect(-7, -7, -1, -1), rect(3, 3, 1<<50, 1<<50), rect(-last, -last, -8, -8), rect(1<<50+1, -last, last+1, -8)} {
		wantCells(t, fmt.Sprint(r), p, r, nil)
	}
	wantCells(t, "in the middle", p, rect(0, 0, 2, 2), []grid.Point{pt(0, 0), pt(1, 0)})
	wantCells(t, "a crossing", p, rect(-3, 1<<50-1, 0, 1<<50+2), []grid.Point{pt(-1, 1<<50-1), pt(-3, 1<<50), pt(-2, 1<<50), pt(-1, 1<<50), pt(-1, 1<<50+1)})
	for _, r := range []grid.Rect{whole(), rect(-far, -far, far, far), rect(-last, 2, last+1, 3), rect(-8, -last, -7, last+1)} {
		wantNoCells(t, fmt.Sprint(r), p, r, 1<<60, api.ErrLimit)
	}
}

// P8.2: there may be more cells than any number tells; sums that just reach 2^64 among them.
func TestCellsOfFull(t *testing.T) {
	s := fresh(t, enough)
	p := fill(t, planeOf(t, s, 3, nil), whole(), true)
	for _, r := range []grid.Rect{
		whole(), rect(-far, -far, far, far), rect(-1, -1, 1<<32-1, 1<<32-1), rect(7, -1<<31, 1<<32+7, 1<<31), rect(-1<<35, -3, 1<<35, 1<<28-3),
		rect(-1, -1, 1<<33-1, 1<<33-1), rect(1-last, -last, last, last), rect(3, 3, last, last), rect(1, 1, 1<<31, 1<<32),
	} {
		for _, most := range []int{0, 1, 1 << 40} {
			wantNoCells(t, fmt.Sprint(r), p, r, most, api.ErrLimit)
		}
		if r != rect(1, 1, 1<<31, 1<<32) {
			wantNoCells(t, fmt.Sprint(r), p, r, math.MaxInt, api.ErrLimit)
		}
	}
	r := rect(-20, 1<<40-3, 15, 1<<40+22)
	wantCells(t, "an area", p, r, slices.Collect(r.All))
	for _, c := range corners(whole()) {
		wantCells(t, "an end", p, rect(c.X-1, c.Y-1, c.X+2, c.Y+2), slices.Collect(rect(c.X-1, c.Y-1, c.X+2, c.Y+2).And(whole()).All))
	}
}

// P8.2: so many cells, and no others, are copied anew for each call.
func TestCellsAreNew(t *testing.T) {
	p := planeOf(t, fresh(t, enough), 5, []grid.Point{pt(1, 1), pt(2, 2)})
	a, _ := area.Cells(p, square(5), 2)
	a[0] = pt(9, 9)
	wantCells(t, "again", p, square(5), []grid.Point{pt(1, 1), pt(2, 2)})
}

// P8.2: the least rectangle of lists of cells, on planes of any level.
func TestBox(t *testing.T) {
	for _, level := range []int{3, 4, 5, 31, 32, 33, 61, 62} {
		lists := []([]grid.Point){corners(whole()), corners(whole())[1:3], corners(whole())[:1], corners(whole())[3:]}
		for _, cells := range samples(level) {
			lists = append(lists, cells)
		}
		d := dice(level)
		for i := range 30 {
			cells := d.points(square(level).And(whole()), 1+i)
			lists = append(lists, cells, cells[:1], cells[i/2:])
		}
		s := fresh(t, enough)
		for _, cells := range lists {
			cells = inside(cells, square(level))
			wantBox(t, fmt.Sprintf("level %d, %v", level, cells), planeOf(t, s, level, cells), boxOf(cells), len(cells) > 0)
		}
	}
}

// boxOf is the least rectangle of some points: the reckoning by the words.
func boxOf(l []grid.Point) grid.Rect {
	if len(l) == 0 {
		return grid.Rect{}
	}
	r := single(l[0])
	for _, c := range l {
		r = rect(min(r.From.X, c.X), min(r.From.Y, c.Y), max(r.To.X, c.X+1), max(r.To.Y, c.Y+1))
	}
	return r
}

// wantBox checks Box of a plane.
func wantBox(t *testing.T, name string, p quad.Plane, want grid.Rect, there bool) {
	t.Helper()
	if box, ok := area.Box(p); box != want || ok != there {
		t.Errorf("%s: Box = %v, %v, want %v, %v", name, box, ok, want, there)
	}
}

// P8.2: each cell of a square, alone.
func TestBoxOneCell(t *testing.T) {
	s := fresh(t, enough)
	for c := range square(4).All {
		wantBox(t, fmt.Sprint(c), planeOf(t, s, 4, []grid.Point{c}), single(c), true)
		wantBox(t, fmt.Sprint(c), planeOf(t, s, 6, []grid.Point{c}), single(c), true)
	}
}

// P8.2: the Box of what was filled is the rectangle; when all is dead again there is none.
func TestBoxOfFill(t *testing.T) {
	for _, level := range []int{3, 33, 62} {
		s := fresh(t, enough)
		p := planeOf(t, s, level, nil)
		wantBox(t, "none", p, grid.Rect{}, false)
		for _, r := range great(level) {
			q := fill(t, p, r, true)
			wantBox(t, fmt.Sprintf("level %d, %v", level, r), q, r, true)
			wantBox(t, fmt.Sprintf("level %d, %v, dead", level, r), fill(t, q, r, false), grid.Rect{}, false)
		}
	}
}

// P8.2: what isn't a plane has no Box.
func TestBoxFails(t *testing.T) {
	for name, p := range noPlanes(t) {
		wantBox(t, name, p, grid.Rect{}, false)
	}
}

// P8.2: the square of level 62 has points that aren't on the plane; cells there are alive as well.
func TestFindBesideTheEnd(t *testing.T) {
	s := fresh(t, enough)
	cells := []grid.Point{pt(-api.Edge, -api.Edge), pt(5, 6)}
	p := planeOf(t, s, 62, cells)
	wantBox(t, "level 62", p, boxOf(cells), true)
	wantCells(t, "all", p, rect(-far, -far, far, far), cells)
	wantCells(t, "on the plane", p, whole(), cells)
}
