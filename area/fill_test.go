package area_test

import (
	"fmt"
	"math/bits"
	"slices"
	"testing"

	"belvedere/api"
	"belvedere/area"
	"belvedere/grid"
	"belvedere/quad"
)

// filled are the living cells after a Fill: the reckoning by the words.
func filled(cells []grid.Point, r grid.Rect, alive bool) []grid.Point {
	l := outside(cells, r)
	if alive {
		l = slices.AppendSeq(l, r.All)
	}
	return l
}

// P8.1: rectangles inside of small squares, across their middle, at their edges, and beyond them, each compared with the square of its cells.
func TestFillSmall(t *testing.T) {
	ends := []int64{-9, -8, -5, -4, -1, 0, 2, 4, 5, 8}
	for _, level := range []int{3, 4} {
		for name, cells := range samples(level) {
			s := fresh(t, enough)
			p := planeOf(t, s, level, cells)
			for _, r := range rectsOf(ends) {
				for _, alive := range []bool{true, false} {
					q, e := area.Fill(p, r, alive)
					want := planeOf(t, s, lowest(level, r), filled(cells, r, alive))
					if q != want || e != nil {
						t.Errorf("level %d, %s: Fill(%v, %v) = %v, %v, want %v", level, name, r, alive, q, e, want)
					}
				}
			}
			wantPlane(t, "before", s, p, nil, level, cells)
		}
	}
}

// rectsOf are all rectangles with points that have such coordinates.
func rectsOf(ends []int64) []grid.Rect {
	var l []grid.Rect
	for i, a := range ends {
		for _, c := range ends[i+1:] {
			for j, b := range ends {
				for _, d := range ends[j+1:] {
					l = append(l, rect(a, b, c, d))
				}
			}
		}
	}
	return l
}

// great are rectangles about a square of a level: points, rows, columns and areas in it, at its edges and beyond, up to the whole plane.
func great(level int) []grid.Rect {
	s := square(level)
	a, b := s.From, s.To
	d := dice(level)
	l := []grid.Rect{
		s, rect(a.X-1, a.Y-1, b.X+1, b.Y+1), rect(a.X+1, a.Y+1, b.X-1, b.Y-1),
		rect(a.X, 0, b.X, 1), rect(a.X+1, -1, b.X-1, 0), rect(a.X, a.Y, b.X, a.Y+1), rect(a.X, b.Y-1, b.X, b.Y),
		rect(0, a.Y, 1, b.Y), rect(-1, a.Y+1, 0, b.Y-1), rect(a.X, a.Y, a.X+1, b.Y), rect(b.X-1, a.Y, b.X, b.Y),
		rect(a.X, b.Y, b.X, b.Y+1), rect(b.X, a.Y, b.X+1, b.Y), rect(a.X-1, a.Y, a.X, b.Y), rect(a.X, a.Y-1, b.X, a.Y),
		rect(a.X, a.Y, 0, 0), rect(0, 0, b.X, b.Y), rect(1, a.Y, b.X, 0), rect(a.X, 1, -1, b.Y), rect(a.X/2, a.Y/2, b.X/2, b.Y/2),
		whole(), rect(-last, -last, 1, 1), rect(-last, 7, last+1, 8), rect(-3, -last, -2, last+1), rect(0, 0, last+1, last+1),
		rect(1-last, 1-last, last, last), single(pt(last, -last)), single(pt(-last, last)), rect(-last, last, last+1, last+1),
	}
	for range 10 {
		q, r := d.point(whole()), d.point(s.And(whole()))
		l = append(l, rect(min(q.X, r.X), min(q.Y, r.Y), max(q.X, r.X)+1, max(q.Y, r.Y)+1))
	}
	for _, c := range slices.Concat(corners(s), corners(rect(-1, -1, 1, 1)), d.points(s.And(whole()), 5)) {
		l = append(l, single(c))
	}
	return slices.DeleteFunc(l, func(r grid.Rect) bool { return !r.Right() })
}

// P8.1: great rectangles, on planes of any level.
func TestFillGreat(t *testing.T) {
	for _, level := range []int{3, 4, 8, 31, 32, 33, 34, 60, 61, 62} {
		for name, cells := range samples(level) {
			s := fresh(t, enough)
			p := planeOf(t, s, level, cells)
			for _, r := range great(level) {
				for _, alive := range []bool{true, false} {
					name := fmt.Sprintf("level %d, %s: Fill(%v, %v)", level, name, r, alive)
					wantFilled(t, name, p, cells, r, alive)
				}
			}
			wantPlane(t, "before", s, p, nil, level, cells)
		}
	}
}

// wantFilled checks a Fill of a plane with these living cells by its level, by how many cells are alive, and by those on both sides of the rectangle's edges, and of the plane's own cells.
func wantFilled(t *testing.T, name string, p quad.Plane, cells []grid.Point, r grid.Rect, alive bool) {
	t.Helper()
	level := lowest(p.Level(p.Root), r)
	q, e := area.Fill(p, r, alive)
	if e != nil || q.Store != p.Store || q.Level(q.Root) != level {
		t.Errorf("%s = %v, %v, want level %d", name, q, e, level)
		return
	}
	if n := countOf(cells, r, alive); q.Count(q.Root) != n {
		t.Errorf("%s: %d cells are alive, want %d", name, q.Count(q.Root), n)
	}
	for _, c := range slices.Concat(cells, probes(r)) {
		want := slices.Contains(cells, c)
		if r.Has(c) {
			want = alive
		}
		if q.Get(c) != want {
			t.Errorf("%s: Get(%v) = %v", name, c, !want)
			return
		}
	}
}

// countOf is how many cells are alive after a Fill; if there are more, the greatest number.
func countOf(cells []grid.Point, r grid.Rect, alive bool) uint64 {
	n := uint64(len(sorted(outside(cells, r))))
	if !alive {
		return n
	}
	more, low := bits.Mul64(uint64(r.To.X-r.From.X), uint64(r.To.Y-r.From.Y))
	all, carry := bits.Add64(low, n, 0)
	if more+carry > 0 {
		return 1<<64 - 1
	}
	return all
}

// probes are points in a rectangle, at its edges, and around it.
func probes(r grid.Rect) []grid.Point {
	d := dice(r.From.X ^ r.To.Y)
	some := d.points(r, 3)
	xs := []int64{r.From.X - 1, r.From.X, r.From.X + 1, r.To.X - 2, r.To.X - 1, r.To.X, 0, -1}
	ys := []int64{r.From.Y - 1, r.From.Y, r.From.Y + 1, r.To.Y - 2, r.To.Y - 1, r.To.Y, 0, -1}
	for _, c := range some {
		xs, ys = append(xs, c.X), append(ys, c.Y)
	}
	var l []grid.Point
	for _, x := range xs {
		for _, y := range ys {
			l = append(l, pt(x, y))
		}
	}
	return l
}

// P8.1, and layer 7's P7.3: the same cells, filled in another way, are the same plane.
func TestFillTwice(t *testing.T) {
	for _, level := range []int{3, 32, 61, 62} {
		for name, cells := range samples(level) {
			s := fresh(t, enough)
			p := planeOf(t, s, level, cells)
			for _, r := range great(level) {
				name := fmt.Sprintf("level %d, %s, %v", level, name, r)
				for _, alive := range []bool{true, false} {
					q := fill(t, p, r, alive)
					if again := fill(t, q, r, alive); again != q {
						t.Errorf("%s: %v again is %v, not %v", name, alive, again, q)
					}
					if over := fill(t, fill(t, p, r, !alive), r, alive); over != q {
						t.Errorf("%s: first %v it is %v, not %v", name, !alive, over, q)
					}
					x, y := r.From.X+(r.To.X-r.From.X)/3, r.From.Y+(r.To.Y-r.From.Y)/3
					if parts := fillParts(t, p, r, pt(x, y), alive); parts != q {
						t.Errorf("%s: %v in parts it is %v, not %v", name, alive, parts, q)
					}
				}
			}
		}
	}
}

// fill is a Fill without an error.
func fill(t *testing.T, p quad.Plane, r grid.Rect, alive bool) quad.Plane {
	t.Helper()
	q, e := area.Fill(p, r, alive)
	if e != nil {
		t.Fatalf("Fill(%v, %v): %v", r, alive, e)
	}
	return q
}

// fillParts is a Fill of the four parts of a rectangle that meet at a point.
func fillParts(t *testing.T, p quad.Plane, r grid.Rect, at grid.Point, alive bool) quad.Plane {
	t.Helper()
	a, b := r.From, r.To
	l := []grid.Rect{rect(a.X, a.Y, at.X, at.Y), rect(at.X, a.Y, b.X, at.Y), rect(a.X, at.Y, at.X, b.Y), rect(at.X, at.Y, b.X, b.Y)}
	for _, part := range l {
		if !part.Empty() {
			p = fill(t, p, part, alive)
		}
	}
	return p
}

// P8.1: fills one after the other, against a list of cells.
func TestFillMany(t *testing.T) {
	d := dice(5)
	s := fresh(t, enough)
	p, _ := quad.New(s)
	var cells []grid.Point
	level := 3
	for i := range 200 {
		q := d.point(square(3 + i/40))
		r := rect(q.X, q.Y, q.X+1+d.upto(9), q.Y+1+d.upto(9))
		alive := d.upto(2) > 0
		cells = sorted(filled(cells, r, alive))
		level = lowest(level, r)
		p = fill(t, p, r, alive)
		if want := planeOf(t, s, level, cells); p != want {
			t.Fatalf("Fill(%v, %v), step %d: %v, want %v", r, alive, i, p, want)
		}
	}
}

// noPoints are rectangles without points, on the plane and off it.
func noPoints() []grid.Rect {
	return []grid.Rect{
		{}, rect(0, 0, 0, 1), rect(0, 0, 1, 0), rect(5, 5, 3, 9), rect(5, 5, 9, 4), rect(9, 9, 5, 5), rect(-1, -1, -1, -1),
		rect(far, far, -far, -far), rect(far, far, far, far), rect(-far, -far, -far, -far), rect(-far, 0, far, 0), rect(0, -far, 0, far),
		rect(last+1, 0, last+1, 5), rect(api.Edge+5, 3, api.Edge, 4),
	}
}

// leaving are rectangles with points that aren't all on the plane.
func leaving() []grid.Rect {
	return []grid.Rect{
		rect(0, 0, api.Edge+1, 1), rect(0, 0, 1, api.Edge+1), rect(-api.Edge, 0, 1, 1), rect(0, -api.Edge, 1, 1),
		rect(-far, -far, far, far), rect(-far, 0, 1, 1), rect(0, -far, 1, 1), rect(0, 0, far, 1), rect(0, 0, 1, far),
		rect(api.Edge, 0, api.Edge+1, 1), rect(0, api.Edge, 1, api.Edge+1), rect(-api.Edge-5, -5, -api.Edge, 5), rect(-5, -api.Edge-1, 5, -api.Edge),
		rect(far-1, far-1, far, far), rect(-far, -far, 1-far, 1-far), rect(-api.Edge, -api.Edge, api.Edge, api.Edge), rect(-far, 5, far, 6),
	}
}

// P8.1: what isn't a plane, or has no points, is told first, then a rectangle that leaves the plane, whatever room there is.
func TestFillFails(t *testing.T) {
	for name, p := range noPlanes(t) {
		for _, r := range slices.Concat(noPoints(), leaving(), []grid.Rect{single(pt(0, 0)), whole()}) {
			wantFillFails(t, name, p, r, api.ErrArg)
		}
	}
	for _, level := range []int{3, 20, 61, 62} {
		for name, cells := range samples(level) {
			p := planeOf(t, fresh(t, enough), level, cells)
			full := planeOf(t, fresh(t, p.Len()), level, cells)
			for _, r := range noPoints() {
				wantFillFails(t, name, p, r, api.ErrArg)
				wantFillFails(t, name+", no room", full, r, api.ErrArg)
			}
			for _, r := range leaving() {
				wantFillFails(t, name, p, r, api.ErrRange)
				wantFillFails(t, name+", no room", full, r, api.ErrRange)
			}
			wantPlane(t, "before", p.Store, p, nil, level, cells)
		}
	}
}

// wantFillFails checks the error of Fill, alive and dead, and that no squares were made.
func wantFillFails(t *testing.T, name string, p quad.Plane, r grid.Rect, n api.Errno) {
	t.Helper()
	for _, alive := range []bool{true, false} {
		there := p.Len()
		q, e := area.Fill(p, r, alive)
		name := fmt.Sprintf("%s: Fill(%v, %v)", name, r, alive)
		wantError(t, name, q, e, n)
		if p.Len() != there {
			t.Errorf("%s made %d squares", name, p.Len()-there)
		}
	}
}

// P8.1: the square of level 62 has points that aren't on the plane; a Fill leaves them as they are.
func TestFillBesideTheEnd(t *testing.T) {
	s := fresh(t, enough)
	cells := []grid.Point{pt(-api.Edge, -api.Edge), pt(-api.Edge, 5), pt(5, -api.Edge), pt(3, 3)}
	p := planeOf(t, s, 62, cells)
	q, e := area.Fill(p, whole(), false)
	wantPlane(t, "Fill", s, q, e, 62, cells[:3])
}
