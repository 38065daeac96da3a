package quad_test

import (
	"fmt"
	"math"
	"slices"
	"testing"

	"belvedere/api"
	"belvedere/grid"
	"belvedere/quad"
	"belvedere/store"
)

// samples are planes' living cells, for a level: in each quarter, in the middle, at the edges, some anywhere.
func samples(level int) map[string][]grid.Point {
	half := int64(1) << (level - 1)
	d := dice(level)
	return map[string][]grid.Point{
		"none":               nil,
		"above on the left":  {pt(-1, -1), pt(-3, -2)},
		"above on the right": {pt(0, -1), pt(3, -4)},
		"below on the left":  {pt(-1, 0), pt(-4, 3)},
		"below on the right": {pt(0, 0), pt(3, 3)},
		"around the middle":  {pt(-1, -1), pt(0, -1), pt(-1, 0), pt(0, 0)},
		"corner 0":           corners(level)[:1],
		"corner 1":           corners(level)[1:2],
		"corner 2":           corners(level)[2:3],
		"corner 3":           corners(level)[3:],
		"all corners":        corners(level),
		"inner corners":      corners(level - 1),
		"beside the middle":  {pt(half/2, 0), pt(-1, -half/2-1)},
		"anywhere":           d.points(level, 20),
	}
}

// P7.2
func TestExpand(t *testing.T) {
	for level := 3; level < 62; level++ {
		for name, cells := range samples(level) {
			name := fmt.Sprintf("Expand, level %d, %s", level, name)
			s := fresh(t, enough)
			p := planeOf(t, s, level, cells)
			q, e := p.Expand()
			wantPlane(t, name, s, q, e, level+1, cells)
			if q != planeOf(t, s, level+1, cells) {
				t.Errorf("%s: another root than that of its cells", name)
			}
			wantPlane(t, name+", before", s, p, nil, level, cells)
		}
	}
}

// P7.2: at level 62 it isn't a matter of room, and no square is made.
func TestExpandFails(t *testing.T) {
	for name, cells := range samples(62) {
		s := fresh(t, enough)
		planeOf(t, s, 62, cells)
		for _, most := range []int{s.Len(), s.Len() + 1, enough} {
			s := fresh(t, most)
			p := planeOf(t, s, 62, cells)
			there := s.Len()
			q, e := p.Expand()
			wantError(t, "Expand, level 62, "+name, q, e, api.ErrArg)
			if s.Len() != there {
				t.Errorf("Expand, level 62, %s: %d squares were made", name, s.Len()-there)
			}
		}
	}
	for name, p := range noPlanes(t) {
		q, e := p.Expand()
		wantError(t, "Expand, "+name, q, e, api.ErrArg)
	}
}

// P7.2
func TestTrim(t *testing.T) {
	for level := 3; level <= 62; level++ {
		for name, cells := range samples(level) {
			wantTrim(t, name, level, cells)
		}
	}
}

// wantTrim checks Trim of a plane of a level with these cells.
func wantTrim(t *testing.T, name string, level int, cells []grid.Point) {
	t.Helper()
	name = fmt.Sprintf("Trim, level %d, %s", level, name)
	s := fresh(t, enough)
	p := planeOf(t, s, level, cells)
	low := lowest(3, cells)
	q, e := p.Trim()
	wantPlane(t, name, s, q, e, low, cells)
	if q != planeOf(t, s, low, cells) {
		t.Errorf("%s: another root than that of its cells", name)
	}
	again, e := q.Trim()
	if again != q || e != nil {
		t.Errorf("%s: again %v, %v, want %v", name, again, e, q)
	}
	wantPlane(t, name+", before", s, p, nil, level, cells)
}

// P7.2: a single cell, anywhere in small squares, and just at the edges of the middles of large ones.
func TestTrimOneCell(t *testing.T) {
	for c := range (grid.Rect{From: pt(-16, -16), To: pt(16, 16)}).All {
		wantTrim(t, fmt.Sprint(c), 5, []grid.Point{c})
	}
	for low := 3; low < 62; low += 7 {
		for _, c := range slices.Concat(corners(low), beyond(low)) {
			wantTrim(t, fmt.Sprint(c), 62, []grid.Point{c})
		}
	}
}

// P7.2: squares whose counts are all the greatest number aren't small ones.
func TestTrimOfGreatCounts(t *testing.T) {
	s := fresh(t, enough)
	x := store.Alive
	for range 60 {
		x = four(t, s, x, x, x, x)
	}
	empty, _ := s.Empty(60)
	inner := quad.Plane{Store: s, Root: four(t, s, x, x, x, x)}
	outer, e := inner.Expand()
	if e != nil {
		t.Fatal(e)
	}
	if q, e := outer.Trim(); q != inner || e != nil {
		t.Errorf("Trim = %v, %v, want %v", q, e, inner)
	}
	k, _ := s.Of(outer.Root)
	for i := range k {
		// One more square of living cells, at the corner across the middle's.
		parts := store.Kids{empty, empty, empty, empty}
		parts[3-i], parts[i] = x, x
		more := k
		more[i] = four(t, s, parts[0], parts[1], parts[2], parts[3])
		p := quad.Plane{Store: s, Root: four(t, s, more[0], more[1], more[2], more[3])}
		if q, e := p.Trim(); q != p || e != nil {
			t.Errorf("Trim with corner %d = %v, %v, want %v", i, q, e, p)
		}
	}
}

// P7.2
func TestTrimFails(t *testing.T) {
	for name, p := range noPlanes(t) {
		q, e := p.Trim()
		wantError(t, "Trim, "+name, q, e, api.ErrArg)
	}
}

// ends are points at the ends of the plane.
func ends() []grid.Point {
	const last = api.Edge - 1
	return []grid.Point{pt(-last, -last), pt(last, -last), pt(-last, last), pt(last, last), pt(0, last), pt(-last, 0)}
}

// off are points that are just not on the plane, or far from it.
func off() []grid.Point {
	return append(farOff(), pt(api.Edge, 0), pt(0, api.Edge), pt(-api.Edge, 0), pt(0, -api.Edge), pt(-api.Edge, -api.Edge), pt(api.Edge, -api.Edge), pt(5, math.MinInt64))
}

// targets are points on the plane, to reach from a level: inside, just beyond, and at the plane's ends.
func targets(level int) []grid.Point {
	half := int64(1) << (level - 1)
	l := slices.Concat(corners(level), beyond(level), ends())
	l = append(l, pt(0, 0), pt(-1, -1), pt(2*half-1, 0), pt(2*half, 0), pt(0, -2*half), pt(0, -2*half-1))
	return slices.DeleteFunc(l, func(q grid.Point) bool { return !q.Right() })
}

// P7.2
func TestReach(t *testing.T) {
	for _, level := range []int{3, 4, 5, 8, 31, 32, 33, 60, 61, 62} {
		for name, cells := range samples(level) {
			s := fresh(t, enough)
			p := planeOf(t, s, level, cells)
			for _, to := range targets(level) {
				name := fmt.Sprintf("Reach(%v), level %d, %s", to, level, name)
				high := lowest(level, []grid.Point{to})
				q, e := p.Reach(to)
				wantPlane(t, name, s, q, e, high, cells)
				if high == level && q != p {
					t.Errorf("%s: another plane, though the point is in it", name)
				}
				if q != planeOf(t, s, high, cells) {
					t.Errorf("%s: another root than that of its cells", name)
				}
			}
			wantPlane(t, "before", s, p, nil, level, cells)
		}
	}
}

// P7.2: what isn't a plane is told first, then a point that isn't on the plane.
func TestReachAndSetFail(t *testing.T) {
	s := fresh(t, enough)
	for name, p := range noPlanes(t) {
		for _, q := range append(off(), pt(0, 0), pt(100, 100)) {
			wantFails(t, name, p, q, api.ErrArg)
		}
	}
	for _, level := range []int{3, 10, 61, 62} {
		for name, cells := range samples(level) {
			p := planeOf(t, s, level, cells)
			there := s.Len()
			for _, q := range off() {
				wantFails(t, name, p, q, api.ErrRange)
			}
			if s.Len() != there {
				t.Errorf("level %d, %s: squares were made for points off the plane", level, name)
			}
		}
	}
}

// wantFails checks the error of Reach and Set.
func wantFails(t *testing.T, name string, p quad.Plane, q grid.Point, n api.Errno) {
	t.Helper()
	for _, c := range []change{reach(q), set(q, true), set(q, false)} {
		got, e := c.do(p)
		wantError(t, fmt.Sprintf("%s(%v), %s", c.name, q, name), got, e, n)
	}
}

// P7.2: the square of level 62 has points that aren't on the plane; they may be looked at, but not set.
func TestOffThePlaneInTheSquare(t *testing.T) {
	s := fresh(t, enough)
	corner := pt(-api.Edge, -api.Edge)
	p := planeOf(t, s, 62, []grid.Point{corner, pt(1, 1)})
	if !p.Get(corner) {
		t.Errorf("Get(%v) is dead", corner)
	}
	wantFails(t, "level 62", p, corner, api.ErrRange)
	q, e := p.Trim()
	wantPlane(t, "Trim", s, q, e, 62, []grid.Point{corner, pt(1, 1)})
}

// P7.2, and the chapter's example.
func TestSetExample(t *testing.T) {
	s := fresh(t, enough)
	p, _ := quad.New(s)
	q, e := p.Set(pt(5, -9), true)
	wantPlane(t, "Set(5, -9)", s, q, e, 5, []grid.Point{pt(5, -9)})
	wantPlane(t, "before", s, p, nil, 3, nil)
}

// with are the cells with one alive, or dead.
func with(cells []grid.Point, q grid.Point, alive bool) []grid.Point {
	l := slices.DeleteFunc(slices.Clone(cells), func(c grid.Point) bool { return c == q })
	if alive {
		l = append(l, q)
	}
	return l
}

// P7.2
func TestSet(t *testing.T) {
	for _, level := range []int{3, 4, 5, 8, 32, 61, 62} {
		for name, cells := range samples(level) {
			s := fresh(t, 1<<17)
			p := planeOf(t, s, level, cells)
			onPlane := slices.DeleteFunc(slices.Clone(cells), func(c grid.Point) bool { return !c.Right() })
			for _, at := range append(targets(level), onPlane...) {
				high := lowest(level, []grid.Point{at})
				for _, alive := range []bool{true, false} {
					name := fmt.Sprintf("Set(%v, %v), level %d, %s", at, alive, level, name)
					q, e := p.Set(at, alive)
					wantPlane(t, name, s, q, e, high, with(cells, at, alive))
					if q.Get(at) != alive {
						t.Errorf("%s: Get is %v", name, q.Get(at))
					}
					if r, _ := p.Reach(at); (r == q) != (p.Get(at) == alive) {
						t.Errorf("%s: %v, Reach %v, cell was %v", name, q, r, p.Get(at))
					}
				}
			}
			wantPlane(t, "before", s, p, nil, level, cells)
		}
	}
}

// P7.2: each cell of a square of level 4, there and back.
func TestSetEachCell(t *testing.T) {
	s := fresh(t, enough)
	cells := []grid.Point{pt(-8, -8), pt(7, 7), pt(0, 0), pt(-1, 3)}
	p := planeOf(t, s, 4, cells)
	for at := range (grid.Rect{From: pt(-8, -8), To: pt(8, 8)}).All {
		was := p.Get(at)
		q, e := p.Set(at, !was)
		wantPlane(t, fmt.Sprint("turn ", at), s, q, e, 4, with(cells, at, !was))
		back, e := q.Set(at, was)
		if back != p || e != nil {
			t.Errorf("turn back %v: %v, %v, want %v", at, back, e, p)
		}
		same, e := p.Set(at, was)
		if same != p || e != nil {
			t.Errorf("as it was, %v: %v, %v, want %v", at, same, e, p)
		}
	}
}

// P7.2: cells set one after the other, near and far, against a list of them.
func TestSetMany(t *testing.T) {
	d := dice(9)
	s := fresh(t, 1<<17)
	p, _ := quad.New(s)
	var cells []grid.Point
	level := 3
	for i := range 400 {
		at := d.point(3 + int(d.upto(int64(3+i/8))))
		if len(cells) > 0 && i%5 == 0 {
			at = cells[d.upto(int64(len(cells)))]
		}
		alive := d.upto(3) > 0
		cells = with(cells, at, alive)
		level = lowest(level, []grid.Point{at})
		q, e := p.Set(at, alive)
		wantPlane(t, fmt.Sprintf("Set(%v, %v), step %d", at, alive, i), s, q, e, level, cells)
		if e != nil {
			return
		}
		p = q
	}
	q, e := p.Trim()
	wantPlane(t, "Trim", s, q, e, lowest(3, cells), cells)
}

// P7.3: planes of one level and one store have the same cells if and only if they have the same root, however they were made.
func TestSameCellsSameRoot(t *testing.T) {
	d := dice(4)
	s := fresh(t, 1<<17)
	empty, _ := quad.New(s)
	type made struct {
		p     quad.Plane
		cells []grid.Point
	}
	var all []made
	for range 60 {
		// Few cells of few places, so that some planes are the same.
		cells := sorted(d.points(3, 1+int(d.upto(2))))
		for i := range cells {
			cells[i].X &= 3
			cells[i].Y |= 6
		}
		cells = sorted(cells)
		all = append(all, made{detour(t, empty, &d, cells), cells})
		all = append(all, made{planeOf(t, s, 6, cells), cells})
	}
	same := 0
	for _, a := range all {
		for _, b := range all {
			if (a.p == b.p) != slices.Equal(a.cells, b.cells) {
				t.Errorf("roots %d and %d, cells %v and %v", a.p.Root, b.p.Root, a.cells, b.cells)
			}
			if a.p == b.p {
				same++
			}
		}
	}
	if same < 2*len(all) || same == len(all)*len(all) {
		t.Errorf("%d of %d planes: too few or too many are the same", same, len(all))
	}
}

// detour is the plane of level 6 that has these cells, by another way each time.
func detour(t *testing.T, p quad.Plane, d *dice, cells []grid.Point) quad.Plane {
	t.Helper()
	ways := []change{trim(), reach(pt(31, 0)), set(pt(-50, 40), true), set(pt(-50, 40), false), set(pt(8, 8), true)}
	for _, c := range cells {
		ways = append(ways, set(c, true), set(c, false))
	}
	for range 20 {
		p = done(t, p, ways[d.upto(int64(len(ways)))])
	}
	for _, c := range cells {
		p = done(t, p, set(c, true))
	}
	for _, c := range []grid.Point{pt(-50, 40), pt(8, 8)} {
		p = done(t, p, set(c, false))
	}
	return done(t, done(t, p, trim()), reach(pt(31, 0)))
}

// done is the plane that a call returns, without an error.
func done(t *testing.T, p quad.Plane, c change) quad.Plane {
	t.Helper()
	q, e := c.do(p)
	if e != nil {
		t.Fatalf("%s: %v", c.name, e)
	}
	return q
}
