package area_test

import (
	"cmp"
	"math"
	"slices"
	"testing"

	"belvedere/api"
	"belvedere/area"
	"belvedere/fault"
	"belvedere/grid"
	"belvedere/quad"
	"belvedere/store"
)

// enough is room for all squares of a test that isn't about room.
const enough = 1 << 17

// last is the greatest coordinate of a point on the plane, and far the greatest of a rectangle.
const (
	last = api.Edge - 1
	far  = 1 << 62
)

// pt is a point.
func pt(x, y int64) grid.Point {
	return grid.Point{X: x, Y: y}
}

// rect is a rectangle.
func rect(a, b, c, d int64) grid.Rect {
	return grid.Rect{From: pt(a, b), To: pt(c, d)}
}

// single is the rectangle of one point.
func single(q grid.Point) grid.Rect {
	return rect(q.X, q.Y, q.X+1, q.Y+1)
}

// square is the points of a plane's square of a level.
func square(level int) grid.Rect {
	half := int64(1) << (level - 1)
	return rect(-half, -half, half, half)
}

// fresh is a store with room for so many squares.
func fresh(t *testing.T, most int) *store.Store {
	t.Helper()
	s, e := store.New(most)
	if s == nil || e != nil {
		t.Fatalf("store.New(%d) = %v, %v", most, s, e)
	}
	return s
}

// built is the square of a level, its first cell at a corner, that has these living cells: the reckoning by the words, from parts of points.
func built(t *testing.T, s *store.Store, level int, corner grid.Point, cells []grid.Point) store.ID {
	t.Helper()
	if len(cells) == 0 {
		x, e := s.Empty(level)
		if e != nil {
			t.Fatalf("Empty(%d): %v", level, e)
		}
		return x
	}
	if level == 0 {
		return store.Alive
	}
	half := int64(1) << (level - 1)
	var k store.Kids
	for i := range k {
		from := pt(corner.X+half*int64(i%2), corner.Y+half*int64(i/2))
		in := inside(cells, grid.Rect{From: from, To: pt(from.X+half, from.Y+half)})
		k[i] = built(t, s, level-1, from, in)
	}
	x, e := s.Make(k)
	if e != nil {
		t.Fatalf("Make(%v): %v", k, e)
	}
	return x
}

// planeOf is the plane of a level that has these living cells.
func planeOf(t *testing.T, s *store.Store, level int, cells []grid.Point) quad.Plane {
	t.Helper()
	return quad.Plane{Store: s, Root: built(t, s, level, square(level).From, cells)}
}

// inside are the points of a list that a rectangle contains, and outside are the others.
func inside(l []grid.Point, r grid.Rect) []grid.Point {
	return slices.DeleteFunc(slices.Clone(l), func(c grid.Point) bool { return !r.Has(c) })
}

func outside(l []grid.Point, r grid.Rect) []grid.Point {
	return slices.DeleteFunc(slices.Clone(l), r.Has)
}

// sorted are points in order, each once.
func sorted(l []grid.Point) []grid.Point {
	l = slices.Clone(l)
	slices.SortFunc(l, func(a, b grid.Point) int {
		return cmp.Or(cmp.Compare(a.Y, b.Y), cmp.Compare(a.X, b.X))
	})
	return slices.Compact(l)
}

// lowest is the lowest level, from one on, that contains all points of a rectangle: the reckoning by the words.
func lowest(from int, r grid.Rect) int {
	for level := from; ; level++ {
		s := square(level)
		if s.Has(r.From) && s.Has(pt(r.To.X-1, r.To.Y-1)) {
			return level
		}
	}
}

// wantPlane checks that a call returned the plane of a store, of a level, with these living cells.
func wantPlane(t *testing.T, name string, s *store.Store, p quad.Plane, e error, level int, cells []grid.Point) {
	t.Helper()
	if e != nil || p.Store != s || p.Level(p.Root) != level {
		t.Errorf("%s: %v, %v, level %d, want a plane of level %d", name, p, e, p.Level(p.Root), level)
		return
	}
	for _, c := range cells {
		if !p.Get(c) {
			t.Errorf("%s: cell %v is dead", name, c)
			return
		}
	}
	if n := uint64(len(sorted(cells))); p.Count(p.Root) != n {
		t.Errorf("%s: %d living cells, want %d", name, p.Count(p.Root), n)
	}
}

// wantError checks that a call returned an error's number, and no plane.
func wantError(t *testing.T, name string, p quad.Plane, e error, n api.Errno) {
	t.Helper()
	if p != (quad.Plane{}) || e == nil || fault.Code(e) != n || !fault.Is(e, n) {
		t.Errorf("%s: %v, %v, want no plane, %v", name, p, e, n)
	}
}

// four is the square of four.
func four(t *testing.T, s *store.Store, a, b, c, d store.ID) store.ID {
	t.Helper()
	x, e := s.Make(store.Kids{a, b, c, d})
	if e != nil {
		t.Fatalf("Make: %v", e)
	}
	return x
}

// noPlanes are what isn't a plane: without a store, or without a square of level 3 or higher.
func noPlanes(t *testing.T) map[string]quad.Plane {
	t.Helper()
	s := fresh(t, enough)
	l1 := four(t, s, 1, 1, 1, 1)
	l2 := four(t, s, l1, l1, l1, l1)
	return map[string]quad.Plane{
		"Plane{}":             {},
		"a root, no store":    {Root: 5},
		"a store without New": {Store: &store.Store{}},
		"a dead cell":         {Store: s, Root: store.Dead},
		"a living cell":       {Store: s, Root: store.Alive},
		"level 1":             {Store: s, Root: l1},
		"level 2":             {Store: s, Root: l2},
		"the greatest number": {Store: s, Root: math.MaxUint32},
	}
}

// dice are numbers that look like chance, the same ones each time.
type dice uint64

// upto is the next number, below n.
func (d *dice) upto(n int64) int64 {
	*d = *d*6364136223846793005 + 1442695040888963407
	return int64(uint64(*d) >> 11 % uint64(n))
}

// point is the next point of a rectangle.
func (d *dice) point(r grid.Rect) grid.Point {
	return pt(r.From.X+d.upto(r.To.X-r.From.X), r.From.Y+d.upto(r.To.Y-r.From.Y))
}

// points are so many next points of a rectangle.
func (d *dice) points(r grid.Rect, n int) []grid.Point {
	var l []grid.Point
	for range n {
		l = append(l, d.point(r))
	}
	return l
}

// corners are the four points at the corners of a rectangle.
func corners(r grid.Rect) []grid.Point {
	a, b := r.From, pt(r.To.X-1, r.To.Y-1)
	return []grid.Point{a, pt(b.X, a.Y), pt(a.X, b.Y), b}
}

// whole is all points on the plane.
func whole() grid.Rect {
	return rect(-last, -last, last+1, last+1)
}

// samples are planes' living cells, for a level: none, in the middle, at the edges, some anywhere.
func samples(level int) map[string][]grid.Point {
	d := dice(level)
	return map[string][]grid.Point{
		"none":              nil,
		"one":               {pt(2, -3)},
		"around the middle": corners(rect(-1, -1, 1, 1)),
		"corners":           corners(square(level)),
		"inner corners":     corners(square(level - 1)),
		"anywhere":          d.points(square(level).And(whole()), 20),
	}
}

// The chapter's example.
func TestExample(t *testing.T) {
	s := fresh(t, enough)
	p, _ := quad.New(s)
	r := rect(0, 0, 3, 2)
	q, e := area.Fill(p, r, true)
	wantPlane(t, "Fill", s, q, e, 3, []grid.Point{pt(0, 0), pt(1, 0), pt(2, 0), pt(0, 1), pt(1, 1), pt(2, 1)})
	if box, ok := area.Box(q); box != r || !ok {
		t.Errorf("Box = %v, %v, want %v", box, ok, r)
	}
	wantPlane(t, "before", s, p, nil, 3, nil)
}
