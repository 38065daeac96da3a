package quad_test

import (
	"cmp"
	"math"
	"slices"
	"testing"

	"belvedere/api"
	"belvedere/fault"
	"belvedere/grid"
	"belvedere/quad"
	"belvedere/store"
)

// enough is room for all squares of a test that isn't about room.
const enough = 20000

// pt is a point.
func pt(x, y int64) grid.Point {
	return grid.Point{X: x, Y: y}
}

// fresh is a store with room for so many squares.
func fresh(t *testing.T, most int) *store.Store {
	t.Helper()
	s, e := store.New(most)
	if s == nil || e != nil {
		t.Fatalf("store.New(%d) = %v, %v", most, s, e)
	}
	return s
}

// built is the square of a level, its first cell at a corner, that has these living cells: the reckoning by the words, from parts of points.
func built(t *testing.T, s *store.Store, level int, corner grid.Point, cells []grid.Point) store.ID {
	t.Helper()
	if len(cells) == 0 {
		x, e := s.Empty(level)
		if e != nil {
			t.Fatalf("Empty(%d): %v", level, e)
		}
		return x
	}
	if level == 0 {
		return store.Alive
	}
	half := int64(1) << (level - 1)
	var k store.Kids
	for i := range k {
		from := pt(corner.X+half*int64(i%2), corner.Y+half*int64(i/2))
		part := grid.Rect{From: from, To: pt(from.X+half, from.Y+half)}
		var in []grid.Point
		for _, c := range cells {
			if part.Has(c) {
				in = append(in, c)
			}
		}
		k[i] = built(t, s, level-1, from, in)
	}
	x, e := s.Make(k)
	if e != nil {
		t.Fatalf("Make(%v): %v", k, e)
	}
	return x
}

// planeOf is the plane of a level that has these living cells.
func planeOf(t *testing.T, s *store.Store, level int, cells []grid.Point) quad.Plane {
	t.Helper()
	first := -int64(1) << (level - 1)
	return quad.Plane{Store: s, Root: built(t, s, level, pt(first, first), cells)}
}

// living are the living cells of a square, its first cell at a corner.
func living(s *store.Store, x store.ID, corner grid.Point) []grid.Point {
	if x == store.Alive {
		return []grid.Point{corner}
	}
	k, ok := s.Of(x)
	if !ok || s.Count(x) == 0 {
		return nil
	}
	half := int64(1) << (s.Level(x) - 1)
	var l []grid.Point
	for i, part := range k {
		l = append(l, living(s, part, pt(corner.X+half*int64(i%2), corner.Y+half*int64(i/2)))...)
	}
	return l
}

// cellsOf are the living cells of a plane, in order.
func cellsOf(p quad.Plane) []grid.Point {
	first := -int64(1) << (p.Level(p.Root) - 1)
	return sorted(living(p.Store, p.Root, pt(first, first)))
}

// sorted are points in order.
func sorted(l []grid.Point) []grid.Point {
	l = slices.Clone(l)
	slices.SortFunc(l, func(a, b grid.Point) int {
		return cmp.Or(cmp.Compare(a.Y, b.Y), cmp.Compare(a.X, b.X))
	})
	return slices.Compact(l)
}

// lowest is the lowest level, from one on, whose square has all these points: the reckoning by the words.
func lowest(from int, points []grid.Point) int {
	for level := from; ; level++ {
		half := int64(1) << (level - 1)
		inside := func(c grid.Point) bool {
			return c.X >= -half && c.X < half && c.Y >= -half && c.Y < half
		}
		if !slices.ContainsFunc(points, func(c grid.Point) bool { return !inside(c) }) {
			return level
		}
	}
}

// wantPlane checks that a call returned a plane of a store, of a level, with these living cells.
func wantPlane(t *testing.T, name string, s *store.Store, p quad.Plane, e error, level int, cells []grid.Point) {
	t.Helper()
	if e != nil {
		t.Errorf("%s: %v, want a plane of level %d", name, e, level)
		return
	}
	if p.Store != s || p.Level(p.Root) != level {
		t.Errorf("%s: store %p, level %d, want %p, %d", name, p.Store, p.Level(p.Root), s, level)
		return
	}
	if got := cellsOf(p); !slices.Equal(got, sorted(cells)) {
		t.Errorf("%s: cells %v, want %v", name, got, sorted(cells))
	}
	for _, c := range cells {
		if !p.Get(c) {
			t.Errorf("%s: cell %v is dead", name, c)
		}
	}
}

// wantError checks that a call returned an error's number, and no plane.
func wantError(t *testing.T, name string, p quad.Plane, e error, n api.Errno) {
	t.Helper()
	if p != (quad.Plane{}) || e == nil || fault.Code(e) != n || !fault.Is(e, n) {
		t.Errorf("%s: %v, %v, want no plane, %v", name, p, e, n)
	}
}

// change is a call that returns another plane.
type change struct {
	name string
	do   func(p quad.Plane) (quad.Plane, error)
}

// expand, trim, reach and set are the calls that return another plane.
func expand() change {
	return change{name: "Expand", do: quad.Plane.Expand}
}

func trim() change {
	return change{name: "Trim", do: quad.Plane.Trim}
}

func reach(q grid.Point) change {
	return change{name: "Reach", do: func(p quad.Plane) (quad.Plane, error) { return p.Reach(q) }}
}

func set(q grid.Point, alive bool) change {
	return change{name: "Set", do: func(p quad.Plane) (quad.Plane, error) { return p.Set(q, alive) }}
}

// noPlanes are what isn't a plane: without a store, or without a square of level 3 or higher.
func noPlanes(t *testing.T) map[string]quad.Plane {
	t.Helper()
	s := fresh(t, enough)
	l1 := four(t, s, 1, 1, 1, 1)
	l2 := four(t, s, l1, l1, l1, l1)
	s.Empty(2)
	m := s.Mark()
	e3, _ := s.Empty(3)
	s.Back(m)
	return map[string]quad.Plane{
		"Plane{}":              {},
		"a root, no store":     {Root: 5},
		"a store without New":  {Store: &store.Store{}},
		"a dead cell":          {Store: s, Root: store.Dead},
		"a living cell":        {Store: s, Root: store.Alive},
		"level 1":              {Store: s, Root: l1},
		"level 2":              {Store: s, Root: l2},
		"a square that's gone": {Store: s, Root: e3},
		"the greatest number":  {Store: s, Root: math.MaxUint32},
	}
}

// dice are numbers that look like chance, the same ones each time.
type dice uint64

// upto is the next number, below n.
func (d *dice) upto(n int64) int64 {
	*d = *d*6364136223846793005 + 1442695040888963407
	return int64(uint64(*d) >> 11 % uint64(n))
}

// point is the next point within a level's square.
func (d *dice) point(level int) grid.Point {
	half := int64(1) << (level - 1)
	// The least coordinate of level 62 isn't on the plane.
	low := max(-half, 1-api.Edge)
	return pt(low+d.upto(2*half)%(half-low), low+d.upto(2*half)%(half-low))
}

// points are so many next points within a level's square.
func (d *dice) points(level, n int) []grid.Point {
	var l []grid.Point
	for range n {
		l = append(l, d.point(level))
	}
	return l
}

// corners are the four points at the corners of a level's square.
func corners(level int) []grid.Point {
	half := int64(1) << (level - 1)
	return []grid.Point{pt(-half, -half), pt(half-1, -half), pt(-half, half-1), pt(half-1, half-1)}
}

// beyond are points that a level's square just doesn't have, beside each corner.
func beyond(level int) []grid.Point {
	half := int64(1) << (level - 1)
	return []grid.Point{
		pt(-half-1, -half), pt(-half, -half-1), pt(-half-1, -half-1),
		pt(half, -half), pt(half-1, -half-1), pt(half, -half-1),
		pt(-half-1, half-1), pt(-half, half), pt(-half-1, half),
		pt(half, half-1), pt(half-1, half), pt(half, half),
	}
}

// farOff are points at the ends of what a number may be.
func farOff() []grid.Point {
	var l []grid.Point
	ends := []int64{math.MinInt64, math.MinInt64 + 1, -1 << 62, 0, 1 << 62, math.MaxInt64}
	for _, x := range ends {
		for _, y := range ends {
			if x != 0 || y != 0 {
				l = append(l, pt(x, y))
			}
		}
	}
	return l
}

// P7.1
func TestNew(t *testing.T) {
	s := fresh(t, 5)
	p, e := quad.New(s)
	wantPlane(t, "New", s, p, e, 3, nil)
	if x, _ := s.Empty(3); p.Root != x || s.Len() != 5 {
		t.Errorf("New: root %d, %d squares, want %d, 5", p.Root, s.Len(), x)
	}
	again, e := quad.New(s)
	if again != p || e != nil || s.Len() != 5 {
		t.Errorf("New again: %v, %v, %d squares, want %v", again, e, s.Len(), p)
	}
}

// P7.1
func TestNewFails(t *testing.T) {
	p, e := quad.New(nil)
	wantError(t, "New(nil)", p, e, api.ErrArg)
	p, e = quad.New(&store.Store{})
	wantError(t, "New of a store without New", p, e, api.ErrArg)
	for most := 2; most < 5; most++ {
		p, e := quad.New(fresh(t, most))
		wantError(t, "New without room", p, e, api.ErrFull)
	}
}

// P7.1: every cell of small planes, and those around them, against the list of the living ones.
func TestGetSmall(t *testing.T) {
	d := dice(1)
	s := fresh(t, enough)
	for level := 3; level <= 5; level++ {
		for _, n := range []int{0, 1, 2, 10, 100} {
			cells := d.points(level, n)
			p := planeOf(t, s, level, cells)
			half := int64(1) << (level - 1)
			around := grid.Rect{From: pt(-half-3, -half-3), To: pt(half+3, half+3)}
			for q := range around.All {
				if p.Get(q) != slices.Contains(cells, q) {
					t.Fatalf("level %d, cells %v: Get(%v) = %v", level, cells, q, p.Get(q))
				}
			}
		}
	}
}

// P7.1
func TestGetCorners(t *testing.T) {
	s := fresh(t, enough)
	for level := 3; level <= 62; level++ {
		all := planeOf(t, s, level, corners(level))
		for i, c := range corners(level) {
			if !all.Get(c) {
				t.Errorf("level %d: corner %v is dead", level, c)
			}
			one := planeOf(t, s, level, []grid.Point{c})
			for j, o := range corners(level) {
				if one.Get(o) != (i == j) {
					t.Errorf("level %d, cell %v: Get(%v) = %v", level, c, o, one.Get(o))
				}
			}
		}
		for _, q := range slices.Concat(beyond(level), farOff()) {
			if all.Get(q) {
				t.Errorf("level %d: Get(%v) is alive, outside", level, q)
			}
		}
	}
}

// P7.1: a square without dead cells shows where it ends.
func TestGetFull(t *testing.T) {
	s := fresh(t, enough)
	x := store.Alive
	for level := 1; level <= 62; level++ {
		x, _ = s.Make(store.Kids{x, x, x, x})
		if level < 3 {
			continue
		}
		p := quad.Plane{Store: s, Root: x}
		for _, q := range append(corners(level), pt(0, 0), pt(-1, -1), pt(3, -4)) {
			if !p.Get(q) {
				t.Errorf("level %d: Get(%v) is dead", level, q)
			}
		}
		for _, q := range slices.Concat(beyond(level), farOff()) {
			if p.Get(q) {
				t.Errorf("level %d: Get(%v) is alive, outside", level, q)
			}
		}
	}
}

// P7.1
func TestGetOfNoPlane(t *testing.T) {
	for name, p := range noPlanes(t) {
		for _, q := range append(farOff(), pt(0, 0), pt(-1, -1), pt(1, 1)) {
			if p.Get(q) {
				t.Errorf("%s: Get(%v) is alive", name, q)
			}
		}
	}
}

// P7.1: sixteen squares that differ, of each level: the four in the middle are the sixth, seventh, tenth and eleventh.
func TestCentre(t *testing.T) {
	s := fresh(t, enough)
	for below := 0; below <= 60; below++ {
		var grand [16]store.ID
		for i := range grand {
			// At level 0 there are only two that differ: those in the middle are told by turns.
			grand[i] = store.ID(i*7/3) & 1
			if below > 0 {
				grand[i] = marked(t, s, below, i)
			}
		}
		x, _ := s.Make(store.Kids{
			four(t, s, grand[0], grand[1], grand[4], grand[5]),
			four(t, s, grand[2], grand[3], grand[6], grand[7]),
			four(t, s, grand[8], grand[9], grand[12], grand[13]),
			four(t, s, grand[10], grand[11], grand[14], grand[15]),
		})
		want := store.Kids{grand[5], grand[6], grand[9], grand[10]}
		there := s.Len()
		if got, ok := quad.Centre(s, x); got != want || !ok || s.Level(x) != below+2 || s.Len() != there {
			t.Errorf("Centre at level %d = %v, %v, want %v, true", below+2, got, ok, want)
		}
	}
}

// P7.1: all squares of level 2, by their sixteen cells.
func TestCentreOfCells(t *testing.T) {
	s := fresh(t, 1<<17)
	for n := range 1 << 16 {
		cell := func(x, y int) store.ID { return store.ID(n >> (4*y + x) & 1) }
		var k store.Kids
		for i := range k {
			x, y := 2*(i%2), 2*(i/2)
			k[i] = four(t, s, cell(x, y), cell(x+1, y), cell(x, y+1), cell(x+1, y+1))
		}
		whole := four(t, s, k[0], k[1], k[2], k[3])
		want := store.Kids{cell(1, 1), cell(2, 1), cell(1, 2), cell(2, 2)}
		if got, ok := quad.Centre(s, whole); got != want || !ok {
			t.Fatalf("cells %b: Centre = %v, %v, want %v, true", n, got, ok, want)
		}
	}
}

// four is the square of four.
func four(t *testing.T, s *store.Store, a, b, c, d store.ID) store.ID {
	t.Helper()
	x, e := s.Make(store.Kids{a, b, c, d})
	if e != nil {
		t.Fatalf("Make: %v", e)
	}
	return x
}

// marked is a square of a level, the number of which can be told from its cells.
func marked(t *testing.T, s *store.Store, level, n int) store.ID {
	t.Helper()
	x := four(t, s, store.ID(n&1), store.ID(n>>1&1), store.ID(n>>2&1), store.ID(n>>3&1))
	for l := 1; l < level; l++ {
		empty, _ := s.Empty(l)
		x = four(t, s, empty, x, empty, empty)
	}
	return x
}

// P7.1
func TestCentreOfOthers(t *testing.T) {
	s := fresh(t, enough)
	for n := range store.ID(16) {
		four(t, s, n&1, n>>1&1, n>>2&1, n>>3&1)
	}
	none := func(name string, s *store.Store, x store.ID) {
		t.Helper()
		if k, ok := quad.Centre(s, x); ok || k != (store.Kids{}) {
			t.Errorf("%s: Centre of %d = %v, %v, want none, false", name, x, k, ok)
		}
	}
	for x := range store.ID(s.Len()) {
		none("level 0 or 1", s, x)
	}
	for _, x := range []store.ID{store.ID(s.Len()), store.ID(s.Len()) + 1, 1 << 20, 1 << 31, math.MaxUint32} {
		none("no square", s, x)
	}
	for _, x := range []store.ID{0, 1, 2, 100, math.MaxUint32} {
		none("a nil store", nil, x)
		none("a store without New", &store.Store{}, x)
	}
}
