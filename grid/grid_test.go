package grid_test

import (
	"math"
	"slices"
	"testing"

	"belvedere/api"
	"belvedere/fault"
	"belvedere/grid"
)

// edge is the plane's; far is the greatest coordinate of a rectangle that is passed.
const (
	edge int64 = api.Edge
	far  int64 = 1 << 62
)

// pt is a point, written short.
func pt(x, y int64) grid.Point {
	return grid.Point{X: x, Y: y}
}

// rect is a rectangle, written short.
func rect(x, y, toX, toY int64) grid.Rect {
	return grid.Rect{From: pt(x, y), To: pt(toX, toY)}
}

// inside are coordinates on the plane, with both of its ends.
var inside = []int64{1 - edge, 2 - edge, -1 << 60, -17, -16, -1, 0, 1, 15, 16, 1 << 60, edge - 2, edge - 1}

// outside are coordinates that aren't.
var outside = []int64{math.MinInt64, math.MinInt64 + 1, -far, -edge - 1, -edge, edge, edge + 1, far, math.MaxInt64 - 1, math.MaxInt64}

// P4.1
func TestPointRight(t *testing.T) {
	for _, x := range inside {
		for _, y := range inside {
			if !pt(x, y).Right() {
				t.Errorf("(%d, %d) isn't on the plane", x, y)
			}
		}
		for _, y := range outside {
			if pt(x, y).Right() || pt(y, x).Right() {
				t.Errorf("(%d, %d), or turned, is on the plane", x, y)
			}
		}
	}
	for _, x := range outside {
		for _, y := range outside {
			if pt(x, y).Right() {
				t.Errorf("(%d, %d) is on the plane", x, y)
			}
		}
	}
}

// shiftCase says what Shift returns.
type shiftCase struct {
	p, by, want grid.Point
	code        api.Errno
}

func (c shiftCase) check(t *testing.T) {
	t.Helper()
	got, e := c.p.Shift(c.by)
	if got != c.want || fault.Code(e) != c.code {
		t.Errorf("%v.Shift(%v) = %v, %v, want %v, %d", c.p, c.by, got, e, c.want, int(c.code))
	}
}

// P4.1: within the plane, from an edge, to an edge, and across the whole plane.
func TestShift(t *testing.T) {
	for _, c := range []shiftCase{
		{p: pt(0, 0), by: pt(0, 0), want: pt(0, 0)},
		{p: pt(3, -4), by: pt(10, 20), want: pt(13, 16)},
		{p: pt(3, -4), by: pt(-3, 4), want: pt(0, 0)},
		{p: pt(0, 0), by: pt(edge-1, 1-edge), want: pt(edge-1, 1-edge)},
		{p: pt(edge-1, 1-edge), by: pt(0, 0), want: pt(edge-1, 1-edge)},
		{p: pt(edge-1, 1-edge), by: pt(-1, 1), want: pt(edge-2, 2-edge)},
		{p: pt(edge-2, 2-edge), by: pt(1, -1), want: pt(edge-1, 1-edge)},
		{p: pt(edge-1, 1-edge), by: pt(1-edge, edge-1), want: pt(0, 0)},
		{p: pt(1<<60, -1<<60), by: pt(1<<60-1, 1-1<<60), want: pt(edge-1, 1-edge)},
	} {
		c.check(t)
	}
}

// P4.1: results that aren't on the plane, in each direction.
func TestShiftOffThePlane(t *testing.T) {
	for _, c := range []shiftCase{
		{p: pt(edge-1, 0), by: pt(1, 0)},
		{p: pt(1, 0), by: pt(edge-1, 0)},
		{p: pt(1-edge, 0), by: pt(-1, 0)},
		{p: pt(0, edge-1), by: pt(0, 1)},
		{p: pt(0, 1-edge), by: pt(0, -1)},
		{p: pt(0, -1), by: pt(0, 1-edge)},
		{p: pt(1<<60, 5), by: pt(1<<60, 5)},
		{p: pt(edge-1, edge-1), by: pt(edge-1, edge-1)},
		{p: pt(1-edge, 1-edge), by: pt(1-edge, 1-edge)},
		{p: pt(edge-1, 1-edge), by: pt(edge-1, 1-edge)},
	} {
		c.code = api.ErrRange
		c.check(t)
	}
}

// P4.1: all sums of coordinates that are on the plane.
func TestShiftOfAllPairs(t *testing.T) {
	for _, a := range inside {
		for _, b := range inside {
			x := shiftCase{p: pt(a, 7), by: pt(b, -9), want: pt(a+b, -2)}
			y := shiftCase{p: pt(7, a), by: pt(-9, b), want: pt(-2, a+b)}
			if a+b <= -edge || a+b >= edge {
				x.want, x.code, y.want, y.code = pt(0, 0), api.ErrRange, pt(0, 0), api.ErrRange
			}
			x.check(t)
			y.check(t)
		}
	}
}

// P4.1: ErrArg comes first, whether the sum would be on the plane, off it, or beyond int64.
func TestShiftOfWrongPoints(t *testing.T) {
	for _, bad := range outside {
		for _, good := range append(slices.Clone(inside), outside...) {
			for _, c := range []shiftCase{
				{p: pt(bad, 0), by: pt(good, 0)},
				{p: pt(good, 0), by: pt(bad, 0)},
				{p: pt(0, bad), by: pt(0, good)},
				{p: pt(0, good), by: pt(0, bad)},
				{p: pt(bad, 0), by: pt(0, good)},
				{p: pt(good, 0), by: pt(0, bad)},
				{p: pt(edge-1, bad), by: pt(edge-1, good)},
				{p: pt(edge-1, good), by: pt(edge-1, bad)},
			} {
				c.code = api.ErrArg
				c.check(t)
			}
		}
	}
}

// rectCase says what a rectangle is.
type rectCase struct {
	name         string
	r            grid.Rect
	empty, right bool
	wide, high   int64
}

// rectCases have coordinates that Wide and High take.
var rectCases = []rectCase{
	{"nothing", grid.Rect{}, true, false, 0, 0},
	{"one point", rect(0, 0, 1, 1), false, true, 1, 1},
	{"one point below 0", rect(-5, -6, -4, -5), false, true, 1, 1},
	{"ordinary", rect(-3, 2, 7, 5), false, true, 10, 3},
	{"no width", rect(3, 3, 3, 9), true, false, 0, 6},
	{"no height", rect(3, 9, 8, 9), true, false, 5, 0},
	{"no points elsewhere", rect(7, -7, 7, -7), true, false, 0, 0},
	{"turned in X", rect(8, 0, 3, 4), true, false, 0, 4},
	{"turned in Y", rect(0, 4, 3, -9), true, false, 3, 0},
	{"turned about", rect(8, 4, 3, -9), true, false, 0, 0},
	{"the whole plane", rect(1-edge, 1-edge, edge, edge), false, true, 2*edge - 1, 2*edge - 1},
	{"one more on the left", rect(-edge, 1-edge, edge, edge), false, false, 2 * edge, 2*edge - 1},
	{"one more at the top", rect(1-edge, -edge, edge, edge), false, false, 2*edge - 1, 2 * edge},
	{"the whole plane and more", rect(-edge, -edge, edge, edge), false, false, 2 * edge, 2 * edge},
	{"the plane's first point", rect(1-edge, 1-edge, 2-edge, 2-edge), false, true, 1, 1},
	{"the plane's last point", rect(edge-1, edge-1, edge, edge), false, true, 1, 1},
	{"beside the first point", rect(-edge, 0, 1-edge, 1), false, false, 1, 1},
	{"above the first point", rect(0, -edge, 1, 1-edge), false, false, 1, 1},
	{"no width, at the edge", rect(edge, 0, edge, 1), true, false, 0, 1},
	{"no width, from edge to edge", rect(0, -edge, 0, edge), true, false, 0, 2 * edge},
	{"no height, from edge to edge", rect(-edge, 0, edge, 0), true, false, 2 * edge, 0},
	{"the plane, turned about", rect(edge, edge, -edge, -edge), true, false, 0, 0},
}

// farCases have coordinates that Wide and High don't take.
var farCases = []rectCase{
	{name: "one more on the right", r: rect(1-edge, 1-edge, edge+1, edge)},
	{name: "one more at the bottom", r: rect(1-edge, 1-edge, edge, edge+1)},
	{name: "behind the last point", r: rect(edge, edge, edge+1, edge+1)},
	{name: "as far as it may be", r: rect(-far, -far, far, far)},
	{name: "far on the left", r: rect(-far, 0, 1-far, 1)},
	{name: "far below", r: rect(0, far-1, 1, far)},
	{name: "a far column", r: rect(far-1, -far, far, far)},
	{name: "no width, far", r: rect(far, -far, far, far), empty: true},
	{name: "no height, far", r: rect(-far, -far, far, -far), empty: true},
	{name: "turned about, far", r: rect(far, far, -far, -far), empty: true},
}

// P4.2
func TestEmptyAndRight(t *testing.T) {
	for _, c := range append(slices.Clone(rectCases), farCases...) {
		if got := c.r.Empty(); got != c.empty {
			t.Errorf("%s: Empty() = %v", c.name, got)
		}
		if got := c.r.Right(); got != c.right {
			t.Errorf("%s: Right() = %v", c.name, got)
		}
	}
}

// P4.2
func TestWideAndHigh(t *testing.T) {
	for _, c := range rectCases {
		if w, h := c.r.Wide(), c.r.High(); w != c.wide || h != c.high {
			t.Errorf("%s: %d wide, %d high, want %d, %d", c.name, w, h, c.wide, c.high)
		}
	}
}

// P4.2: the corners of rectangles, and the points beside them.
func TestHas(t *testing.T) {
	for _, r := range []grid.Rect{
		rect(0, 0, 1, 1), rect(-3, 2, 7, 5), rect(1-edge, 1-edge, edge, edge), rect(-far, -far, far, far), rect(far-1, -far, far, 1-far),
	} {
		left, top, right, bottom := r.From.X, r.From.Y, r.To.X-1, r.To.Y-1
		for _, p := range []grid.Point{pt(left, top), pt(right, top), pt(left, bottom), pt(right, bottom)} {
			if !r.Has(p) {
				t.Errorf("%v hasn't %v", r, p)
			}
		}
		for _, p := range []grid.Point{
			pt(left-1, top), pt(left, top-1), pt(right+1, top), pt(right, top-1),
			pt(left-1, bottom), pt(left, bottom+1), pt(right+1, bottom), pt(right, bottom+1),
			pt(math.MinInt64, top), pt(math.MaxInt64, top), pt(left, math.MinInt64), pt(left, math.MaxInt64),
		} {
			if r.Has(p) {
				t.Errorf("%v has %v", r, p)
			}
		}
	}
}

// P4.2: a rectangle without points has none of its corners either.
func TestEmptyHasNothing(t *testing.T) {
	for _, c := range append(slices.Clone(rectCases), farCases...) {
		if !c.empty {
			continue
		}
		xs := []int64{c.r.From.X - 1, c.r.From.X, 0, 5, c.r.To.X - 1, c.r.To.X}
		ys := []int64{c.r.From.Y - 1, c.r.From.Y, 0, 5, c.r.To.Y - 1, c.r.To.Y}
		for _, x := range xs {
			for _, y := range ys {
				if c.r.Has(pt(x, y)) {
					t.Errorf("%s: has (%d, %d)", c.name, x, y)
				}
			}
		}
	}
}

// smallRects are all rectangles with corners from -1 to 2, most of them empty or turned about.
func smallRects() []grid.Rect {
	var out []grid.Rect
	for a := int64(-1); a <= 2; a++ {
		for b := int64(-1); b <= 2; b++ {
			for c := int64(-1); c <= 2; c++ {
				for d := int64(-1); d <= 2; d++ {
					out = append(out, rect(a, b, c, d))
				}
			}
		}
	}
	return out
}

// pointsByWords are the points of a small rectangle as the chapter says them, row by row.
func pointsByWords(r grid.Rect) []grid.Point {
	var out []grid.Point
	for y := int64(-3); y <= 4; y++ {
		for x := int64(-3); x <= 4; x++ {
			if x >= r.From.X && x < r.To.X && y >= r.From.Y && y < r.To.Y {
				out = append(out, pt(x, y))
			}
		}
	}
	return out
}

// around is the least rectangle that has some points.
func around(l []grid.Point) grid.Rect {
	if len(l) == 0 {
		return grid.Rect{}
	}
	r := grid.Rect{From: l[0], To: l[0]}
	for _, p := range l {
		r.From.X, r.From.Y = min(r.From.X, p.X), min(r.From.Y, p.Y)
		r.To.X, r.To.Y = max(r.To.X, p.X), max(r.To.Y, p.Y)
	}
	r.To.X++
	r.To.Y++
	return r
}

// P4.2: all small rectangles, point by point.
func TestSmallRects(t *testing.T) {
	for _, r := range smallRects() {
		want := pointsByWords(r)
		if r.Empty() != (len(want) == 0) || r.Right() != (len(want) > 0) {
			t.Errorf("%v: Empty() = %v, Right() = %v", r, r.Empty(), r.Right())
		}
		var has []grid.Point
		for y := int64(-3); y <= 4; y++ {
			for x := int64(-3); x <= 4; x++ {
				if r.Has(pt(x, y)) {
					has = append(has, pt(x, y))
				}
			}
		}
		if !slices.Equal(has, want) {
			t.Errorf("%v has %v, want %v", r, has, want)
		}
		if len(want) > 0 && r.Wide()*r.High() != int64(len(want)) {
			t.Errorf("%v: %d by %d, but %d points", r, r.Wide(), r.High(), len(want))
		}
	}
}

// P4.2: And and Or of all pairs of small rectangles, in both orders.
func TestSmallAndOr(t *testing.T) {
	all := smallRects()
	for _, a := range all {
		ofA := pointsByWords(a)
		for _, b := range all {
			ofB := pointsByWords(b)
			both := slices.DeleteFunc(slices.Clone(ofA), func(p grid.Point) bool { return !slices.Contains(ofB, p) })
			if got, want := a.And(b), around(both); got != want {
				t.Errorf("%v.And(%v) = %v, want %v", a, b, got, want)
			}
			if got, want := a.Or(b), around(append(slices.Clone(ofA), ofB...)); got != want {
				t.Errorf("%v.Or(%v) = %v, want %v", a, b, got, want)
			}
		}
	}
}

// P4.2: those that meet, touch, lie apart, or one in another; at the edges, and with an empty one.
func TestAndOr(t *testing.T) {
	whole := rect(1-edge, 1-edge, edge, edge)
	widest := rect(-far, -far, far, far)
	nothing := grid.Rect{}
	for _, c := range []struct {
		name         string
		a, b         grid.Rect
		wantA, wantO grid.Rect
	}{
		{"meet", rect(0, 0, 10, 10), rect(5, -5, 20, 5), rect(5, 0, 10, 5), rect(0, -5, 20, 10)},
		{"the same", rect(-2, -3, 4, 5), rect(-2, -3, 4, 5), rect(-2, -3, 4, 5), rect(-2, -3, 4, 5)},
		{"one in another", rect(0, 0, 10, 10), rect(2, 3, 4, 5), rect(2, 3, 4, 5), rect(0, 0, 10, 10)},
		{"a cross", rect(0, 4, 10, 6), rect(4, 0, 6, 10), rect(4, 4, 6, 6), rect(0, 0, 10, 10)},
		{"one point in both", rect(0, 0, 5, 5), rect(4, 4, 9, 9), rect(4, 4, 5, 5), rect(0, 0, 9, 9)},
		{"touch by a side", rect(0, 0, 10, 10), rect(10, 0, 12, 9), nothing, rect(0, 0, 12, 10)},
		{"touch by the bottom", rect(0, 0, 10, 10), rect(2, 10, 5, 11), nothing, rect(0, 0, 10, 11)},
		{"touch by a corner", rect(0, 0, 10, 10), rect(10, 10, 12, 12), nothing, rect(0, 0, 12, 12)},
		{"apart in X", rect(0, 0, 2, 2), rect(50, 0, 52, 2), nothing, rect(0, 0, 52, 2)},
		{"apart in Y", rect(0, 0, 2, 2), rect(0, -50, 2, -48), nothing, rect(0, -50, 2, 2)},
		{"apart in both", rect(0, 0, 2, 2), rect(-50, 60, -48, 62), nothing, rect(-50, 0, 2, 62)},
		{"with nothing", rect(3, 4, 5, 6), nothing, nothing, rect(3, 4, 5, 6)},
		{"nothing twice", nothing, nothing, nothing, nothing},
		{"with an empty one inside", rect(0, 0, 10, 10), rect(5, 2, 5, 8), nothing, rect(0, 0, 10, 10)},
		{"with an empty one outside", rect(0, 0, 10, 10), rect(90, 90, 90, 99), nothing, rect(0, 0, 10, 10)},
		{"with one turned about", rect(0, 0, 10, 10), rect(8, 8, 2, 2), nothing, rect(0, 0, 10, 10)},
		{"with one turned in Y", rect(0, 0, 10, 10), rect(-20, 30, 20, -30), nothing, rect(0, 0, 10, 10)},
		{"empty ones", rect(1, 1, 1, 9), rect(2, 2, 9, 2), nothing, nothing},
		{"ones turned about", rect(9, 9, 1, 1), rect(7, 7, 3, 3), nothing, nothing},
		{"empty ones that make one", rect(0, 0, 0, 9), rect(9, 0, 9, 9), nothing, nothing},
		{"with the plane", whole, rect(-far, 5, far, 6), rect(1-edge, 5, edge, 6), rect(-far, 1-edge, far, edge)},
		{"ends of the plane", rect(1-edge, 1-edge, 2-edge, 2-edge), rect(edge-1, edge-1, edge, edge), nothing, whole},
		{"as far as it may be", widest, whole, whole, widest},
		{"far ends", rect(-far, -far, 1-far, 1-far), rect(far-1, far-1, far, far), nothing, widest},
		{"far and turned about", widest, rect(far, far, -far, -far), nothing, widest},
	} {
		for _, pair := range [][2]grid.Rect{{c.a, c.b}, {c.b, c.a}} {
			if got := pair[0].And(pair[1]); got != c.wantA {
				t.Errorf("%s: %v.And(%v) = %v, want %v", c.name, pair[0], pair[1], got, c.wantA)
			}
			if got := pair[0].Or(pair[1]); got != c.wantO {
				t.Errorf("%s: %v.Or(%v) = %v, want %v", c.name, pair[0], pair[1], got, c.wantO)
			}
		}
	}
}

// P4.2: row by row, in increasing order.
func TestAll(t *testing.T) {
	var got []grid.Point
	for p := range rect(-1, 5, 2, 7).All {
		got = append(got, p)
	}
	want := []grid.Point{pt(-1, 5), pt(0, 5), pt(1, 5), pt(-1, 6), pt(0, 6), pt(1, 6)}
	if !slices.Equal(got, want) {
		t.Errorf("All = %v, want %v", got, want)
	}
	for _, r := range smallRects() {
		if got, want := slices.Collect(r.All), pointsByWords(r); !slices.Equal(got, want) {
			t.Errorf("%v.All = %v, want %v", r, got, want)
		}
	}
}

// firstOf are the first points that All calls yield with, which returns false at the last of them.
func firstOf(r grid.Rect, most int) []grid.Point {
	var out []grid.Point
	r.All(func(p grid.Point) bool {
		out = append(out, p)
		return len(out) != most
	})
	return out
}

// P4.2: broken off at each point, nothing follows.
func TestAllBrokenOff(t *testing.T) {
	for _, r := range []grid.Rect{rect(0, 0, 1, 1), rect(-1, -1, 2, 2), rect(-1, 0, 2, 1), rect(0, -1, 1, 2), rect(-2, 1, 2, 3)} {
		want := pointsByWords(r)
		for most := 1; most <= len(want); most++ {
			if got := firstOf(r, most); !slices.Equal(got, want[:most]) {
				t.Errorf("%v, broken off at point %d: %v, want %v", r, most, got, want[:most])
			}
		}
	}
}

// P4.2, P1: great rectangles, broken off; those at the edges to their ends.
func TestAllFarOff(t *testing.T) {
	for _, c := range []struct {
		r    grid.Rect
		most int
		want []grid.Point
	}{
		{rect(-far, -far, far, far), 3, []grid.Point{pt(-far, -far), pt(1-far, -far), pt(2-far, -far)}},
		{rect(far-2, -far, far, far), 3, []grid.Point{pt(far-2, -far), pt(far-1, -far), pt(far-2, 1-far)}},
		{rect(1-edge, 1-edge, edge, edge), 2, []grid.Point{pt(1-edge, 1-edge), pt(2-edge, 1-edge)}},
		{rect(edge-1, edge-2, edge, edge), 9, []grid.Point{pt(edge-1, edge-2), pt(edge-1, edge-1)}},
		{rect(far-1, far-1, far, far), 9, []grid.Point{pt(far-1, far-1)}},
	} {
		if got := firstOf(c.r, c.most); !slices.Equal(got, c.want) {
			t.Errorf("%v.All = %v, want %v", c.r, got, c.want)
		}
	}
}

// P4.2, P1: without points there are no calls, and no rows to go through, however many they would be.
func TestAllOfEmpty(t *testing.T) {
	for _, c := range append(slices.Clone(rectCases), farCases...) {
		if c.empty {
			for p := range c.r.All {
				t.Fatalf("%s: All yields %v", c.name, p)
			}
		}
	}
}

// P1
func TestAllOfNilYield(t *testing.T) {
	rect(0, 0, 2, 2).All(nil)
	rect(0, 0, 0, 2).All(nil)
}

// P2: the same rectangle yields the same again, also inside a walk over itself.
func TestAllWithinAll(t *testing.T) {
	r := rect(-1, -1, 2, 1)
	want := pointsByWords(r)
	var outer []grid.Point
	for p := range r.All {
		outer = append(outer, p)
		if got := slices.Collect(r.All); !slices.Equal(got, want) {
			t.Errorf("inside, at %v: %v, want %v", p, got, want)
		}
	}
	if !slices.Equal(outer, want) {
		t.Errorf("outside: %v, want %v", outer, want)
	}
}

// P4.3, with the chapter's example.
func TestTile(t *testing.T) {
	for _, c := range []struct {
		p    grid.Point
		zoom int
		want grid.Point
	}{
		{pt(-1, 16), 0, pt(-1, 1)},
		{pt(0, 0), 0, pt(0, 0)},
		{pt(15, 16), 0, pt(0, 1)},
		{pt(-16, -17), 0, pt(-1, -2)},
		{pt(31, -32), 1, pt(0, -1)},
		{pt(32, -33), 1, pt(1, -2)},
		{pt(63, 64), 2, pt(0, 1)},
		{pt(1000, -1000), 3, pt(7, -8)},
		{pt(0, -1), 16, pt(0, -1)},
		{pt(1<<20-1, 1<<20), 16, pt(0, 1)},
		{pt(-1<<20, -1<<20-1), 16, pt(-1, -2)},
		{pt(edge-1, 1-edge), 0, pt(1<<57-1, -1<<57)},
		{pt(1-edge, edge-1), 16, pt(-1<<41, 1<<41-1)},
	} {
		if got := grid.Tile(c.p, c.zoom); got != c.want {
			t.Errorf("Tile(%v, %d) = %v, want %v", c.p, c.zoom, got, c.want)
		}
	}
}

// tileByWords is the number of the tile that has a coordinate, by division.
func tileByWords(n int64, zoom int) int64 {
	side := int64(16)
	for range zoom {
		side *= 2
	}
	q := n / side
	if n%side < 0 {
		q--
	}
	return q
}

// areaByWords is the points of a tile as the chapter says them.
func areaByWords(tile grid.Point, zoom int) grid.Rect {
	side := int64(16)
	for range zoom {
		side *= 2
	}
	return rect(tile.X*side, tile.Y*side, (tile.X+1)*side, (tile.Y+1)*side)
}

// coordinates are those around 0, at tiles' edges, and at the plane's, at a zoom.
func coordinates(zoom int) []int64 {
	side := int64(16) << zoom
	out := slices.Clone(inside)
	for _, n := range []int64{-1000, -3, -2, -1, 0, 1, 2, 3, 1000, edge/side - 1, 1 - edge/side} {
		for _, d := range []int64{-side / 2, -1, 0, 1, side / 2} {
			out = append(out, n*side+d)
		}
	}
	return out
}

// P4.3: at each zoom, on both sides of 0, at the edges of tiles and of the plane.
func TestTileAndAreaAtEachZoom(t *testing.T) {
	for zoom := range api.MaxZoom + 1 {
		l := coordinates(zoom)
		for i, x := range l {
			p := pt(x, l[(i*7+3)%len(l)])
			tile := grid.Tile(p, zoom)
			if want := pt(tileByWords(p.X, zoom), tileByWords(p.Y, zoom)); tile != want {
				t.Errorf("Tile(%v, %d) = %v, want %v", p, zoom, tile, want)
			}
			area := grid.Area(tile, zoom)
			if want := areaByWords(tile, zoom); area != want {
				t.Errorf("Area(%v, %d) = %v, want %v", tile, zoom, area, want)
			}
			if !area.Has(p) {
				t.Errorf("zoom %d: the area %v of %v's tile hasn't it", zoom, area, p)
			}
		}
	}
}

// P4.3
func TestArea(t *testing.T) {
	for _, c := range []struct {
		tile grid.Point
		zoom int
		want grid.Rect
	}{
		{pt(0, 0), 0, rect(0, 0, 16, 16)},
		{pt(-1, 1), 0, rect(-16, 16, 0, 32)},
		{pt(2, -3), 1, rect(64, -96, 96, -64)},
		{pt(0, -1), 16, rect(0, -1<<20, 1<<20, 0)},
		{pt(1<<57-1, -1<<57), 0, rect(edge-16, -edge, edge, 16-edge)},
		{pt(-1<<41, 1<<41-1), 16, rect(-edge, edge-1<<20, 1<<20-edge, edge)},
	} {
		if got := grid.Area(c.tile, c.zoom); got != c.want {
			t.Errorf("Area(%v, %d) = %v, want %v", c.tile, c.zoom, got, c.want)
		}
	}
}

// P4.3: a tile's area is of it alone, up to its last point.
func TestAreaIsOfOneTile(t *testing.T) {
	for zoom := range api.MaxZoom + 1 {
		for _, tile := range []grid.Point{pt(0, 0), pt(-1, -1), pt(5, -6), pt(-1000, 999)} {
			r := grid.Area(tile, zoom)
			first, last := r.From, pt(r.To.X-1, r.To.Y-1)
			if grid.Tile(first, zoom) != tile || grid.Tile(last, zoom) != tile {
				t.Errorf("zoom %d: ends of %v's area are of other tiles", zoom, tile)
			}
			if grid.Tile(pt(first.X-1, first.Y-1), zoom) != pt(tile.X-1, tile.Y-1) || grid.Tile(r.To, zoom) != pt(tile.X+1, tile.Y+1) {
				t.Errorf("zoom %d: points beside %v's area aren't of the next tiles", zoom, tile)
			}
			if side := int64(16) << zoom; r.Wide() != side || r.High() != side {
				t.Errorf("zoom %d: %v's area is %d by %d", zoom, tile, r.Wide(), r.High())
			}
			if got := grid.Tiles(r, zoom); got != rect(tile.X, tile.Y, tile.X+1, tile.Y+1) {
				t.Errorf("zoom %d: Tiles of %v's area = %v", zoom, tile, got)
			}
		}
	}
}

// P4.3
func TestTiles(t *testing.T) {
	for _, c := range []struct {
		name string
		r    grid.Rect
		zoom int
		want grid.Rect
	}{
		{"one point", rect(0, 0, 1, 1), 0, rect(0, 0, 1, 1)},
		{"one point before 0", rect(-1, -1, 0, 0), 0, rect(-1, -1, 0, 0)},
		{"up to a tile's edge", rect(-1, 0, 17, 16), 0, rect(-1, 0, 2, 1)},
		{"beyond a tile's edge", rect(-17, 0, 16, 17), 0, rect(-2, 0, 1, 2)},
		{"both sides of 0", rect(-1, -1, 1, 1), 16, rect(-1, -1, 1, 1)},
		{"within a tile", rect(70, -70, 80, -65), 2, rect(1, -2, 2, -1)},
		{"one row of tiles", rect(-64, 5, 64, 6), 1, rect(-2, 0, 2, 1)},
		{"the whole plane, zoom 0", rect(1-edge, 1-edge, edge, edge), 0, rect(-1<<57, -1<<57, 1<<57, 1<<57)},
		{"the whole plane, zoom 16", rect(1-edge, 1-edge, edge, edge), 16, rect(-1<<41, -1<<41, 1<<41, 1<<41)},
		{"the last point", rect(edge-1, edge-1, edge, edge), 0, rect(1<<57-1, 1<<57-1, 1<<57, 1<<57)},
		{"the first point", rect(1-edge, 1-edge, 2-edge, 2-edge), 0, rect(-1<<57, -1<<57, 1-1<<57, 1-1<<57)},
		{"as far as it may be", rect(-far, -far, far, far), 0, rect(-1<<58, -1<<58, 1<<58, 1<<58)},
		{"as far as it may be, zoom 16", rect(-far, -far, far, far), 16, rect(-1<<42, -1<<42, 1<<42, 1<<42)},
	} {
		if got := grid.Tiles(c.r, c.zoom); got != c.want {
			t.Errorf("%s: Tiles(%v, %d) = %v, want %v", c.name, c.r, c.zoom, got, c.want)
		}
	}
}

// P4.3
func TestTilesOfEmpty(t *testing.T) {
	for zoom := range api.MaxZoom + 1 {
		for _, c := range append(slices.Clone(rectCases), farCases...) {
			if got := grid.Tiles(c.r, zoom); c.empty != (got == grid.Rect{}) {
				t.Errorf("%s, zoom %d: Tiles = %v", c.name, zoom, got)
			}
		}
	}
}

// P4.3: the tiles are those of the points, no more and no fewer.
func TestTilesByPoints(t *testing.T) {
	for _, zoom := range []int{0, 1} {
		for _, x := range []int64{-33, -32, -17, -16, -15, -1, 0, 1, 15, 16, 31} {
			for _, y := range []int64{-32, -1, 0, 15} {
				for _, size := range []grid.Point{pt(1, 1), pt(2, 16), pt(16, 17), pt(33, 2), pt(1, 40)} {
					r := rect(x, y, x+size.X, y+size.Y)
					var tiles []grid.Point
					for p := range r.All {
						tiles = append(tiles, pt(tileByWords(p.X, zoom), tileByWords(p.Y, zoom)))
					}
					if got, want := grid.Tiles(r, zoom), around(tiles); got != want {
						t.Errorf("Tiles(%v, %d) = %v, want %v", r, zoom, got, want)
					}
				}
			}
		}
	}
}

// P4.3: at each zoom, each tile of Tiles has points of the rectangle, and those around it have none.
func TestTilesMeetTheirRect(t *testing.T) {
	for zoom := range api.MaxZoom + 1 {
		side := int64(16) << zoom
		for _, r := range []grid.Rect{
			rect(0, 0, side, side), rect(-1, -1, 1, 1), rect(0, 0, side+1, 2*side), rect(-side-1, -side, side-1, 1), rect(5-3*side, 7, 3, 8+side),
		} {
			tiles := grid.Tiles(r, zoom)
			for tile := range tiles.All {
				if areaByWords(tile, zoom).And(r).Empty() {
					t.Errorf("zoom %d: tile %v has no points of %v", zoom, tile, r)
				}
			}
			for tile := range rect(tiles.From.X-1, tiles.From.Y-1, tiles.To.X+1, tiles.To.Y+1).All {
				if !tiles.Has(tile) && !areaByWords(tile, zoom).And(r).Empty() {
					t.Errorf("zoom %d: tile %v has points of %v", zoom, tile, r)
				}
			}
		}
	}
}

// P1: zooms and points that the chapter doesn't take don't make a call panic.
func TestNothingPanics(t *testing.T) {
	for _, zoom := range []int{math.MinInt, -5, -4, -1, 17, 59, 60, 64, 1000, math.MaxInt} {
		for _, n := range append(slices.Clone(inside), outside...) {
			grid.Tile(pt(n, -n), zoom)
			grid.Area(pt(n, -n), zoom)
			grid.Tiles(rect(0, 0, n, n), zoom)
			grid.Tiles(rect(n, n, 0, 0), zoom)
		}
	}
	for _, n := range outside {
		r := rect(n, n, -n, -n)
		r.Wide()
		r.High()
		r.Right()
		r.And(rect(-n, -n, n, n))
		r.Or(rect(-n, -n, n, n))
		firstOf(r, 2)
	}
}
