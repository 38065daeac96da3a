package area_test

import (
	"fmt"
	"maps"
	"slices"
	"strings"
	"testing"

	"belvedere/api"
	"belvedere/area"
	"belvedere/grid"
	"belvedere/quad"
	"belvedere/rle"
)

// pattern is the pattern of a text.
func pattern(t *testing.T, text string) rle.Pattern {
	t.Helper()
	p, e := rle.Parse(text)
	if e != nil {
		t.Fatalf("Parse(%q): %v", text, e)
	}
	return p
}

// patterns have cells, or none; some have a border without cells, one is as great as may be.
func patterns(t *testing.T) map[string]rle.Pattern {
	t.Helper()
	return map[string]rle.Pattern{
		"a cell":          pattern(t, "x = 1, y = 1\no!"),
		"a dead cell":     pattern(t, "x = 1, y = 1\n!"),
		"a glider":        pattern(t, "x = 3, y = 3, rule = B3/S23\nbob$2bo$3o!"),
		"a full one":      pattern(t, "x = 5, y = 2\n5o$5o!"),
		"without cells":   pattern(t, "x = 7, y = 4\n!"),
		"with a border":   pattern(t, "x = 12, y = 10\n$$$4bobo$5bo!"),
		"a row":           pattern(t, "x = 20, y = 1\n3o5b2o!"),
		"a column":        pattern(t, "x = 1, y = 9\no$o$$$o!"),
		"a high dead one": pattern(t, "x = 2, y = 1024\n!"),
		"a sparse one":    pattern(t, "x = 1024, y = 1024\no1022bo1000$10bo$3o!"),
	}
}

// pasted are the living cells after a Paste, and its rectangle: the reckoning by the words.
func pasted(cells []grid.Point, p rle.Pattern, at grid.Point, over bool) ([]grid.Point, grid.Rect) {
	r := rect(at.X, at.Y, at.X+int64(p.Wide), at.Y+int64(p.High))
	l := slices.Clone(cells)
	if !over {
		l = outside(l, r)
	}
	for _, c := range p.Cells {
		l = append(l, pt(at.X+c.X, at.Y+c.Y))
	}
	return sorted(l), r
}

// places are points to paste at: near, far, and where the pattern just is on the plane.
func places(b rle.Pattern, level int) []grid.Point {
	w, h := int64(b.Wide), int64(b.High)
	end := square(level).To
	l := []grid.Point{
		pt(0, 0), pt(-1, -1), pt(-3, 2), pt(1, -2), pt(-w, -h), pt(-w+1, 0), pt(100, -50),
		pt(end.X-w, end.Y-h), pt(end.X-w+1, 0), pt(0, end.Y-h+1), pt(-end.X, -end.Y), pt(-end.X-1, 0), pt(0, -end.Y-1),
		pt(1<<40, -1<<33), pt(-last, -last), pt(api.Edge-w, api.Edge-h), pt(-last, api.Edge-h), pt(api.Edge-w, 3),
	}
	return slices.DeleteFunc(l, func(at grid.Point) bool { return !isRight(b, at) })
}

// P8.1
func TestPaste(t *testing.T) {
	for name, b := range patterns(t) {
		before := slices.Clone(b.Cells)
		for _, level := range []int{3, 12, 33, 62} {
			for from, cells := range samples(level) {
				// Some of the plane's cells are where the pattern has its own.
				cells = inside(slices.Concat(cells, b.Cells), square(level))
				p := planeOf(t, fresh(t, enough), level, cells)
				for _, at := range places(b, level) {
					name := fmt.Sprintf("%s at %v, level %d, %s", name, at, level, from)
					wantPasted(t, name, p, cells, b, at)
				}
				wantPlane(t, "before", p.Store, p, nil, level, cells)
			}
		}
		if !slices.Equal(b.Cells, before) {
			t.Errorf("%s was changed", name)
		}
	}
}

// isRight tells whether a pattern is all on the plane, at a point.
func isRight(b rle.Pattern, at grid.Point) bool {
	return rect(at.X, at.Y, at.X+int64(b.Wide), at.Y+int64(b.High)).Right()
}

// wantPasted checks Paste of a pattern onto a plane with these living cells, with and without over.
func wantPasted(t *testing.T, name string, p quad.Plane, cells []grid.Point, b rle.Pattern, at grid.Point) {
	t.Helper()
	for _, over := range []bool{true, false} {
		after, r := pasted(cells, b, at, over)
		level := lowest(p.Level(p.Root), r)
		q, e := area.Paste(p, b, at, over)
		if want := planeOf(t, p.Store, level, after); q != want || e != nil {
			t.Errorf("%s, over %v: %v of level %d, %v, want %v of level %d", name, over, q, q.Level(q.Root), e, want, level)
		}
	}
}

// P8.1: as many cells, in as great a rectangle, as may be, at the ends of the plane, in a store that has little more room than its squares need.
func TestPasteMuch(t *testing.T) {
	var text strings.Builder
	text.WriteString("x = 1024, y = 1024\n")
	for range 1000 {
		text.WriteString("obo3b2o4bob3o9bo2b5o5bo3bo2bo97b2o$\n")
	}
	b := pattern(t, text.String()+"!")
	if len(b.Cells) < 19000 {
		t.Fatalf("%d cells are too few", len(b.Cells))
	}
	for _, at := range []grid.Point{pt(-500, -501), pt(-last, api.Edge-1024), pt(api.Edge-1024, -last)} {
		s := fresh(t, enough)
		p := fill(t, planeOf(t, s, 3, nil), rect(at.X, at.Y, at.X+9, at.Y+1024), true)
		for _, over := range []bool{true, false} {
			q, e := area.Paste(p, b, at, over)
			want, r := pasted(slices.Collect(rect(at.X, at.Y, at.X+9, at.Y+1024).All), b, at, over)
			wantPlane(t, fmt.Sprint(at, over), s, q, e, lowest(3, r), want)
			if s.Len() > enough/2 {
				t.Errorf("%v, %v: %d squares", at, over, s.Len())
			}
		}
	}
}

// P8.1: a glider in a plane of living cells is all that is dead around it; with over nothing changes.
func TestPasteIntoFull(t *testing.T) {
	s := fresh(t, enough)
	p := fill(t, planeOf(t, s, 3, nil), rect(-1<<20, -1<<20, 1<<20, 1<<20), true)
	b := pattern(t, "x = 3, y = 3\nbob$2bo$3o!")
	for _, at := range []grid.Point{pt(0, 0), pt(-2, -1), pt(1<<20-3, -1<<20), pt(777, -12345)} {
		q, e := area.Paste(p, b, at, false)
		if e != nil || q.Count(q.Root) != 1<<42-4 || q.Get(at) || !q.Get(pt(at.X+1, at.Y)) || q.Get(pt(at.X+1, at.Y+1)) {
			t.Errorf("at %v: %v, %v, %d cells", at, q, e, q.Count(q.Root))
		}
		if q, e := area.Paste(p, b, at, true); q != p || e != nil {
			t.Errorf("at %v, over: %v, %v, want %v", at, q, e, p)
		}
	}
}

// noRects are patterns whose rectangle contains no points.
func noRects(t *testing.T) []rle.Pattern {
	t.Helper()
	return []rle.Pattern{{}, pattern(t, "x = 0, y = 0\n!"), pattern(t, "x = 5, y = 0\n5b!"), pattern(t, "x = 0, y = 7\n3$!")}
}

// P8.1: a rectangle without points changes nothing, whatever room there is.
func TestPasteNothing(t *testing.T) {
	for _, level := range []int{3, 9, 62} {
		for name, cells := range samples(level) {
			p := planeOf(t, fresh(t, enough), level, cells)
			full := planeOf(t, fresh(t, p.Len()), level, cells)
			for _, p := range []quad.Plane{p, full} {
				for _, b := range noRects(t) {
					for _, at := range slices.Concat([]grid.Point{pt(0, 0), pt(100, 100)}, corners(whole())) {
						for _, over := range []bool{true, false} {
							if q, e := area.Paste(p, b, at, over); q != p || e != nil {
								t.Errorf("level %d, %s, %v at %v: %v, %v, want %v", level, name, b, at, q, e, p)
							}
						}
					}
				}
			}
		}
	}
}

// off are points that aren't on the plane.
func off() []grid.Point {
	return []grid.Point{
		pt(api.Edge, 0), pt(0, api.Edge), pt(-api.Edge, 0), pt(0, -api.Edge), pt(-api.Edge, -api.Edge), pt(api.Edge, -api.Edge),
		pt(far, far), pt(-far, 0), pt(0, 1<<63-1), pt(-1<<63, -1<<63), pt(1<<63-1, 1<<63-1),
	}
}

// P8.1: what isn't a plane, and a point that isn't on it, are told first, even of a rectangle without points; then a rectangle that leaves the plane, even if its cells don't.
func TestPasteFails(t *testing.T) {
	s := fresh(t, enough)
	all := slices.Collect(maps.Values(patterns(t)))
	for name, p := range noPlanes(t) {
		for _, b := range slices.Concat(all, noRects(t)) {
			for _, at := range append(off(), pt(0, 0), pt(last, last)) {
				wantPasteFails(t, name, p, b, at, api.ErrArg)
			}
		}
	}
	for _, level := range []int{3, 30, 62} {
		for name, cells := range samples(level) {
			p := planeOf(t, s, level, cells)
			full := planeOf(t, fresh(t, p.Len()), level, cells)
			for _, b := range slices.Concat(all, noRects(t)) {
				for _, at := range off() {
					wantPasteFails(t, name, p, b, at, api.ErrArg)
					wantPasteFails(t, name, full, b, at, api.ErrArg)
				}
			}
			for _, b := range all {
				for _, at := range leavingAt(b) {
					wantPasteFails(t, name, p, b, at, api.ErrRange)
					wantPasteFails(t, name, full, b, at, api.ErrRange)
				}
			}
			wantPlane(t, "before", s, p, nil, level, cells)
		}
	}
}

// leavingAt are points on the plane, of which a pattern just leaves it; one of a single point leaves it nowhere.
func leavingAt(b rle.Pattern) []grid.Point {
	w, h := int64(b.Wide), int64(b.High)
	l := []grid.Point{pt(api.Edge-w+1, 0), pt(0, api.Edge-h+1), pt(-last, api.Edge-h+1), pt(last, last), pt(last, -last), pt(3, last)}
	return slices.DeleteFunc(l, func(at grid.Point) bool { return !at.Right() || isRight(b, at) })
}

// wantPasteFails checks the error of Paste, with and without over, and that no squares were made.
func wantPasteFails(t *testing.T, name string, p quad.Plane, b rle.Pattern, at grid.Point, n api.Errno) {
	t.Helper()
	for _, over := range []bool{true, false} {
		there := p.Len()
		q, e := area.Paste(p, b, at, over)
		name := fmt.Sprintf("%s: Paste of %d, %d at %v, over %v", name, b.Wide, b.High, at, over)
		wantError(t, name, q, e, n)
		if p.Len() != there {
			t.Errorf("%s made %d squares", name, p.Len()-there)
		}
	}
}
