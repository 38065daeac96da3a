package rle_test

import (
	"fmt"
	"math"
	"slices"
	"testing"

	"belvedere/api"
	"belvedere/grid"
	"belvedere/rle"
)

// edge is the plane's.
const edge int64 = api.Edge

// pt is a point, written short.
func pt(x, y int64) grid.Point {
	return grid.Point{X: x, Y: y}
}

// same tells whether two patterns are the same; no cells are no cells, nil or not.
func same(a, b rle.Pattern) bool {
	return a.Wide == b.Wide && a.High == b.High && slices.Equal(a.Cells, b.Cells)
}

// brief is a pattern in words, cut where it is long.
func brief(p rle.Pattern) string {
	return fmt.Sprintf("%d by %d, %d cells %v", p.Wide, p.High, len(p.Cells), p.Cells[:min(20, len(p.Cells))])
}

// dice are numbers that look like thrown ones, the same in each run.
type dice uint64

// below is the next number, from 0 on, below n.
func (d *dice) below(n int) int {
	*d = *d*6364136223846793005 + 1442695040888963407
	return int(uint64(*d) >> 33 % uint64(n))
}

// shuffled is a list in another order.
func shuffled(l []grid.Point, d *dice) []grid.Point {
	out := slices.Clone(l)
	for i := range out {
		j := d.below(i + 1)
		out[i], out[j] = out[j], out[i]
	}
	return out
}

// rowOf are points side by side.
func rowOf(from grid.Point, n int) []grid.Point {
	var out []grid.Point
	for i := range n {
		out = append(out, pt(from.X+int64(i), from.Y))
	}
	return out
}

// block are all points of a pattern with sides.
func block(wide, high int) []grid.Point {
	var out []grid.Point
	for y := range high {
		out = append(out, rowOf(pt(0, int64(y)), wide)...)
	}
	return out
}

// wantNew checks what New returns.
func wantNew(t *testing.T, name string, l []grid.Point, want rle.Pattern, at grid.Point) {
	t.Helper()
	p, from, ok := rle.New(l)
	if !ok || from != at || !same(p, want) {
		t.Errorf("%s: New = %s, %v, %v, want %s, %v, true", name, brief(p), from, ok, brief(want), at)
	}
}

// wantNone checks that New returns nothing.
func wantNone(t *testing.T, name string, l []grid.Point) {
	t.Helper()
	p, from, ok := rle.New(l)
	if ok || from != (grid.Point{}) || !same(p, rle.Pattern{}) {
		t.Errorf("%s: New = %s, %v, %v, want nothing", name, brief(p), from, ok)
	}
}

// P5.1
func TestNew(t *testing.T) {
	for _, c := range []struct {
		name       string
		l          []grid.Point
		wide, high int
		cells      []grid.Point
		at         grid.Point
	}{
		{"one", []grid.Point{pt(0, 0)}, 1, 1, []grid.Point{pt(0, 0)}, pt(0, 0)},
		{"one elsewhere", []grid.Point{pt(-7, 9)}, 1, 1, []grid.Point{pt(0, 0)}, pt(-7, 9)},
		{"one, three times", []grid.Point{pt(5, 5), pt(5, 5), pt(5, 5)}, 1, 1, []grid.Point{pt(0, 0)}, pt(5, 5)},
		{"a row backward", []grid.Point{pt(3, 1), pt(2, 1), pt(1, 1)}, 3, 1, rowOf(pt(0, 0), 3), pt(1, 1)},
		{"a column backward", []grid.Point{pt(1, 3), pt(1, 2), pt(1, 1)}, 1, 3, []grid.Point{pt(0, 0), pt(0, 1), pt(0, 2)}, pt(1, 1)},
		{"rows before columns", []grid.Point{pt(0, 1), pt(1, 0)}, 2, 2, []grid.Point{pt(1, 0), pt(0, 1)}, pt(0, 0)},
		{"the least X and Y are of two points", []grid.Point{pt(-2, 8), pt(6, -3)}, 9, 12, []grid.Point{pt(8, 0), pt(0, 11)}, pt(-2, -3)},
		{"twice, apart from each other", []grid.Point{pt(2, 2), pt(0, 0), pt(2, 2), pt(1, 2), pt(0, 0)}, 3, 3, []grid.Point{pt(0, 0), pt(1, 2), pt(2, 2)}, pt(0, 0)},
		{"both sides of 0", []grid.Point{pt(1, 1), pt(-1, -1), pt(0, 0), pt(-1, 1)}, 3, 3, []grid.Point{pt(0, 0), pt(1, 1), pt(0, 2), pt(2, 2)}, pt(-1, -1)},
		{"a glider", []grid.Point{pt(10, 21), pt(12, 22), pt(10, 22), pt(11, 20), pt(11, 22)}, 3, 3, []grid.Point{pt(1, 0), pt(0, 1), pt(0, 2), pt(1, 2), pt(2, 2)}, pt(10, 20)},
	} {
		wantNew(t, c.name, c.l, rle.Pattern{Wide: c.wide, High: c.high, Cells: c.cells}, c.at)
	}
}

// P5.1: as wide and as high as it may be, and one more, wherever on the plane.
func TestNewSides(t *testing.T) {
	for _, at := range []grid.Point{pt(0, 0), pt(-500, -600), pt(1-edge, 1-edge), pt(edge-1024, edge-1024)} {
		right, below, both := pt(at.X+1023, at.Y), pt(at.X, at.Y+1023), pt(at.X+1023, at.Y+1023)
		wantNew(t, "wide", []grid.Point{right, at}, rle.Pattern{Wide: 1024, High: 1, Cells: []grid.Point{pt(0, 0), pt(1023, 0)}}, at)
		wantNew(t, "high", []grid.Point{below, at}, rle.Pattern{Wide: 1, High: 1024, Cells: []grid.Point{pt(0, 0), pt(0, 1023)}}, at)
		wantNew(t, "wide and high", []grid.Point{both, at}, rle.Pattern{Wide: 1024, High: 1024, Cells: []grid.Point{pt(0, 0), pt(1023, 1023)}}, at)
		wantNew(t, "one less", []grid.Point{pt(at.X+1022, at.Y+1022), at}, rle.Pattern{Wide: 1023, High: 1023, Cells: []grid.Point{pt(0, 0), pt(1022, 1022)}}, at)
	}
	for _, at := range []grid.Point{pt(0, 0), pt(-500, -600), pt(1-edge, 1-edge), pt(edge-1025, edge-1025)} {
		wantNone(t, "too wide", []grid.Point{pt(at.X+1024, at.Y), at})
		wantNone(t, "too high", []grid.Point{at, pt(at.X, at.Y+1024)})
		wantNone(t, "both", []grid.Point{pt(at.X+1024, at.Y+1024), at})
	}
	for _, far := range []int64{1025, 2047, 2048, 1 << 31, 1<<32 + 5, 1 << 60, edge - 1} {
		wantNone(t, "far off in X", []grid.Point{pt(0, 0), pt(far, 0)})
		wantNone(t, "far off in Y", []grid.Point{pt(0, -far), pt(0, 0)})
		wantNone(t, "across 0", []grid.Point{pt(-far, 0), pt(far, 0)})
	}
	wantNone(t, "the plane's ends", []grid.Point{pt(1-edge, 1-edge), pt(edge-1, edge-1)})
}

// P5.1
func TestNewAtTheEdges(t *testing.T) {
	for _, at := range []grid.Point{pt(1-edge, 1-edge), pt(edge-1, edge-1), pt(1-edge, edge-1), pt(edge-1, 1-edge)} {
		wantNew(t, "one", []grid.Point{at}, rle.Pattern{Wide: 1, High: 1, Cells: []grid.Point{pt(0, 0)}}, at)
	}
	wantNew(t, "the last two", []grid.Point{pt(edge-1, edge-1), pt(edge-2, edge-2)}, rle.Pattern{Wide: 2, High: 2, Cells: []grid.Point{pt(0, 0), pt(1, 1)}}, pt(edge-2, edge-2))
}

// P5.1: none, as many as there may be, and one more, of which each counts as often as it occurs.
func TestNewCounts(t *testing.T) {
	wantNone(t, "nil", nil)
	wantNone(t, "empty", []grid.Point{})
	full := block(1000, 20)
	wantNew(t, "20000", full, rle.Pattern{Wide: 1000, High: 20, Cells: full}, pt(0, 0))
	wantNone(t, "20001", append(block(1000, 20), pt(0, 20)))
	wantNone(t, "20000, and one of them again", append(block(1000, 20), pt(0, 0)))
	wantNew(t, "one, 20000 times", slices.Repeat([]grid.Point{pt(3, 4)}, 20000), rle.Pattern{Wide: 1, High: 1, Cells: []grid.Point{pt(0, 0)}}, pt(3, 4))
	wantNone(t, "one, 20001 times", slices.Repeat([]grid.Point{pt(3, 4)}, 20001))
	wantNone(t, "the whole square", block(1024, 1024))
}

// P5.1, P2: any order, and any number of times, is the same pattern.
func TestNewOfAnyOrder(t *testing.T) {
	d := dice(1)
	for range 200 {
		wide, high := 1+d.below(40), 1+d.below(40)
		at := pt(int64(d.below(100)-50), int64(d.below(100)-50))
		cells := thrown(wide, high, d.below(100), &d)
		cells = append(cells, pt(0, int64(d.below(high))), pt(int64(wide-1), 0), pt(int64(d.below(wide)), int64(high-1)))
		moved := make([]grid.Point, len(cells))
		for i, p := range cells {
			moved[i] = pt(p.X+at.X, p.Y+at.Y)
		}
		moved = shuffled(append(moved, moved[:d.below(len(moved))]...), &d)
		want := rle.Pattern{Wide: wide, High: high, Cells: inOrder(cells)}
		wantNew(t, "thrown", moved, want, at)
		wantNew(t, "thrown, again", moved, want, at)
	}
}

// thrown are n points of a rectangle, some of them more than once.
func thrown(wide, high, n int, d *dice) []grid.Point {
	var out []grid.Point
	for range n {
		out = append(out, pt(int64(d.below(wide)), int64(d.below(high))))
	}
	return out
}

// inOrder is each of some points once, found by going through all places.
func inOrder(l []grid.Point) []grid.Point {
	var wide, high int64
	there := map[grid.Point]bool{}
	for _, p := range l {
		wide, high = max(wide, p.X+1), max(high, p.Y+1)
		there[p] = true
	}
	var out []grid.Point
	for y := range high {
		for x := range wide {
			if there[pt(x, y)] {
				out = append(out, pt(x, y))
			}
		}
	}
	return out
}

// P5.1 and the rules: the argument isn't changed, neither is what is behind its length, and nothing is shared.
func TestNewLeavesItsArgument(t *testing.T) {
	all := []grid.Point{pt(9, 9), pt(2, 3), pt(2, 3), pt(1, 3), pt(5, 1), pt(-8, -8), pt(-9, -9)}
	before := slices.Clone(all)
	p, _, ok := rle.New(all[:5])
	if !ok || !slices.Equal(all, before) {
		t.Errorf("New changed its argument: %v, before: %v", all, before)
	}
	cells := slices.Clone(p.Cells)
	for i := range all {
		all[i] = pt(77, 77)
	}
	if !slices.Equal(p.Cells, cells) {
		t.Errorf("New kept its argument: %v, before: %v", p.Cells, cells)
	}
	one := []grid.Point{pt(0, 0)}
	q, _, _ := rle.New(one)
	q.Cells[0] = pt(5, 5)
	if again, _, _ := rle.New(one); one[0] != pt(0, 0) || again.Cells[0] != pt(0, 0) {
		t.Errorf("New's result is shared: %v, %v", one, again)
	}
}

// P1: points that the chapter doesn't take don't make a call panic.
func TestNewOffThePlane(t *testing.T) {
	ends := []int64{math.MinInt64, math.MinInt64 + 1, -edge, 0, edge, math.MaxInt64 - 1, math.MaxInt64}
	for _, a := range ends {
		for _, b := range ends {
			p, _, _ := rle.New([]grid.Point{pt(a, b), pt(b, a)})
			p.Text()
			p, _, _ = rle.New([]grid.Point{pt(a, a), pt(b, b), pt(0, 0)})
			p.Text()
		}
	}
}
