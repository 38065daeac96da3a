package base_test

import (
	"math"
	"testing"

	"belvedere/base"
)

// every is how many Fours there are.
const every = 1 << 16

// alive tells by the words whether a cell of a Four is alive: bit 4y + x; outside none is.
func alive(n, x, y int) bool {
	if x < 0 || x > 3 || y < 0 || y > 3 {
		return false
	}
	return n>>(4*y+x)&1 == 1
}

// neighbours counts the living ones of a cell of a Four, cell by cell.
func neighbours(n, x, y int) int {
	near := 0
	for _, d := range [][2]int{{-1, -1}, {0, -1}, {1, -1}, {-1, 0}, {1, 0}, {-1, 1}, {0, 1}, {1, 1}} {
		if alive(n, x+d[0], y+d[1]) {
			near++
		}
	}
	return near
}

// later tells by the words whether a cell of a Four is alive one generation later.
func later(n, x, y int) bool {
	switch neighbours(n, x, y) {
	case 3:
		return true
	case 2:
		return alive(n, x, y)
	}
	return false
}

// inner is what Inner is by the words.
func inner(n int) [4]bool {
	return [4]bool{later(n, 1, 1), later(n, 2, 1), later(n, 1, 2), later(n, 2, 2)}
}

// wantRule checks Rule of a cell, dead and alive.
func wantRule(t *testing.T, near int, dead, living bool) {
	t.Helper()
	if got := base.Rule(false, near); got != dead {
		t.Errorf("Rule(false, %d) = %v", near, got)
	}
	if got := base.Rule(true, near); got != living {
		t.Errorf("Rule(true, %d) = %v", near, got)
	}
}

// P9.1
func TestRule(t *testing.T) {
	for near := range 9 {
		wantRule(t, near, near == 3, near == 2 || near == 3)
	}
}

// P9.1: no cell has so many, or so few, so that none is alive with them.
func TestRuleOfOtherNumbers(t *testing.T) {
	for near := 1; near < 1000; near++ {
		wantRule(t, -near, false, false)
		wantRule(t, 8+near, false, false)
	}
	for bit := 4; bit < 63; bit++ {
		// The lowest bits alone would be 2, or 3.
		for _, low := range []int{2, 3} {
			wantRule(t, 1<<bit+low, false, false)
			wantRule(t, -1<<bit+low, false, false)
		}
	}
	for _, near := range []int{math.MinInt, math.MinInt + 2, math.MinInt + 3, math.MaxInt, math.MaxInt - 1} {
		wantRule(t, near, false, false)
	}
}

// P9.1: the sixteen places.
func TestAt(t *testing.T) {
	for n := range every {
		for y := range 4 {
			for x := range 4 {
				if got := base.Four(n).At(x, y); got != alive(n, x, y) {
					t.Fatalf("Four(%#04x).At(%d, %d) = %v", n, x, y, got)
				}
			}
		}
	}
}

// P9.1: one cell is alive, and it is at its own place alone.
func TestAtOfOneCell(t *testing.T) {
	for place, at := range [][2]int{
		{0, 0}, {1, 0}, {2, 0}, {3, 0},
		{0, 1}, {1, 1}, {2, 1}, {3, 1},
		{0, 2}, {1, 2}, {2, 2}, {3, 2},
		{0, 3}, {1, 3}, {2, 3}, {3, 3},
	} {
		f := base.Four(1) << place
		for y := -5; y < 9; y++ {
			for x := -5; x < 9; x++ {
				if got := f.At(x, y); got != ([2]int{x, y} == at) {
					t.Errorf("Four(%#04x).At(%d, %d) = %v", uint16(f), x, y, got)
				}
			}
		}
	}
}

// P9.1: outside none is alive, however far.
func TestAtOutside(t *testing.T) {
	far := []int{math.MinInt, math.MinInt + 1, math.MinInt32, -1 << 62, -1 << 60, -65536, -64, -17, -16, -5, -4, -3, -2, -1,
		4, 5, 6, 7, 8, 15, 16, 17, 32, 64, 65536, math.MaxInt32, 1 << 32, 1 << 60, 1 << 61, 1 << 62, math.MaxInt - 1, math.MaxInt}
	within := []int{0, 1, 2, 3}
	for _, n := range []int{0, 1, 0x8000, 0x8421, 0x0660, 0xffff} {
		f := base.Four(n)
		for _, a := range far {
			for _, b := range append(within, far...) {
				if f.At(a, b) || f.At(b, a) {
					t.Errorf("Four(%#04x) at %d, %d: %v, at %d, %d: %v", n, a, b, f.At(a, b), b, a, f.At(b, a))
				}
			}
		}
	}
}

// P9.1: against a count of the eight neighbours, cell by cell.
func TestInner(t *testing.T) {
	for n := range every {
		if got := base.Four(n).Inner(); got != inner(n) {
			t.Fatalf("Four(%#04x).Inner() = %v, want %v", n, got, inner(n))
		}
	}
}

// P9.1: some that are known.
func TestInnerOfKnown(t *testing.T) {
	for _, c := range []struct {
		name string
		f    base.Four
		want [4]bool
	}{
		{"no cell", 0, [4]bool{}},
		{"all cells", 0xffff, [4]bool{}},
		{"a block stays", 0x0660, [4]bool{true, true, true, true}},
		{"three of a block become one", 0x0260, [4]bool{true, true, true, true}},
		{"a row of three on the left becomes a column", 0x0070, [4]bool{true, false, true, false}},
		{"a row of three on the right becomes a column", 0x0e00, [4]bool{false, true, false, true}},
		{"a column of three above becomes a row", 0x0222, [4]bool{true, true, false, false}},
		{"the four corners", 0x9009, [4]bool{}},
		{"the edge alone", 0xf99f, [4]bool{}},
		{"two and a living one", 0x0421, [4]bool{true, false, false, false}},
		{"two and a dead one", 0x0401, [4]bool{}},
	} {
		if got := c.f.Inner(); got != c.want {
			t.Errorf("%s: Four(%#04x).Inner() = %v, want %v", c.name, uint16(c.f), got, c.want)
		}
	}
}
