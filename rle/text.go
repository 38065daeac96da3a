package rle

import (
	"strconv"
	"strings"

	"belvedere/grid"
)

// mostLine is how many bytes a line of runs may have.
const mostLine = 70

// Text is a pattern as a text.
func (p Pattern) Text() string {
	w := &writer{}
	w.header(p.Wide, p.High)
	var next grid.Point // where the cell behind those that are written is
	for left := p.Cells; len(left) > 0; {
		first, n := left[0], stretch(left)
		if first.Y > next.Y {
			w.run(first.Y-next.Y, "$")
			next = grid.Point{Y: first.Y}
		}
		if first.X > next.X {
			w.run(first.X-next.X, "b")
		}
		w.run(int64(n), "o")
		next.X = first.X + int64(n)
		left = left[n:]
	}
	w.put("!")
	w.endLine()
	return w.text.String()
}

// stretch is how many cells, from the first on, lie side by side.
func stretch(l []grid.Point) int {
	n := 1
	for n < len(l) && l[n] == (grid.Point{X: l[0].X + int64(n), Y: l[0].Y}) {
		n++
	}
	return n
}

// writer is a text that is being written, and the bytes of its last line.
type writer struct {
	text strings.Builder
	line int
}

// header writes the line of the sides and the rule.
func (w *writer) header(wide, high int) {
	w.put("x = " + strconv.Itoa(wide) + ", y = " + strconv.Itoa(high) + ", rule = B3/S23")
	w.endLine()
}

// run writes a letter, and how often it counts.
func (w *writer) run(n int64, letter string) {
	if n == 1 {
		w.put(letter)
		return
	}
	w.put(strconv.FormatInt(n, 10) + letter)
}

// put writes what may not be divided, on a new line if this one would be too long.
func (w *writer) put(s string) {
	if w.line+len(s) > mostLine {
		w.endLine()
	}
	w.text.WriteString(s)
	w.line += len(s)
}

// endLine ends a line.
func (w *writer) endLine() {
	w.text.WriteByte('\n')
	w.line = 0
}
