package rle

import (
	"strconv"
	"strings"

	"belvedere/api"
	"belvedere/fault"
	"belvedere/grid"
)

// Parse is the pattern of a text.
func Parse(s string) (Pattern, error) {
	if len(s) > MostText {
		return Pattern{}, wrong(MostText, api.ErrLong)
	}
	from := headerPlace(s)
	end := strings.IndexByte(s[from:], '\n')
	if end < 0 {
		return Pattern{}, wrong(len(s), api.ErrCut)
	}
	wide, high, ok := sides(s[from : from+end])
	if !ok {
		return Pattern{}, wrong(from, api.ErrForm)
	}
	r := &reader{text: s, at: from + end + 1, pattern: Pattern{Wide: wide, High: high}}
	if e := r.runs(); e != nil {
		return Pattern{}, e
	}
	return r.pattern, nil
}

// wrong is an error at a byte of the text.
func wrong(at int, n api.Errno) error {
	return fault.At("byte", at, n)
}

// headerPlace is where the first line begins that doesn't begin with #; at the end of a text that has no line after those.
func headerPlace(s string) int {
	at := 0
	for strings.HasPrefix(s[at:], "#") {
		end := strings.IndexByte(s[at:], '\n')
		if end < 0 {
			return len(s)
		}
		at += end + 1
	}
	return at
}

// sides is the width and the height that a header has; false, if it is none.
func sides(line string) (wide, high int, ok bool) {
	h := &header{left: line, ok: true}
	h.words("x", "=")
	wide = h.number()
	h.words(",", "y", "=")
	high = h.number()
	if h.ok && h.left != "" {
		h.words(",", "rule", "=", "B3/S23")
	}
	return wide, high, h.ok && h.left == ""
}

// header is what is left of a header's line, without blanks ahead; ok, if all was right so far.
type header struct {
	left string
	ok   bool
}

// words takes words off the line.
func (h *header) words(l ...string) {
	for _, word := range l {
		h.skipBlanks()
		left, found := strings.CutPrefix(h.left, word)
		h.left, h.ok = left, h.ok && found
	}
	h.skipBlanks()
}

// number takes a number off the line.
func (h *header) number() int {
	d := digits(h.left)
	n, ok := side(d)
	h.left, h.ok = h.left[len(d):], h.ok && ok
	h.skipBlanks()
	return n
}

// skipBlanks takes blanks off the line.
func (h *header) skipBlanks() {
	h.left = strings.TrimLeft(h.left, " ")
}

// digits is the digits with which a text begins.
func digits(s string) string {
	return s[:len(s)-len(strings.TrimLeft(s, "0123456789"))]
}

// side is the number that 1 to 4 digits say, of at most MostSide; false, if they say none.
func side(digits string) (int, bool) {
	if len(digits) > 4 {
		return 0, false
	}
	n, e := strconv.Atoi(digits)
	if e != nil || n > MostSide {
		return 0, false
	}
	return n, true
}

// reader reads the runs of a text: where it is in it, and where the next cell is.
type reader struct {
	text    string
	at      int
	x, y    int
	pattern Pattern
}

// runs reads all runs, up to the end of the text.
func (r *reader) runs() error {
	for r.at < len(r.text) {
		switch r.text[r.at] {
		case ' ', '\n':
			r.at++
		case '!':
			return r.rest()
		default:
			if e := r.run(); e != nil {
				return e
			}
		}
	}
	return wrong(len(r.text), api.ErrCut)
}

// rest is an error, if there is more than blanks and line ends behind the !.
func (r *reader) rest() error {
	behind := r.at + 1
	if strings.Trim(r.text[behind:], " \n") != "" {
		return wrong(behind, api.ErrLong)
	}
	return nil
}

// run reads a number, if there is one, and its letter.
func (r *reader) run() error {
	n := 1
	if d := digits(r.text[r.at:]); d != "" {
		var ok bool
		if n, ok = side(d); !ok || d[0] == '0' {
			return wrong(r.at, api.ErrForm)
		}
		r.at += len(d)
	}
	if r.at == len(r.text) {
		return wrong(r.at, api.ErrCut)
	}
	if !r.do(n, r.text[r.at]) {
		return wrong(r.at, api.ErrForm)
	}
	r.at++
	return nil
}

// do does what a letter says, n times; false, if it is no letter, or leaves the pattern.
func (r *reader) do(n int, letter byte) bool {
	switch letter {
	case 'o':
		if !r.live(n) {
			return false
		}
		fallthrough // living cells take their room as dead ones do
	case 'b':
		r.x += n
		return r.x <= r.pattern.Wide
	case '$':
		r.x, r.y = 0, r.y+n
		return r.y <= MostSide
	}
	return false
}

// live adds living cells; false, if they are below the pattern, or too many.
func (r *reader) live(n int) bool {
	if r.y >= r.pattern.High || len(r.pattern.Cells)+n > MostCells {
		return false
	}
	for i := range n {
		r.pattern.Cells = append(r.pattern.Cells, grid.Point{X: int64(r.x + i), Y: int64(r.y)})
	}
	return true
}
