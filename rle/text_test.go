package rle_test

import (
	"math"
	"slices"
	"strconv"
	"strings"
	"testing"

	"belvedere/grid"
	"belvedere/rle"
)

// head is a header with the rule, as Text writes it.
func head(wide, high int) string {
	return "x = " + strconv.Itoa(wide) + ", y = " + strconv.Itoa(high) + ", rule = B3/S23\n"
}

// drawn is the pattern that rows show: o is alive.
func drawn(rows ...string) rle.Pattern {
	p := rle.Pattern{High: len(rows)}
	for y, row := range rows {
		p.Wide = max(p.Wide, len(row))
		for x, c := range row {
			if c == 'o' {
				p.Cells = append(p.Cells, pt(int64(x), int64(y)))
			}
		}
	}
	return p
}

// P5.2, with the chapter's example.
func TestText(t *testing.T) {
	for _, c := range []struct {
		name string
		p    rle.Pattern
		want string
	}{
		{"the chapter's", drawn("ooo"), head(3, 1) + "3o!\n"},
		{"one", drawn("o"), head(1, 1) + "o!\n"},
		{"two", drawn("oo"), head(2, 1) + "2o!\n"},
		{"a dead one ahead", drawn(".o"), head(2, 1) + "bo!\n"},
		{"two dead ones ahead", drawn("..o"), head(3, 1) + "2bo!\n"},
		{"a dead one behind", drawn("oo."), head(3, 1) + "2o!\n"},
		{"stretches", drawn("o.oo..ooo...oooo"), head(16, 1) + "ob2o2b3o3b4o!\n"},
		{"stretches behind dead ones", drawn("...o.o"), head(6, 1) + "3bobo!\n"},
		{"two rows", drawn("oo", "oo"), head(2, 2) + "2o$2o!\n"},
		{"a row begins where the last one ended", drawn("oo..", "..oo"), head(4, 2) + "2o$2b2o!\n"},
		{"a column", drawn("o", "o", "o"), head(1, 3) + "o$o$o!\n"},
		{"a glider", drawn(".o.", "..o", "ooo"), head(3, 3) + "bo$2bo$3o!\n"},
		{"an empty row between", drawn("o", ".", "o"), head(1, 3) + "o2$o!\n"},
		{"empty rows between", drawn("o.", "..", "..", "..", ".o"), head(2, 5) + "o4$bo!\n"},
		{"an empty row ahead", drawn(".", "o"), head(1, 2) + "$o!\n"},
		{"empty rows ahead", drawn("..", "..", "..", ".o"), head(2, 4) + "3$bo!\n"},
		{"an empty row behind", drawn("o", "."), head(1, 2) + "o!\n"},
		{"empty all around", drawn("....", "....", "..o.", "....", "...."), head(4, 5) + "2$2bo!\n"},
		{"no cells", drawn("...", "..."), head(3, 2) + "!\n"},
		{"nothing", rle.Pattern{}, head(0, 0) + "!\n"},
		{"no width", rle.Pattern{High: 1024}, head(0, 1024) + "!\n"},
		{"no height", rle.Pattern{Wide: 1024, Cells: []grid.Point{}}, head(1024, 0) + "!\n"},
		{"the widest", rle.Pattern{Wide: 1024, High: 1024, Cells: rowOf(pt(0, 0), 1024)}, head(1024, 1024) + "1024o!\n"},
		{"the last cell", rle.Pattern{Wide: 1024, High: 1024, Cells: []grid.Point{pt(1023, 1023)}}, head(1024, 1024) + "1023$1023bo!\n"},
	} {
		if got := c.p.Text(); got != c.want {
			t.Errorf("%s: Text() = %q, want %q", c.name, got, c.want)
		}
	}
}

// P5.2: line ends where a line would have 70 and 71 bytes, ahead of each letter and of the !.
func TestTextLines(t *testing.T) {
	// dots is a row of n runs of one byte each, for an odd n; ob are these runs.
	dots := func(n int) string { return strings.Repeat("o.", n)[:n] }
	ob := func(n int) string { return strings.Repeat("ob", n)[:n] }
	for _, c := range []struct {
		name string
		rows []string
		want string
	}{
		{"the ! is byte 70", []string{dots(69)}, ob(69) + "!\n"},
		{"the ! is byte 71", []string{dots(69) + "ooo"}, ob(68) + "4o\n!\n"},
		{"a b is byte 70, an o byte 71", []string{dots(71)}, ob(70) + "\no!\n"},
		{"an o with its number ends at byte 70", []string{dots(67) + ".oo"}, ob(68) + "2o\n!\n"},
		{"an o with its number ends at byte 71", []string{dots(67) + "..oo"}, ob(67) + "2b\n2o!\n"},
		{"an o without number is byte 70", []string{dots(67) + "..o"}, ob(67) + "2bo\n!\n"},
		{"a b with its number ends at byte 70", []string{dots(67) + "..........o"}, ob(67) + "10b\no!\n"},
		{"a b with its number ends at byte 71", []string{dots(69) + "..o"}, ob(69) + "\n2bo!\n"},
		{"a b with its number ends at byte 72", []string{dots(69) + "..........o"}, ob(69) + "\n10bo!\n"},
		{"a b without number is byte 71", []string{dots(69) + "ooo.o"}, ob(68) + "4o\nbo!\n"},
		{"a $ is byte 70", []string{dots(69), "o"}, ob(69) + "$\no!\n"},
		{"a $ is byte 71", []string{dots(69) + "ooo", "o"}, ob(68) + "4o\n$o!\n"},
		{"a $ with its number ends at byte 70", []string{dots(67) + "o", "", "o"}, ob(66) + "2o2$\no!\n"},
		{"a $ with its number ends at byte 71", []string{dots(69), "", "o"}, ob(69) + "\n2$o!\n"},
		{"two lines", []string{dots(139)}, ob(70) + "\n" + ob(69) + "!\n"},
		{"three lines", []string{dots(141)}, ob(70) + "\n" + ob(70) + "\no!\n"},
	} {
		p := drawn(c.rows...)
		if got := p.Text(); got != head(p.Wide, p.High)+c.want {
			t.Errorf("%s: Text() = %q, want %q", c.name, got, head(p.Wide, p.High)+c.want)
		}
	}
}

// runByWords is a run as the chapter says it.
func runByWords(n int, letter string) string {
	if n == 1 {
		return letter
	}
	return strconv.Itoa(n) + letter
}

// runsByWords are the runs of a pattern, and the !, found by going through all places.
func runsByWords(p rle.Pattern) []string {
	alive := map[grid.Point]bool{}
	for _, c := range p.Cells {
		alive[c] = true
	}
	var out []string
	last := 0
	for y := range p.High {
		row := make([]byte, p.Wide)
		for x := range row {
			row[x] = 'b'
			if alive[pt(int64(x), int64(y))] {
				row[x] = 'o'
			}
		}
		trimmed := strings.TrimRight(string(row), "b")
		if trimmed == "" {
			continue
		}
		if y > last {
			out = append(out, runByWords(y-last, "$"))
		}
		last = y
		for trimmed != "" {
			rest := strings.TrimLeft(trimmed, trimmed[:1])
			out = append(out, runByWords(len(trimmed)-len(rest), trimmed[:1]))
			trimmed = rest
		}
	}
	return append(out, "!")
}

// textByWords is a pattern's text as the chapter says it.
func textByWords(p rle.Pattern) string {
	lines := []string{""}
	for _, run := range runsByWords(p) {
		if len(lines[len(lines)-1])+len(run) > 70 {
			lines = append(lines, "")
		}
		lines[len(lines)-1] += run
	}
	return head(p.Wide, p.High) + strings.Join(lines, "\n") + "\n"
}

// thrownPatterns are patterns of all densities, with empty rows and columns around some.
func thrownPatterns() []rle.Pattern {
	d := dice(2)
	var out []rle.Pattern
	for i := range 400 {
		wide, high := 1+d.below(60), 1+d.below(60)
		if i%10 == 0 {
			wide, high = 1+d.below(1024), 1+d.below(1024)
		}
		cells := inOrder(thrown(wide, high, d.below(1+min(30000, wide*high)), &d))
		if len(cells) > 20000 {
			cells = cells[:20000]
		}
		out = append(out, rle.Pattern{Wide: min(1024, wide+d.below(3)), High: min(1024, high+d.below(3)), Cells: cells})
	}
	return out
}

// P5.2, P5.4: thrown patterns, against the chapter's words, and there and back.
func TestThrownPatterns(t *testing.T) {
	for i, p := range thrownPatterns() {
		s := p.Text()
		if want := textByWords(p); s != want {
			t.Fatalf("pattern %d: Text() = %.300q, want %.300q", i, s, want)
		}
		for n, line := range strings.Split(s, "\n") {
			if len(line) > 70 {
				t.Errorf("pattern %d: line %d has %d bytes", i, n, len(line))
			}
		}
		back, e := rle.Parse(s)
		if e != nil || !same(back, p) {
			t.Errorf("pattern %d: parsed as %s, %v", i, brief(back), e)
		}
	}
}

// greatPatterns are at the limits of sides and of cells, with texts as long as those of patterns are.
func greatPatterns() []rle.Pattern {
	dotted := rle.Pattern{Wide: 1024, High: 1024}
	for y := range int64(1024) {
		for x := y % 47; x < 1024 && len(dotted.Cells) < 20000; x += 53 {
			dotted.Cells = append(dotted.Cells, pt(x, y))
		}
	}
	narrow := rle.Pattern{Wide: 1024, High: 1024}
	for y := range int64(40) {
		for x := int64(0); x < 1024 && len(narrow.Cells) < 20000; x += 2 {
			narrow.Cells = append(narrow.Cells, pt(x, y))
		}
	}
	late := rle.Pattern{Wide: 1024, High: 1024}
	for y := range int64(1024) {
		late.Cells = append(late.Cells, pt(1000, y), pt(1023, y))
	}
	return []rle.Pattern{
		dotted, narrow, late, {}, {Wide: 1024, High: 1024},
		{Wide: 1024, High: 20, Cells: block(1000, 20)},
		{Wide: 1000, High: 1024, Cells: block(1000, 20)},
		{Wide: 1024, High: 1024, Cells: []grid.Point{pt(0, 0), pt(1023, 1023)}},
	}
}

// P5.2, P5.4: patterns at the limits, there and back.
func TestGreatPatterns(t *testing.T) {
	for i, p := range greatPatterns() {
		s := p.Text()
		if want := textByWords(p); s != want {
			t.Errorf("pattern %d: Text() = %.300q, want %.300q", i, s, want)
		}
		back, e := rle.Parse(s)
		if e != nil || !same(back, p) {
			t.Errorf("pattern %d: parsed as %s, %v", i, brief(back), e)
		}
	}
}

// P5.1, P5.4: what New makes is a pattern.
func TestTextOfNew(t *testing.T) {
	d := dice(3)
	for range 100 {
		l := thrown(1+d.below(1024), 1+d.below(1024), 1+d.below(300), &d)
		p, _, ok := rle.New(l)
		back, e := rle.Parse(p.Text())
		if !ok || e != nil || !same(back, p) {
			t.Errorf("%s: parsed as %s, %v", brief(p), brief(back), e)
		}
	}
}

// P2 and the rules: Text changes nothing, and tells the same again.
func TestTextLeavesItsPattern(t *testing.T) {
	p := drawn("oo.o", "", ".oo")
	cells := slices.Clone(p.Cells)
	if p.Text() != p.Text() || !slices.Equal(p.Cells, cells) || p.Wide != 4 || p.High != 3 {
		t.Errorf("Text changed its pattern: %v", p)
	}
}

// P1: what is no pattern doesn't make Text panic.
func TestTextOfNoPatterns(t *testing.T) {
	for _, p := range []rle.Pattern{
		{Wide: -1, High: -1},
		{Wide: math.MaxInt, High: math.MinInt, Cells: []grid.Point{pt(0, 0)}},
		{Wide: 2, High: 2, Cells: []grid.Point{pt(1, 1), pt(0, 0)}},
		{Wide: 2, High: 2, Cells: []grid.Point{pt(1, 1), pt(1, 1)}},
		{Wide: 2, High: 2, Cells: []grid.Point{pt(-5, -5), pt(9, 9)}},
		{Wide: 2, High: 2, Cells: []grid.Point{pt(math.MaxInt64, math.MaxInt64), pt(math.MinInt64, math.MaxInt64), pt(math.MinInt64, math.MinInt64)}},
		{Wide: 2, High: 2, Cells: []grid.Point{pt(math.MinInt64, math.MinInt64), pt(math.MaxInt64, math.MaxInt64)}},
		{Wide: 2, High: 2, Cells: block(200, 200)},
	} {
		p.Text()
	}
}
