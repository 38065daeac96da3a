package rle_test

import (
	"errors"
	"regexp"
	"strconv"
	"strings"
	"testing"

	"belvedere/api"
	"belvedere/fault"
	"belvedere/grid"
	"belvedere/rle"
)

// fits checks that a text is parsed as a pattern.
func fits(t *testing.T, name, s string, want rle.Pattern) {
	t.Helper()
	got, e := rle.Parse(s)
	if e != nil || !same(got, want) {
		t.Errorf("%s: Parse(%.80q) = %s, %v, want %s", name, s, brief(got), e, brief(want))
	}
}

// fails checks that a text is refused: by which error, and at which byte.
func fails(t *testing.T, name, s string, code api.Errno, at int) {
	t.Helper()
	p, e := rle.Parse(s)
	var f *fault.Fault
	if !errors.As(e, &f) || f.What != "byte" || f.At != at || f.Err != error(code) || !same(p, rle.Pattern{}) {
		t.Errorf("%s: Parse(%.80q) = %s, %v, want %v at byte %d", name, s, brief(p), e, code, at)
	}
}

// P5.3, with the chapter's example.
func TestParse(t *testing.T) {
	for _, c := range []struct {
		name, s string
		want    rle.Pattern
	}{
		{"the chapter's", "x = 3, y = 1, rule = B3/S23\n3o!", drawn("ooo")},
		{"without the rule", "x = 3, y = 1\n3o!", drawn("ooo")},
		{"a line end at the end", "x = 3, y = 1\n3o!\n", drawn("ooo")},
		{"blanks and line ends at the end", "x = 3, y = 1\n3o! \n\n   \n ", drawn("ooo")},
		{"a glider", "x = 3, y = 3\nbo$2bo$3o!", drawn(".o.", "..o", "ooo")},
		{"runs of 1", "x = 3, y = 2\n1b1o1$1b1o!", drawn(".o.", ".o.")},
		{"runs side by side", "x = 6, y = 1\noo2obb!", drawn("oooo..")},
		{"dead cells up to Wide", "x = 3, y = 2\no2b$3b!", drawn("o..", "...")},
		{"a row that isn't ended", "x = 3, y = 2\n2o$o!", drawn("oo.", "o..")},
		{"rows between", "x = 2, y = 6\no2$bo$$2o!", drawn("o.", "..", ".o", "..", "oo", "..")},
		{"rows ahead", "x = 1, y = 4\n3$o!", drawn(".", ".", ".", "o")},
		{"line ends behind the last row", "x = 2, y = 1\n2o$!", drawn("oo")},
		{"more line ends than rows", "x = 2, y = 1\n2o10$5$!", drawn("oo")},
		{"dead cells below High", "x = 2, y = 1\n2o$2b$bb$b!", drawn("oo")},
		{"1024 living ones", "x = 1024, y = 1\n1024o!", rle.Pattern{Wide: 1024, High: 1, Cells: rowOf(pt(0, 0), 1024)}},
		{"1024 dead ones", "x = 1024, y = 1\n1024b!", rle.Pattern{Wide: 1024, High: 1}},
		{"numbers of 1 to 4 digits", "x = 1024, y = 1024\n9b10b100b1000$7$o!", rle.Pattern{Wide: 1024, High: 1024, Cells: []grid.Point{pt(0, 1007)}}},
		{"smaller than it says", "x = 5, y = 4\no!", rle.Pattern{Wide: 5, High: 4, Cells: []grid.Point{pt(0, 0)}}},
		{"no runs", "x = 5, y = 4\n!", rle.Pattern{Wide: 5, High: 4}},
		{"nothing", "x = 0, y = 0\n!", rle.Pattern{}},
		{"nothing, with line ends", "x = 0, y = 0\n7$!", rle.Pattern{}},
		{"no width", "x = 0, y = 7\n3$!", rle.Pattern{High: 7}},
		{"no height", "x = 7, y = 0\n7b$7b!", rle.Pattern{Wide: 7}},
		{"blanks between runs", "x = 3, y = 2\n o b  o $ 3o !", drawn("o.o", "ooo")},
		{"line ends between runs", "x = 3, y = 2\n\no\nb\n\n2$\n\n!", drawn("o..", "...")},
		{"both between runs", "x = 3, y = 2\n \n o \n \n 2b \n $ \n 3o \n !", drawn("o..", "ooo")},
		{"a line of #", "#\nx = 3, y = 1\n3o!", drawn("ooo")},
		{"lines of #", "#N a\n##\n#x = 9, y = 9\n# !\nx = 3, y = 1\n3o!", drawn("ooo")},
		{"any bytes behind a #", "#\x00\xff\t\r! 2o\nx = 3, y = 1\n3o!", drawn("ooo")},
	} {
		fits(t, c.name, c.s, c.want)
	}
}

// the words of headers, without and with the rule.
var (
	shortHeader = []string{"x", "=", "3", ",", "y", "=", "1"}
	longHeader  = append(shortHeader[:7:7], ",", "rule", "=", "B3/S23")
)

// spaced is words with the same between any two, ahead of the first, and behind the last.
func spaced(words []string, between string) string {
	return between + strings.Join(words, between) + between
}

// P5.3: blanks are allowed around each word and each number, as many as there are.
func TestHeaderBlanks(t *testing.T) {
	for _, words := range [][]string{shortHeader, longHeader} {
		for _, blanks := range []string{"", " ", "  ", strings.Repeat(" ", 1000)} {
			fits(t, "everywhere", spaced(words, blanks)+"\n3o!", drawn("ooo"))
			fits(t, "everywhere, behind a #", "#\n"+spaced(words, blanks)+"\n3o!", drawn("ooo"))
			for i := range len(words) + 1 {
				s := strings.Join(words[:i], "") + blanks + strings.Join(words[i:], "")
				fits(t, "at one place", s+"\n3o!", drawn("ooo"))
			}
		}
	}
}

// P5.3: other bytes, and words that are changed, left out, or there twice.
func TestHeaderWrong(t *testing.T) {
	for _, words := range [][]string{shortHeader, longHeader} {
		for i := range words {
			ahead, behind := strings.Join(words[:i], " "), strings.Join(words[i+1:], " ")
			for _, odd := range []string{"", words[i] + " " + words[i], "#", "\t", "z", words[i] + "\t", words[i] + "\r", words[i] + "_", "!"} {
				fails(t, "a word is "+strconv.Quote(odd), ahead+" "+odd+" "+behind+"\n3o!", api.ErrForm, 0)
				fails(t, "behind a #", "#a\n#b\n"+ahead+" "+odd+" "+behind+"\n3o!", api.ErrForm, 6)
			}
		}
	}
	for _, s := range []string{
		"", " ", "x", "x = 3", "x = 3,", "x = 3, y", "x = 3, y =", "x = 3, y = ", "x = 3 y = 1", "y = 1, x = 3", "x = 3, x = 1", "y = 3, y = 1",
		"X = 3, y = 1", "x = 3, Y = 1", "x : 3, y = 1", "x == 3, y = 1", "x = 3; y = 1", "x = 3, y = 1 ,", "x = 3, y = 1, ", "x = 3, y = 1, rule", "x = 3, y = 1, rule =",
		"x = 3, y = 1 rule = B3/S23", "x = 3, y = 1, B3/S23", "x = 3, y = 1, rule = b3/s23", "x = 3, y = 1, rule = S23/B3", "x = 3, y = 1, rule = B3/S2", "x = 3, y = 1, rule = B3/S234",
		"x = 3, y = 1, rule = B36/S23", "x = 3, y = 1, rule = 23/3", "x = 3, y = 1, rule = B3 / S23", "x = 3, y = 1, rule = B3 /S23", "x = 3, y = 1, rule = B3/ S23", "x = 3, y = 1, rule = B 3/S23", "x = 3, y = 1, rule = B3/S 23", "x = 3, y = 1, r ule = B3/S23", "x = 3, y = 1, Rule = B3/S23",
		"x = 3, y = 1, rule = B3/S23,", "x = 3, y = 1, rule = B3/S23, rule = B3/S23", "x = 3, y = 1, rule = B3/S23 3o!", "x = 3, y = 1 3o!", "x = 3, y = 1, z = 1",
		" #", " # x = 3, y = 1", "x = 3, y = 1 # a", "3o!", "!", "x = 3, y = 1\r", "\tx = 3, y = 1", "x = 3,\ty = 1", "\xc2\xa0x = 3, y = 1", "x = ３, y = 1",
	} {
		fails(t, "no header", s+"\n3o!", api.ErrForm, 0)
		fails(t, "no header behind a #", "#a\n"+s+"\n3o!", api.ErrForm, 3)
	}
	fails(t, "a header on two lines", "x = 3,\ny = 1\n3o!", api.ErrForm, 0)
	fails(t, "the rule on the next line", "x = 3, y = 1\n, rule = B3/S23\n3o!", api.ErrForm, 13)
	fails(t, "a line ahead of the header", "\nx = 3, y = 1\n3o!", api.ErrForm, 0)
	fails(t, "a line with a blank behind #", "#\n \nx = 3, y = 1\n3o!", api.ErrForm, 2)
	fails(t, "blanks ahead of what is none", "#\n   z = 3, y = 1\n3o!", api.ErrForm, 2)
	fails(t, "a second header", "x = 3, y = 1\nx = 3, y = 1\n3o!", api.ErrForm, 13)
	fails(t, "a # behind the header", "x = 3, y = 1\n#\n3o!", api.ErrForm, 13)
}

// P5.3: numbers of headers have 1 to 4 digits, and are at most 1024.
func TestHeaderNumbers(t *testing.T) {
	for _, c := range []struct {
		digits string
		n      int
	}{
		{"0", 0}, {"1", 1}, {"9", 9}, {"10", 10}, {"12", 12}, {"123", 123}, {"999", 999}, {"1000", 1000}, {"1023", 1023}, {"1024", 1024},
		{"00", 0}, {"0000", 0}, {"01", 1}, {"007", 7}, {"0010", 10}, {"0999", 999},
	} {
		fits(t, "x", "x = "+c.digits+", y = 5\n!", rle.Pattern{Wide: c.n, High: 5})
		fits(t, "y", "x = 5, y = "+c.digits+"\n!", rle.Pattern{Wide: 5, High: c.n})
		fits(t, "y, with the rule", "x = 5, y = "+c.digits+", rule = B3/S23\n!", rle.Pattern{Wide: 5, High: c.n})
	}
	for _, digits := range []string{
		"", "1025", "1026", "1030", "1100", "2000", "9999", "00000", "00001", "01024", "10000", "10240", "99999", "4294967296", "18446744073709551617", strings.Repeat("9", 1000), strings.Repeat("0", 1000),
		"-1", "+1", "-0", "1.5", "1e2", "0x1", "1_0", "1 0", "a", "1a", "a1",
	} {
		fails(t, "x", "x = "+digits+", y = 5\n!", api.ErrForm, 0)
		fails(t, "y", "x = 5, y = "+digits+"\n!", api.ErrForm, 0)
		fails(t, "y, with the rule", "#\nx = 5, y = "+digits+", rule = B3/S23\n!", api.ErrForm, 2)
	}
}

// P5.3: a line of # or a header that isn't ended comes ahead of what else is wrong.
func TestLinesWithoutEnd(t *testing.T) {
	for _, s := range []string{
		"", "#", "#c", "# x = 3, y = 1, 3o!", "#a\n", "#a\n#b", "#a\n#b\n", "x", " ", "!", "3o!", "x = 3, y = 1", "x = 3, y = 1, rule = B3/S23", "x = 3, y = 1 3o!", "x = 9999, y = 1",
		"#a\nx = 3, y = 1", "#a\nz", "z = 3", "x = 3, y = 1\r", strings.Repeat("#\n", 1000), strings.Repeat("#", rle.MostText), strings.Repeat(" ", rle.MostText),
	} {
		fails(t, "no line end", s, api.ErrCut, len(s))
	}
}

// runsFail checks the error of runs behind a header that is 13 bytes long.
func runsFail(t *testing.T, name, runs string, code api.Errno, at int) {
	t.Helper()
	fails(t, name, "x = 3, y = 2\n"+runs, code, 13+at)
	fails(t, name+", behind a #", "#ab\nx = 3, y = 2\n"+runs, code, 17+at)
}

// P5.3: letters that leave the pattern, at the letter; and bytes that are none of a run.
func TestRunsWrong(t *testing.T) {
	for _, c := range []struct {
		name, runs string
		at         int
	}{
		{"living ones beyond Wide", "4o!", 1},
		{"dead ones beyond Wide", "4b!", 1},
		{"one by one beyond Wide", "oooo!", 3},
		{"one by one, dead ones", "bbbb!", 3},
		{"from the middle beyond Wide", "2b2o!", 3},
		{"dead ones behind living ones", "3ob!", 2},
		{"beyond Wide in the second row", "3o$bo2b!", 6},
		{"dead ones beyond Wide below High", "2$3bb!", 4},
		{"far beyond Wide", "1024o!", 4},
		{"far beyond Wide, dead ones", "1024b!", 4},
		{"beyond Wide and High", "2$4o!", 3},
		{"a living one below High", "2$o!", 2},
		{"living ones below High", "$$3o!", 3},
		{"a living one behind dead ones below High", "3o2$2bo!", 6},
		{"a living one far below High", "1024$o!", 5},
		{"a blank behind a number", "2 o!", 1},
		{"a line end behind a number", "2\no!", 1},
		{"a ! behind a number", "2!", 1},
		{"a ! behind a number, late", "3o$2!", 4},
		{"another byte behind a number", "2xo!", 1},
		{"the number 0", "0o!", 0},
		{"the number 0 of line ends", "o0$!", 1},
		{"the number 0 of dead ones", "o0b!", 1},
		{"the number 00", "00o!", 0},
		{"the number 01", "o01o!", 1},
		{"the number 0003", "0003o!", 0},
		{"the number 1025", "1025$!", 0},
		{"the number 1025, late", "3o$1025$!", 3},
		{"the number 1030", "1030$!", 0},
		{"the number 9999", "9999b!", 0},
		{"the number 10000", "10000b!", 0},
		{"the number 10240", "10240b!", 0},
		{"a number beyond all limits", strings.Repeat("9", 100) + "b!", 0},
		{"2^64 and 1", "18446744073709551617b!", 0},
		{"a number that is none, without a letter", "1025", 0},
		{"0 without a letter", "o0", 1},
		{"a minus", "-1o!", 0},
		{"a plus", "+1o!", 0},
		{"a capital letter", "O!", 0},
		{"a capital letter, late", "oB!", 1},
		{"a dot", ".!", 0},
		{"a tab", "o\to!", 1},
		{"a carriage return", "o\r\no!", 1},
		{"a byte 0", "o\x00!", 1},
		{"a byte 255", "\xff!", 0},
		{"a character of two bytes", "o\u00a0!", 1},
		{"a #", "o\n#!", 2},
		{"a # without a !", "#", 0},
		{"a fault without a !", "3oo", 2},
		{"the first of two faults", "4o0x", 1},
		{"a fault ahead of bytes behind the !", "x! x", 0},
	} {
		runsFail(t, c.name, c.runs, api.ErrForm, c.at)
	}
	fails(t, "1025 living ones", "x = 1024, y = 1\n1025o!", api.ErrForm, 16)
	fails(t, "1025 dead ones", "x = 1024, y = 1\n1025b!", api.ErrForm, 16)
	fails(t, "1025 line ends", "x = 1024, y = 1\n1025$!", api.ErrForm, 16)
	fails(t, "no width", "x = 0, y = 5\nb!", api.ErrForm, 13)
	fails(t, "no width, a living one", "x = 0, y = 5\no!", api.ErrForm, 13)
	fails(t, "no height", "x = 5, y = 0\no!", api.ErrForm, 13)
	fails(t, "no sides", "x = 0, y = 0\n$$1024$!", api.ErrForm, 19)
}

// P5.3: every byte that begins no run isn't allowed, at the first place and later; nor is one that isn't a letter behind a number.
func TestEachByteOfRuns(t *testing.T) {
	for c := range 256 {
		b := string([]byte{byte(c)})
		digit, letter := b >= "0" && b <= "9", strings.Contains("bo$", b)
		switch {
		case letter || b == " " || b == "\n":
			fits(t, "between", "x = 3, y = 2\n$"+b+"!", drawn("...", strings.Trim(b, " \n$")+".."))
		case digit && b != "0":
			runsFail(t, "a digit", b+"!", api.ErrForm, 1)
		case b != "!":
			runsFail(t, "no run", b+"!", api.ErrForm, 0)
			runsFail(t, "no run, late", "3o$"+b+"!", api.ErrForm, 3)
		}
		if !digit && !letter {
			runsFail(t, "behind a number", "1"+b+"!", api.ErrForm, 1)
		}
	}
}

// P5.3: bytes behind the !, and none there.
func TestBehindTheEnd(t *testing.T) {
	for _, c := range []struct {
		name, runs string
		at         int
	}{
		{"a letter", "o!o", 2}, {"a second !", "o!!", 2}, {"behind a blank", "o! x", 2}, {"behind line ends", "3o$\n!\n\n\nx", 5}, {"a tab", "!\t", 1},
		{"a carriage return", "!\r\n", 1}, {"a #", "!\n#a\n", 1}, {"a byte 0", "! \x00 ", 1}, {"a second text", "3o!\nx = 3, y = 2\n3o!", 3},
	} {
		runsFail(t, c.name, c.runs, api.ErrLong, c.at)
	}
}

// P5.3: no !, with and without a number that waits for its letter.
func TestWithoutTheEnd(t *testing.T) {
	for _, runs := range []string{"", " ", "\n", "o", "3o", "3o$", "3o$\n", "3o$ \n ", "3", "3o$12", "1024", "1", "2$3b"} {
		runsFail(t, "no !", runs, api.ErrCut, len(runs))
	}
}

// P5.3: 1024 line ends, in one run and in many, and one more.
func TestLineEnds(t *testing.T) {
	cells := []grid.Point{pt(0, 1023)}
	fits(t, "1023, and a cell", "x = 1, y = 1024\n1023$o!", rle.Pattern{Wide: 1, High: 1024, Cells: cells})
	fits(t, "1023 and 1", "x = 1, y = 1024\n1023$o$!", rle.Pattern{Wide: 1, High: 1024, Cells: cells})
	fits(t, "1024", "x = 1, y = 1024\n1024$!", rle.Pattern{Wide: 1, High: 1024})
	fits(t, "1024, and a dead cell", "x = 1, y = 1024\n1024$b!", rle.Pattern{Wide: 1, High: 1024})
	fits(t, "1024 times 1", "x = 1, y = 1\n"+strings.Repeat("$", 1024)+"!", rle.Pattern{Wide: 1, High: 1})
	fits(t, "line ends of the text don't count", "x = 1, y = 1\n"+strings.Repeat("\n", 5000)+"1024$!", rle.Pattern{Wide: 1, High: 1})
	fails(t, "1024, and a cell", "x = 1, y = 1024\n1024$o!", api.ErrForm, 21)
	fails(t, "1024 and 1", "x = 1, y = 1024\n1024$$!", api.ErrForm, 21)
	fails(t, "1 and 1024", "x = 1, y = 1024\n$1024$!", api.ErrForm, 21)
	fails(t, "1023 and 2", "x = 1, y = 1024\n1023$o2$!", api.ErrForm, 23)
	fails(t, "1025 times 1", "x = 1, y = 1\n"+strings.Repeat("$", 1025)+"!", api.ErrForm, 13+1024)
}

// P5.3: 20000 cells, and one more.
func TestCells(t *testing.T) {
	s := "x = 1001, y = 1000\n" + strings.Repeat("1000o$", 20)
	full := rle.Pattern{Wide: 1001, High: 1000, Cells: block(1000, 20)}
	fits(t, "20000", s+"!", full)
	fits(t, "20000, and dead ones", s+"1000bb$9b!", full)
	fails(t, "one more", s+"o!", api.ErrForm, len(s))
	fails(t, "one more behind a dead one", s+"bo!", api.ErrForm, len(s)+1)
	fails(t, "many more", s+"1000o!", api.ErrForm, len(s)+4)
	short := "x = 1001, y = 1000\n" + strings.Repeat("1000o$", 19) + "999o"
	fits(t, "up to 20000", short+"o!", full)
	fails(t, "from 19999 to 20001", short+"2o!", api.ErrForm, len(short)+1)
	fails(t, "each one a run", "x = 1000, y = 1000\n"+strings.Repeat(strings.Repeat("o", 1000)+"$", 20)+"o!", api.ErrForm, 19+20*1001)
}

// P5.3: 200000 bytes, and one more, wherever they are.
func TestLength(t *testing.T) {
	const text = "x = 3, y = 1\n3o!"
	pad := func(n int, b string) string { return strings.Repeat(b, n-len(text)) }
	fits(t, "blanks behind", text+pad(200000, " "), drawn("ooo"))
	fits(t, "line ends behind", text+pad(200000, "\n"), drawn("ooo"))
	fits(t, "a long line ahead", "#"+pad(200000-2, "a")+"\n"+text, drawn("ooo"))
	fits(t, "many lines ahead", pad(200000/2+len(text)/2, "#\n")+text, drawn("ooo"))
	fits(t, "blanks in the header", pad(200000, " ")+text, drawn("ooo"))
	fits(t, "blanks in the runs", "x = 3, y = 1\n"+pad(200000, " ")+"3o!", drawn("ooo"))
	fails(t, "another byte at the end", text+pad(200000-1, " ")+"x", api.ErrLong, len(text))
	for _, s := range []string{
		text + pad(200001, " "), "#" + pad(200001-2, "a") + "\n" + text, strings.Repeat("#", 200001), strings.Repeat("\n", 200001),
		"z\n" + strings.Repeat(" ", 200000), text + "x" + strings.Repeat(" ", 200000), strings.Repeat("x", 1000000), text + pad(200001, " ")[1:] + "\n",
	} {
		fails(t, "too long", s, api.ErrLong, 200000)
	}
}

// tokens are what runs are made of: numbers, and single bytes.
var tokens = regexp.MustCompile(`[0-9]+|(?s:.)`)

// right is a number of a run.
var right = regexp.MustCompile(`^([1-9][0-9]{0,2}|10[01][0-9]|102[0-4])$`)

// parsedByWords is what the chapter says of the runs of a pattern: its cells, or an error and its place.
func parsedByWords(wide, high int, runs string) (cells []grid.Point, code api.Errno, at int) {
	x, y, n := 0, 0, 0
	for _, ends := range tokens.FindAllStringIndex(runs, -1) {
		from, word := ends[0], runs[ends[0]:ends[1]]
		times := max(1, n)
		switch {
		case right.MatchString(word):
			n, _ = strconv.Atoi(word)
			continue
		case n == 0 && (word == " " || word == "\n"):
			continue
		case n == 0 && word == "!":
			if strings.Trim(runs[from+1:], " \n") != "" {
				return nil, api.ErrLong, from + 1
			}
			return cells, api.OK, 0
		case word == "b" && x+times <= wide:
			x += times
		case word == "o" && x+times <= wide && y < high && len(cells)+times <= 20000:
			cells = append(cells, rowOf(pt(int64(x), int64(y)), times)...)
			x += times
		case word == "$" && y+times <= 1024:
			x, y = 0, y+times
		default:
			return nil, api.ErrForm, from
		}
		n = 0
	}
	return nil, api.ErrCut, len(runs)
}

// P5.3: all short runs of some bytes, against the chapter's words.
func TestAllShortRuns(t *testing.T) {
	const letters = "bo$!012 \nx"
	const header = "x = 3, y = 2\n"
	for length := range 6 {
		runs := make([]byte, length)
		all := 1
		for range length {
			all *= len(letters)
		}
		for i := range all {
			for k, left := 0, i; k < length; k, left = k+1, left/len(letters) {
				runs[k] = letters[left%len(letters)]
			}
			against(t, header, 3, 2, string(runs))
		}
	}
}

// against checks one text against the chapter's words.
func against(t *testing.T, header string, wide, high int, runs string) {
	t.Helper()
	cells, code, at := parsedByWords(wide, high, runs)
	if code == api.OK {
		fits(t, "runs", header+runs, rle.Pattern{Wide: wide, High: high, Cells: cells})
		return
	}
	fails(t, "runs", header+runs, code, len(header)+at)
}

// P5.3: long runs that are right for a while, against the chapter's words.
func TestThrownRuns(t *testing.T) {
	words := []string{"b", "o", "$", "o", "2b", "3o", "2$", "10b", "24o", "100$", "300b", "1000o", "1024$", " ", "\n", "$", "$", "$", "$", "$", "$", "5", "0", "!", "1025"}
	d := dice(4)
	for i := range 20000 {
		most := len(words)
		if i%2 == 0 {
			most -= 4
		}
		var runs strings.Builder
		for range d.below(60) {
			runs.WriteString(words[d.below(most)])
		}
		runs.WriteString("!\n"[:d.below(3)])
		against(t, "x = 1024, y = 1000\n", 1024, 1000, runs.String())
	}
}

// P2 and the rules: the same text is the same pattern again, and nothing is shared.
func TestParseAgain(t *testing.T) {
	const s = "x = 3, y = 2\nob$2o!"
	p, _ := rle.Parse(s)
	p.Cells[0] = pt(9, 9)
	fits(t, "again", s, drawn("o..", "oo."))
}

// P5.3, P1: every text that is cut, or has another byte somewhere, ends well.
func TestChangedTexts(t *testing.T) {
	s := "#N a\n" + drawn("o.oo..ooo", "", ".o").Text()
	for i := range len(s) + 1 {
		rle.Parse(s[:i])
		rle.Parse(s[i:])
		if i == len(s) {
			continue
		}
		for c := range 256 {
			p, e := rle.Parse(s[:i] + string([]byte{byte(c)}) + s[i+1:])
			if e == nil {
				fits(t, "changed", p.Text(), p)
			} else if !same(p, rle.Pattern{}) || fault.Code(e) < api.ErrCut || fault.Code(e) > api.ErrLong {
				t.Errorf("byte %d is %d: %v, %v", i, c, p, e)
			}
		}
	}
}
