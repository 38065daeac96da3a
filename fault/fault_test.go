package fault_test

import (
	"errors"
	"fmt"
	"math"
	"slices"
	"strings"
	"testing"

	"belvedere/api"
	"belvedere/fault"
)

// numbers are all numbers of errors but OK.
var numbers = []api.Errno{
	api.ErrArg, api.ErrCut, api.ErrForm, api.ErrSum, api.ErrLong, api.ErrNone,
	api.ErrFull, api.ErrRange, api.ErrLimit, api.ErrProto, api.ErrState,
}

// noFault is an error that isn't nil, but whose Fault is.
var noFault error = (*fault.Fault)(nil)

// odd is an error that has no number.
var odd = errors.New("odd")

// several is an error that can't be compared.
type several []string

func (s several) Error() string { return strings.Join(s, "+") }

// errorCases says for errors of all shapes what each call returns.
var errorCases = []struct {
	name string
	e    error
	text string
	code api.Errno
	path string
}{
	{"a number", api.ErrArg, "an argument that may not be", api.ErrArg, ""},
	{"a number without a name", api.Errno(99), "no error", api.Errno(99), ""},
	{"a number below 0", api.Errno(-1), "no error", api.Errno(-1), ""},
	{"no number", odd, "odd", api.ErrState, ""},
	{"no number, not comparable", several{"a", "b"}, "a+b", api.ErrState, ""},
	{"wrapped once", fault.At("byte", 7, api.ErrCut), "byte 7: too few bytes", api.ErrCut, "byte 7"},
	{"wrapped twice", fault.At("row", 3, fault.At("cell", 4, api.ErrArg)), "row 3: cell 4: an argument that may not be", api.ErrArg, "row 3, cell 4"},
	{"wrapped four times", fault.At("a", 1, fault.At("b", 2, fault.At("c", 3, fault.At("d", 4, api.ErrSum)))), "a 1: b 2: c 3: d 4: a sum that is another one", api.ErrSum, "a 1, b 2, c 3, d 4"},
	{"the same place twice", fault.At("a", 1, fault.At("a", 1, api.ErrSum)), "a 1: a 1: a sum that is another one", api.ErrSum, "a 1, a 1"},
	{"below 0", fault.At("byte", -5, api.ErrForm), "byte -5: bytes that say nothing", api.ErrForm, "byte -5"},
	{"at 0", fault.At("byte", 0, api.ErrLong), "byte 0: too much", api.ErrLong, "byte 0"},
	{"the greatest", fault.At("x", math.MaxInt64, api.ErrFull), "x 9223372036854775807: no room", api.ErrFull, "x 9223372036854775807"},
	{"the least", fault.At("x", math.MinInt64, api.ErrFull), "x -9223372036854775808: no room", api.ErrFull, "x -9223372036854775808"},
	{"of nothing", fault.At("", 1, api.ErrNone), " 1: there is none", api.ErrNone, " 1"},
	{"of odd texts", fault.At(", :\xff\n", 1, fault.At("ö %d", 2, api.ErrNone)), ", :\xff\n 1: ö %d 2: there is none", api.ErrNone, ", :\xff\n 1, ö %d 2"},
	{"no number, wrapped", fault.At("a", 1, fault.At("b", 2, odd)), "a 1: b 2: odd", api.ErrState, "a 1, b 2"},
	{"not comparable, wrapped", fault.At("a", 1, several{"b"}), "a 1: b", api.ErrState, "a 1"},
	{"Err is nil", &fault.Fault{What: "a", At: 1}, "a 1: ", api.ErrState, "a 1"},
	{"Err is nil, wrapped", fault.At("b", 2, &fault.Fault{What: "a", At: 1}), "b 2: a 1: ", api.ErrState, "b 2, a 1"},
	{"an empty Fault", &fault.Fault{}, " 0: ", api.ErrState, " 0"},
	{"a nil Fault", noFault, "", api.ErrState, ""},
	{"a nil Fault, wrapped", fault.At("a", 1, noFault), "a 1: ", api.ErrState, "a 1"},
	{"a nil Fault, wrapped twice", fault.At("b", 2, fault.At("a", 1, noFault)), "b 2: a 1: ", api.ErrState, "b 2, a 1"},
	{"others between", fault.At("a", 1, fmt.Errorf("x: %w", fault.At("b", 2, api.ErrRange))), "a 1: x: b 2: beyond the end", api.ErrRange, "a 1, b 2"},
	{"others around", fmt.Errorf("x: %w", fault.At("b", 2, api.ErrRange)), "x: b 2: beyond the end", api.ErrRange, "b 2"},
}

// P1.1
func TestErrorIsPlacesAndText(t *testing.T) {
	for _, c := range errorCases {
		if got := c.e.Error(); got != c.text {
			t.Errorf("%s: Error() = %q, want %q", c.name, got, c.text)
		}
	}
}

// P1.1
func TestErrorOfEachNumber(t *testing.T) {
	for _, n := range numbers {
		want := "part 2: " + n.Error()
		if got := fault.At("part", 2, n).Error(); got != want {
			t.Errorf("Error() of %d = %q, want %q", int(n), got, want)
		}
	}
}

// P1.1
func TestAtOfNilIsNil(t *testing.T) {
	for _, what := range []string{"", "x"} {
		for _, at := range []int{math.MinInt64, -1, 0, 1, math.MaxInt64} {
			if e := fault.At(what, at, nil); e != nil {
				t.Errorf("At(%q, %d, nil) = %#v, want nil", what, at, e)
			}
		}
	}
	if e := fault.At("a", 1, fault.At("b", 2, nil)); e != nil {
		t.Errorf("At of At of nil = %#v, want nil", e)
	}
}

// P1.1
func TestAtIsAFaultOfItsArguments(t *testing.T) {
	inner := fault.At("b", 2, api.ErrCut)
	for _, e := range []error{api.ErrArg, api.OK, odd, inner, noFault} {
		f, ok := fault.At("a", -3, e).(*fault.Fault)
		if !ok || f == nil {
			t.Fatalf("At of %#v isn't a Fault", e)
		}
		if f.What != "a" || f.At != -3 || f.Err != e {
			t.Errorf("At of %#v = %#v", e, f)
		}
		if got := f.Unwrap(); got != e {
			t.Errorf("Unwrap() = %#v, want %#v", got, e)
		}
	}
}

// P1.1
func TestAtIsNewEachTime(t *testing.T) {
	a := fault.At("a", 1, api.ErrArg).(*fault.Fault)
	b := fault.At("a", 1, api.ErrArg).(*fault.Fault)
	a.What, a.At, a.Err = "other", 9, nil
	if b.What != "a" || b.At != 1 || b.Err != api.ErrArg {
		t.Errorf("one Fault changed another one: %#v", b)
	}
}

// P1.1
func TestFaultWithoutErr(t *testing.T) {
	f := &fault.Fault{What: "a", At: 1}
	if got := f.Unwrap(); got != nil {
		t.Errorf("Unwrap() = %#v, want nil", got)
	}
	if got := f.Error(); got != "a 1: " {
		t.Errorf("Error() = %q, want %q", got, "a 1: ")
	}
}

// P1.1
func TestNilFault(t *testing.T) {
	var f *fault.Fault
	if got := f.Error(); got != "" {
		t.Errorf("Error() = %q, want an empty string", got)
	}
	if got := f.Unwrap(); got != nil {
		t.Errorf("Unwrap() = %#v, want nil", got)
	}
}

// P1.1
func TestUnwrapGoesInwards(t *testing.T) {
	e := fault.At("a", 1, fault.At("b", 2, api.ErrSum))
	e = errors.Unwrap(e)
	if f, ok := e.(*fault.Fault); !ok || f.What != "b" || f.At != 2 {
		t.Fatalf("first Unwrap: %#v", e)
	}
	e = errors.Unwrap(e)
	if e != api.ErrSum {
		t.Fatalf("second Unwrap: %#v", e)
	}
	if e = errors.Unwrap(e); e != nil {
		t.Errorf("third Unwrap: %#v, want nil", e)
	}
}

// P1.1
func TestOf(t *testing.T) {
	if e := fault.Of(api.OK); e != nil {
		t.Errorf("Of(OK) = %#v, want nil", e)
	}
	for _, n := range append(slices.Clone(numbers), -1, 12, 99) {
		if e := fault.Of(n); e != n {
			t.Errorf("Of(%d) = %#v", int(n), e)
		}
	}
}

// P1.1
func TestFirst(t *testing.T) {
	wrapped := fault.At("a", 1, api.ErrCut)
	for _, c := range []struct {
		name string
		l    []error
		want error
	}{
		{"no list", nil, nil},
		{"an empty list", []error{}, nil},
		{"one nil", []error{nil}, nil},
		{"nils", []error{nil, nil, nil}, nil},
		{"one", []error{api.ErrArg}, api.ErrArg},
		{"the first of two", []error{api.ErrCut, api.ErrArg}, api.ErrCut},
		{"behind nils", []error{nil, nil, api.ErrSum, nil, api.ErrArg}, api.ErrSum},
		{"the last", []error{nil, nil, api.ErrForm}, api.ErrForm},
		{"a Fault", []error{nil, wrapped, api.ErrArg}, wrapped},
		{"no number", []error{nil, odd, api.ErrArg}, odd},
		{"a nil Fault isn't nil", []error{nil, noFault, api.ErrArg}, noFault},
	} {
		before := slices.Clone(c.l)
		if got := fault.First(c.l...); got != c.want {
			t.Errorf("%s: First = %#v, want %#v", c.name, got, c.want)
		}
		if !slices.Equal(c.l, before) {
			t.Errorf("%s: First changed its list", c.name)
		}
	}
	if e := fault.First(); e != nil {
		t.Errorf("First() = %#v, want nil", e)
	}
}

// P1.2
func TestCode(t *testing.T) {
	if n := fault.Code(nil); n != api.OK {
		t.Errorf("Code(nil) = %d, want OK", int(n))
	}
	for _, c := range errorCases {
		if got := fault.Code(c.e); got != c.code {
			t.Errorf("%s: Code = %d, want %d", c.name, int(got), int(c.code))
		}
	}
}

// P1.2
func TestCodeOfEachNumber(t *testing.T) {
	for _, n := range numbers {
		e := fault.Of(n)
		for range 4 {
			if got := fault.Code(e); got != n {
				t.Errorf("Code(%v) = %d, want %d", e, int(got), int(n))
			}
			e = fault.At("part", 2, e)
		}
	}
}

// P1.2
func TestIsOfNil(t *testing.T) {
	if !fault.Is(nil, api.OK) || !fault.Is(nil, api.ErrArg, api.OK) || !fault.Is(nil, api.OK, api.ErrArg) {
		t.Error("nil isn't OK")
	}
	if fault.Is(nil, numbers...) {
		t.Error("nil is a number other than OK")
	}
}

// P1.2
func TestIsOfEachNumber(t *testing.T) {
	for _, n := range numbers {
		others := slices.DeleteFunc(slices.Clone(numbers), func(o api.Errno) bool { return o == n })
		e := fault.Of(n)
		for range 4 {
			if !fault.Is(e, n) || !fault.Is(e, numbers...) || !fault.Is(e, api.OK, n) {
				t.Errorf("%v isn't %d", e, int(n))
			}
			if fault.Is(e, others...) {
				t.Errorf("%v is another number than %d", e, int(n))
			}
			if fault.Is(e, api.OK) {
				t.Errorf("%v is OK", e)
			}
			e = fault.At("part", 2, e)
		}
	}
}

// P1.2
func TestIsOfEmptyLists(t *testing.T) {
	for _, e := range []error{nil, api.ErrArg, fault.At("a", 1, api.ErrArg), odd, noFault} {
		if fault.Is(e) || fault.Is(e, []api.Errno{}...) {
			t.Errorf("%#v is one of none", e)
		}
	}
}

// P1.2: Code says ErrState of an error without a number, yet it isn't that number.
func TestIsOfNoNumber(t *testing.T) {
	all := append([]api.Errno{api.OK}, numbers...)
	for _, c := range errorCases {
		hasNumber := errors.As(c.e, new(api.Errno))
		if !hasNumber && fault.Is(c.e, all...) {
			t.Errorf("%s: has no number, but is one", c.name)
		}
		if hasNumber && !fault.Is(c.e, c.code) {
			t.Errorf("%s: isn't its number", c.name)
		}
	}
}

// P1.2: OK as an error is no nil, and only nil is OK.
func TestIsOfOKAsAnError(t *testing.T) {
	for _, e := range []error{api.OK, fault.At("a", 1, api.OK)} {
		if fault.Is(e, api.OK) || fault.Is(e, numbers...) {
			t.Errorf("%#v is a number", e)
		}
	}
}

// P1.2
func TestIsLeavesItsList(t *testing.T) {
	l := []api.Errno{api.ErrSum, api.ErrArg, api.OK, api.ErrArg}
	before := slices.Clone(l)
	fault.Is(fault.At("a", 1, api.ErrArg), l...)
	if !slices.Equal(l, before) {
		t.Error("Is changed its list")
	}
}

// P1.2
func TestPath(t *testing.T) {
	if p := fault.Path(nil); p != "" {
		t.Errorf("Path(nil) = %q, want an empty string", p)
	}
	for _, c := range errorCases {
		if got := fault.Path(c.e); got != c.path {
			t.Errorf("%s: Path = %q, want %q", c.name, got, c.path)
		}
	}
}

// P1, P2: all calls end for long chains, and the same call returns the same.
func TestLongChains(t *testing.T) {
	const length = 300000
	var e error = api.ErrLimit
	for range length {
		e = fault.At("x", 1, e)
	}
	for range 2 {
		if got, want := e.Error(), strings.Repeat("x 1: ", length)+"more than may be"; got != want {
			t.Errorf("Error() has %d bytes, want %d", len(got), len(want))
		}
		if got, want := fault.Path(e), strings.Repeat("x 1, ", length-1)+"x 1"; got != want {
			t.Errorf("Path has %d bytes, want %d", len(got), len(want))
		}
		if fault.Code(e) != api.ErrLimit || !fault.Is(e, api.ErrLimit) || fault.Is(e, api.ErrArg) {
			t.Error("another number")
		}
	}
}

// P2: asking an error doesn't change it.
func TestErrorsStayWhatTheyAre(t *testing.T) {
	inner := fault.At("b", 2, api.ErrCut)
	outer := fault.At("a", 1, inner).(*fault.Fault)
	_ = outer.Error()
	fault.Code(outer)
	fault.Path(outer)
	fault.Is(outer, numbers...)
	fault.First(nil, outer)
	if outer.What != "a" || outer.At != 1 || outer.Err != inner {
		t.Errorf("changed: %#v", outer)
	}
	if outer.Error() != "a 1: b 2: too few bytes" || fault.Path(outer) != "a 1, b 2" {
		t.Errorf("changed: %v", outer)
	}
}
