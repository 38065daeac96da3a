package prefix_test

import (
	"bytes"
	"math"
	"testing"

	"belvedere/api"
	"belvedere/fault"
	"belvedere/prefix"
)

// numberCases are the encodings of numbers of each length, at its edges.
var numberCases = []struct {
	n uint64
	b string
}{
	{0, "\x00"},
	{1, "\x01"},
	{1<<7 - 1, "\x7f"},
	{1 << 7, "\x80\x80"},
	{255, "\x80\xff"},
	{256, "\x81\x00"},
	{1<<14 - 1, "\xbf\xff"},
	{1 << 14, "\xc0\x40\x00"},
	{1<<21 - 1, "\xdf\xff\xff"},
	{1 << 21, "\xe0\x20\x00\x00"},
	{1<<28 - 1, "\xef\xff\xff\xff"},
	{1 << 28, "\xf0\x10\x00\x00\x00"},
	{1<<35 - 1, "\xf7\xff\xff\xff\xff"},
	{1 << 35, "\xf8\x08\x00\x00\x00\x00"},
	{0x20123456789, "\xfa\x01\x23\x45\x67\x89"},
	{1<<42 - 1, "\xfb\xff\xff\xff\xff\xff"},
	{1 << 42, "\xfc\x04\x00\x00\x00\x00\x00"},
	{1<<49 - 1, "\xfd\xff\xff\xff\xff\xff\xff"},
	{1 << 49, "\xfe\x02\x00\x00\x00\x00\x00\x00"},
	{1<<56 - 1, "\xfe\xff\xff\xff\xff\xff\xff\xff"},
	{1 << 56, "\xff\x01\x00\x00\x00\x00\x00\x00\x00"},
	{1 << 63, "\xff\x80\x00\x00\x00\x00\x00\x00\x00"},
	{0x0123456789abcdef, "\xff\x01\x23\x45\x67\x89\xab\xcd\xef"},
	{math.MaxUint64 - 1, "\xff\xff\xff\xff\xff\xff\xff\xff\xfe"},
	{math.MaxUint64, "\xff\xff\xff\xff\xff\xff\xff\xff\xff"},
}

// foldCases are signed numbers and their folded forms.
var foldCases = []struct {
	n int64
	u uint64
}{
	{0, 0}, {-1, 1}, {1, 2}, {-2, 3}, {2, 4}, {-3, 5}, {63, 126}, {-64, 127}, {64, 128}, {-65, 129},
	{1 << 55, 1 << 56}, {-1 << 55, 1<<56 - 1},
	{1<<62 - 1, 1<<63 - 2}, {-1 << 62, 1<<63 - 1}, {1 << 62, 1 << 63}, {-1<<62 - 1, 1<<63 + 1},
	{math.MaxInt64 - 1, math.MaxUint64 - 3}, {math.MinInt64 + 1, math.MaxUint64 - 2},
	{math.MaxInt64, math.MaxUint64 - 1}, {math.MinInt64, math.MaxUint64},
}

// longForms are numbers with more bytes than they need, one of each length, the greatest of its kind and 0.
var longForms = []string{
	"\x80\x00", "\x80\x7f",
	"\xc0\x00\x00", "\xc0\x3f\xff",
	"\xe0\x00\x00\x00", "\xe0\x1f\xff\xff",
	"\xf0\x00\x00\x00\x00", "\xf0\x0f\xff\xff\xff",
	"\xf8\x00\x00\x00\x00\x00", "\xf8\x07\xff\xff\xff\xff",
	"\xfc\x00\x00\x00\x00\x00\x00", "\xfc\x03\xff\xff\xff\xff\xff",
	"\xfe\x00\x00\x00\x00\x00\x00\x00", "\xfe\x01\xff\xff\xff\xff\xff\xff",
	"\xff\x00\x00\x00\x00\x00\x00\x00\x00", "\xff\x00\xff\xff\xff\xff\xff\xff\xff",
}

// checkFault checks that an error is one Fault of byte, at a position, with a number.
func checkFault(t *testing.T, name string, e error, at int, n api.Errno) {
	t.Helper()
	f, ok := e.(*fault.Fault)
	if !ok || f == nil || f.What != "byte" || f.At != at || f.Err != n {
		t.Errorf("%s: %v, want byte %d: %v", name, e, at, n)
	}
}

// checkStopped checks that a reader that has had an error stays as it is, whatever is called.
func checkStopped(t *testing.T, name string, r *prefix.Reader, left, at int, n api.Errno) {
	t.Helper()
	for range 2 {
		if r.Uint() != 0 || r.Upto(math.MaxUint64) != 0 || r.Upto(0) != 0 || r.Int() != 0 {
			t.Errorf("%s: a number behind an error", name)
		}
		for _, k := range []int{math.MinInt64, -1, 0, 1, math.MaxInt64} {
			if len(r.Bytes(k)) != 0 {
				t.Errorf("%s: bytes behind an error", name)
			}
		}
		if r.Left() != left {
			t.Errorf("%s: Left() = %d, want %d", name, r.Left(), left)
		}
		checkFault(t, name+", Err", r.Err(), at, n)
		checkFault(t, name+", End", r.End(), at, n)
	}
}

// P2.1
func TestPut(t *testing.T) {
	for _, c := range numberCases {
		if got := prefix.Put(nil, c.n); string(got) != c.b {
			t.Errorf("Put(nil, %d) = %x, want %x", c.n, got, c.b)
		}
	}
}

// P2.1: the first byte says how many there are, and no length but the least is taken.
func TestPutHasTheLeastLength(t *testing.T) {
	for k := 1; k <= 8; k++ {
		edge := uint64(1) << (7 * k)
		if got := len(prefix.Put(nil, edge-1)); got != k {
			t.Errorf("2^%d - 1 has %d bytes, want %d", 7*k, got, k)
		}
		if got := len(prefix.Put(nil, edge)); got != k+1 {
			t.Errorf("2^%d has %d bytes, want %d", 7*k, got, k+1)
		}
	}
}

// P2.1
func TestPutOfSeveral(t *testing.T) {
	var l []uint64
	want := "ab"
	for _, c := range numberCases {
		l = append(l, c.n)
		want += c.b
	}
	if got := prefix.Put([]byte("ab"), l...); string(got) != want {
		t.Errorf("Put = %x, want %x", got, want)
	}
	for i, c := range numberCases {
		if l[i] != c.n {
			t.Error("Put changed its list")
		}
	}
}

// P2.1
func TestPutInt(t *testing.T) {
	var l []int64
	var folded []uint64
	for _, c := range foldCases {
		l = append(l, c.n)
		folded = append(folded, c.u)
		if got, want := prefix.PutInt(nil, c.n), prefix.Put(nil, c.u); !bytes.Equal(got, want) {
			t.Errorf("PutInt(nil, %d) = %x, want %x", c.n, got, want)
		}
	}
	if got, want := prefix.PutInt([]byte("ab"), l...), prefix.Put([]byte("ab"), folded...); !bytes.Equal(got, want) {
		t.Errorf("PutInt = %x, want %x", got, want)
	}
	for i, c := range foldCases {
		if l[i] != c.n {
			t.Error("PutInt changed its list")
		}
	}
	if got := prefix.PutInt(nil, -1, 1, -65, math.MinInt64); string(got) != "\x01\x02\x80\x81\xff\xff\xff\xff\xff\xff\xff\xff\xff" {
		t.Errorf("PutInt = %x", got)
	}
}

// P2.1
func TestPutOfNothing(t *testing.T) {
	for _, b := range [][]byte{nil, {}, {1}, []byte("abc")} {
		for _, got := range [][]byte{prefix.Put(b), prefix.PutInt(b), prefix.Put(b, []uint64{}...), prefix.PutInt(b, []int64{}...)} {
			if !bytes.Equal(got, b) {
				t.Errorf("%x with nothing behind it = %x", b, got)
			}
			if len(got) > 0 && &got[0] == &b[0] {
				t.Errorf("%x with nothing behind it shares its bytes", b)
			}
		}
	}
}

// P2.1: neither the bytes nor those behind their end are written, and answers aren't shared.
func TestPutLeavesItsBytes(t *testing.T) {
	for name, put := range map[string]func([]byte) []byte{
		"Put":    func(b []byte) []byte { return prefix.Put(b, 5, 300) },
		"PutInt": func(b []byte) []byte { return prefix.PutInt(b, 5, 300) },
	} {
		whole := []byte("abcdefgh")
		first := put(whole[:2])
		second := put(whole[:2])
		if string(whole) != "abcdefgh" {
			t.Errorf("%s wrote behind its bytes: %q", name, whole)
		}
		first[0], first[2] = 'X', 'Y'
		if whole[0] != 'a' || second[0] != 'a' || second[2] == 'Y' {
			t.Errorf("%s shares its answer", name)
		}
	}
}

// P2.1
func TestFoldAndOpen(t *testing.T) {
	for _, c := range foldCases {
		if got := prefix.Fold(c.n); got != c.u {
			t.Errorf("Fold(%d) = %d, want %d", c.n, got, c.u)
		}
		if got := prefix.Open(c.u); got != c.n {
			t.Errorf("Open(%d) = %d, want %d", c.u, got, c.n)
		}
	}
	for n := int64(0); n <= 1000; n++ {
		if prefix.Fold(n) != uint64(2*n) || prefix.Open(uint64(2*n)) != n {
			t.Errorf("Fold(%d) = %d", n, prefix.Fold(n))
		}
		if n > 0 && (prefix.Fold(-n) != uint64(2*n-1) || prefix.Open(uint64(2*n-1)) != -n) {
			t.Errorf("Fold(%d) = %d", -n, prefix.Fold(-n))
		}
	}
}

// P2.2
func TestUint(t *testing.T) {
	for _, c := range numberCases {
		r := prefix.Read([]byte(c.b + "\x05"))
		if got := r.Uint(); got != c.n {
			t.Errorf("Uint of %x = %d, want %d", c.b, got, c.n)
		}
		if r.Left() != 1 || r.Err() != nil {
			t.Errorf("%x: %d left, %v", c.b, r.Left(), r.Err())
		}
		if got := r.Uint(); got != 5 || r.Left() != 0 || r.Err() != nil || r.End() != nil {
			t.Errorf("behind %x: %d, %d left, %v, %v", c.b, got, r.Left(), r.Err(), r.End())
		}
	}
}

// P2.2
func TestInt(t *testing.T) {
	for _, c := range foldCases {
		r := prefix.Read(prefix.Put(nil, c.u))
		if got := r.Int(); got != c.n || r.End() != nil {
			t.Errorf("Int of the number %d = %d, want %d; %v", c.u, got, c.n, r.End())
		}
	}
}

// readers are the calls that read one number, which is up to most.
var readers = map[string]func(*prefix.Reader) uint64{
	"Uint":          (*prefix.Reader).Uint,
	"Upto of all":   func(r *prefix.Reader) uint64 { return r.Upto(math.MaxUint64) },
	"Upto of 0":     func(r *prefix.Reader) uint64 { return r.Upto(0) },
	"Int":           func(r *prefix.Reader) uint64 { return uint64(r.Int()) },
	"Upto of a few": func(r *prefix.Reader) uint64 { return r.Upto(100) },
}

// P2.2: cut bytes are ErrCut at each length, also where the number would be too great, or too long.
func TestCutNumbers(t *testing.T) {
	forms := append([]string{}, longForms...)
	for _, c := range numberCases {
		forms = append(forms, c.b)
	}
	for name, read := range readers {
		for _, form := range forms {
			for k := range len(form) {
				r := prefix.Read([]byte("\x07" + form[:k]))
				r.Uint()
				if got := read(r); got != 0 {
					t.Errorf("%s of %x, cut at %d = %d", name, form, k, got)
				}
				checkStopped(t, name+", cut", r, k, 1, api.ErrCut)
			}
		}
	}
}

// P2.2: bytes behind the slice's end are none of the reader's.
func TestCutByTheLength(t *testing.T) {
	b := []byte{128, 128, 128}
	r := prefix.Read(b[:1])
	if r.Uint() != 0 || r.Left() != 1 {
		t.Error("read behind the end")
	}
	checkFault(t, "cut by the length", r.Err(), 0, api.ErrCut)
	r = prefix.Read(b[:2])
	if len(r.Bytes(3)) != 0 || r.Left() != 2 {
		t.Error("read behind the end")
	}
	checkFault(t, "cut by the length", r.Err(), 0, api.ErrCut)
}

// P2.2: a form that is too long is ErrForm, also where the number would be too great.
func TestLongForms(t *testing.T) {
	for name, read := range readers {
		for _, form := range longForms {
			r := prefix.Read([]byte("ab" + form + "c"))
			r.Bytes(2)
			if got := read(r); got != 0 {
				t.Errorf("%s of %x = %d", name, form, got)
			}
			checkStopped(t, name+", too long a form", r, len(form)+1, 2, api.ErrForm)
		}
	}
}

// P2.2
func TestUpto(t *testing.T) {
	for _, c := range numberCases {
		b := []byte("\x03" + c.b + "\x04")
		r := prefix.Read(b)
		r.Upto(3)
		if got := r.Upto(c.n); got != c.n || r.Err() != nil || r.Left() != 1 {
			t.Errorf("Upto(%d) = %d, %v, %d left", c.n, got, r.Err(), r.Left())
		}
		if c.n < math.MaxUint64 {
			r = prefix.Read(b)
			r.Uint()
			if got := r.Upto(c.n + 1); got != c.n || r.Err() != nil {
				t.Errorf("Upto(%d) = %d, %v", c.n+1, got, r.Err())
			}
		}
		if c.n == 0 {
			continue
		}
		for _, most := range []uint64{0, c.n / 2, c.n - 1} {
			r = prefix.Read(b)
			r.Uint()
			if got := r.Upto(most); got != 0 {
				t.Errorf("Upto(%d) of %d = %d", most, c.n, got)
			}
			checkStopped(t, "above most", r, len(c.b)+1, 1, api.ErrLong)
		}
	}
}

// P2.2
func TestBytes(t *testing.T) {
	r := prefix.Read([]byte("abcdef"))
	for _, n := range []int{0, -1, math.MinInt64} {
		if len(r.Bytes(n)) != 0 || r.Left() != 6 || r.Err() != nil {
			t.Errorf("Bytes(%d): %d left, %v", n, r.Left(), r.Err())
		}
	}
	if got := r.Bytes(2); string(got) != "ab" || r.Left() != 4 {
		t.Errorf("Bytes(2) = %q, %d left", got, r.Left())
	}
	if got := r.Bytes(4); string(got) != "cdef" || r.Left() != 0 || r.End() != nil {
		t.Errorf("Bytes(4) = %q, %d left, %v", got, r.Left(), r.End())
	}
	if len(r.Bytes(0)) != 0 || len(r.Bytes(-1)) != 0 || r.Err() != nil {
		t.Errorf("no bytes at the end: %v", r.Err())
	}
	if len(r.Bytes(1)) != 0 {
		t.Error("bytes behind the end")
	}
	checkStopped(t, "behind the end", r, 0, 6, api.ErrCut)
}

// P2.2
func TestCutBytes(t *testing.T) {
	for _, n := range []int{5, 6, 1 << 40, math.MaxInt64} {
		r := prefix.Read([]byte("\x81\x00abcd"))
		r.Uint()
		if got := r.Bytes(n); len(got) != 0 {
			t.Errorf("Bytes(%d) = %q", n, got)
		}
		checkStopped(t, "too few bytes", r, 4, 2, api.ErrCut)
	}
}

// P2.2: the first error stays, though a later call would have another one.
func TestTheFirstErrorStays(t *testing.T) {
	r := prefix.Read([]byte{9, 128, 5, 200})
	r.Upto(8)
	r.Uint()
	r.Bytes(9)
	checkStopped(t, "too great", r, 4, 0, api.ErrLong)
	r = prefix.Read([]byte{200})
	r.Bytes(2)
	r.Upto(1)
	checkStopped(t, "cut", r, 1, 0, api.ErrCut)
}

// P2.2: End says where bytes are left, but it doesn't stop the reader.
func TestEnd(t *testing.T) {
	r := prefix.Read([]byte{1, 128, 200, 3})
	for _, c := range []struct {
		at   int
		next uint64
	}{{0, 1}, {1, 200}, {3, 3}} {
		for range 2 {
			checkFault(t, "bytes left", r.End(), c.at, api.ErrLong)
		}
		if r.Err() != nil || r.Left() != 4-c.at {
			t.Errorf("after End: %v, %d left", r.Err(), r.Left())
		}
		if got := r.Uint(); got != c.next {
			t.Errorf("after End: %d, want %d", got, c.next)
		}
	}
	if e := r.End(); e != nil || r.Err() != nil || r.Left() != 0 {
		t.Errorf("at the end: %v, %v, %d left", e, r.Err(), r.Left())
	}
}

// P2.2
func TestReaderOfNothing(t *testing.T) {
	for name, r := range map[string]*prefix.Reader{"nil": prefix.Read(nil), "empty": prefix.Read([]byte{}), "zero": {}} {
		if r == nil {
			t.Fatalf("%s: no reader", name)
		}
		if r.Left() != 0 || r.Err() != nil || r.End() != nil || len(r.Bytes(0)) != 0 {
			t.Errorf("%s: %d left, %v, %v", name, r.Left(), r.Err(), r.End())
		}
		if r.Uint() != 0 {
			t.Errorf("%s: a number of nothing", name)
		}
		checkStopped(t, name, r, 0, 0, api.ErrCut)
	}
}

// P2.2
func TestNilReader(t *testing.T) {
	var r *prefix.Reader
	for range 2 {
		if r.Uint() != 0 || r.Upto(0) != 0 || r.Upto(9) != 0 || r.Int() != 0 || r.Left() != 0 {
			t.Error("a nil reader reads numbers")
		}
		for _, n := range []int{math.MinInt64, -1, 0, 1, math.MaxInt64} {
			if len(r.Bytes(n)) != 0 {
				t.Error("a nil reader reads bytes")
			}
		}
		if r.Err() != api.ErrArg || r.End() != api.ErrArg {
			t.Errorf("Err() = %v, End() = %v, want ErrArg", r.Err(), r.End())
		}
	}
}

// P2.2: a reader keeps none of the bytes it was given, and shares none with its answers.
func TestReaderSharesNothing(t *testing.T) {
	b := []byte("\x05abcabc")
	r := prefix.Read(b)
	b[0], b[1] = 9, 'X'
	if r.Uint() != 5 {
		t.Error("the reader kept its argument")
	}
	first := r.Bytes(3)
	if string(first) != "abc" {
		t.Errorf("Bytes(3) = %q, want abc", first)
	}
	_ = append(first[:1], "YYYYY"...)
	if second := r.Bytes(3); string(second) != "abc" {
		t.Errorf("Bytes(3) = %q, want abc", second)
	}
	if string(b) != "\x09Xbcabc" {
		t.Errorf("the argument was changed: %q", b)
	}
}

// P2.2: who changes an error changes no later answer.
func TestErrorsAreNotShared(t *testing.T) {
	r := prefix.Read([]byte{7, 200})
	r.Uint()
	r.Uint()
	for _, e := range []error{r.Err(), r.End()} {
		e.(*fault.Fault).At = 99
	}
	checkStopped(t, "after a change", r, 1, 1, api.ErrCut)
}

// P2: two readers of the same bytes don't know of each other.
func TestReadersAreSeparate(t *testing.T) {
	b := []byte{1, 2, 200}
	one, two := prefix.Read(b), prefix.Read(b)
	one.Uint()
	one.Uint()
	one.Uint()
	if two.Uint() != 1 || two.Left() != 2 || two.Err() != nil {
		t.Errorf("%d left, %v", two.Left(), two.Err())
	}
	checkStopped(t, "one", one, 1, 2, api.ErrCut)
}

// spread calls f with numbers of all lengths.
func spread(f func(n uint64)) {
	for n := range uint64(70000) {
		f(n)
	}
	for k := range 64 {
		for d := range uint64(7) {
			f(uint64(1)<<k + d - 3)
		}
	}
	n := uint64(1)
	for range 20000 {
		n = n*6364136223846793005 + 1442695040888963407
		f(n >> (n % 64))
	}
}

// P2.3
func TestWhatIsEncodedIsDecoded(t *testing.T) {
	var all []byte
	var list []uint64
	spread(func(n uint64) {
		b := prefix.Put(nil, n)
		r := prefix.Read(b)
		if got := r.Uint(); got != n || r.End() != nil {
			t.Fatalf("%d became %x, and that %d, %v", n, b, got, r.End())
		}
		s := int64(n)
		r = prefix.Read(prefix.PutInt(nil, s))
		if got := r.Int(); got != s || r.End() != nil {
			t.Fatalf("%d became %d, %v", s, got, r.End())
		}
		if prefix.Open(prefix.Fold(s)) != s || prefix.Fold(prefix.Open(n)) != n {
			t.Fatalf("%d isn't folded and opened", n)
		}
		all = append(all, b...)
		list = append(list, n)
	})
	if !bytes.Equal(prefix.Put(nil, list...), all) {
		t.Fatal("all of them together are other bytes")
	}
	r := prefix.Read(all)
	for _, n := range list {
		if got := r.Uint(); got != n {
			t.Fatalf("%d, want %d; %v", got, n, r.Err())
		}
	}
	if r.End() != nil {
		t.Error(r.End())
	}
}

// P2.3: whatever bytes are read as a number are the ones that it is encoded as.
func TestEachNumberHasOneEncoding(t *testing.T) {
	check := func(b []byte) {
		r := prefix.Read(b)
		n := r.Uint()
		used := len(b) - r.Left()
		if r.Err() != nil {
			if n != 0 || used != 0 {
				t.Fatalf("%x: %d, %d bytes used, %v", b, n, used, r.Err())
			}
			return
		}
		if again := prefix.Put(nil, n); !bytes.Equal(again, b[:used]) {
			t.Fatalf("%x is %d, which is encoded as %x", b[:used], n, again)
		}
	}
	for i := range 1 << 16 {
		check([]byte{byte(i >> 8), byte(i)})
	}
	for first := range 256 {
		for second := range 256 {
			for _, rest := range []byte{0, 1, 127, 128, 255} {
				check(append([]byte{byte(first), byte(second)}, bytes.Repeat([]byte{rest}, 8)...))
			}
		}
	}
}
