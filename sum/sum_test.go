package sum_test

import (
	"bytes"
	"math"
	"testing"

	"belvedere/sum"
)

// byWords is the sum, computed bit by bit in the words of the chapter.
func byWords(b []byte) uint32 {
	n := uint32(math.MaxUint32)
	for _, c := range b {
		for i := 7; i >= 0; i-- {
			if c>>i&1 == 1 {
				n ^= 1 << 31
			}
			high := n>>31 == 1
			n <<= 1
			if high {
				n ^= 79764919
			}
		}
	}
	return ^n
}

// noise is so many bytes that follow no plain pattern, always the same ones.
func noise(length int) []byte {
	out := make([]byte, length)
	n := uint32(12345)
	for i := range out {
		n = n*1664525 + 1013904223
		out[i] = byte(n >> 24)
	}
	return out
}

// samples are rows of bytes of many lengths and kinds.
func samples() [][]byte {
	out := [][]byte{nil, {}, []byte("123456789"), {0}, {1}, {127}, {128}, {255}}
	for _, length := range []int{2, 3, 4, 5, 7, 8, 15, 16, 31, 32, 33, 100, 255, 256, 257, 1000} {
		out = append(out, make([]byte, length), bytes.Repeat([]byte{255}, length), noise(length))
	}
	return out
}

// P3.1, with the chapter's example.
func TestKnownSums(t *testing.T) {
	cases := []struct {
		b string
		n uint32
	}{
		{"123456789", 4236843288},
		{"", 0},
		{"\x00", 0xb1f7404b},
		{"\x01", 0xb5365dfc},
		{"\x80", 0xd8fba0a5},
		{"\xff", 0x000000ff},
		{"a", 0x19939b6b},
		{"\xff\xff\xff\xff", 0xffffffff},
		{"\x00\x00\x00\x00", 0x38fb2284},
	}
	for _, c := range cases {
		if n := sum.Of([]byte(c.b)); n != c.n {
			t.Errorf("Of(%q) = %#x, not %#x", c.b, n, c.n)
		}
	}
}

// P3.1: no bytes, in each of their forms.
func TestNoBytes(t *testing.T) {
	if n := sum.Of(nil); n != 0 {
		t.Errorf("Of(nil) = %d", n)
	}
	if n := sum.Of([]byte{}); n != 0 {
		t.Errorf("Of of an empty slice = %d", n)
	}
	s := sum.New()
	if s.Sum() != 0 || s.Len() != 0 {
		t.Errorf("New: sum %d, length %d", s.Sum(), s.Len())
	}
	for _, same := range []sum.State{s.Add(), s.Add(nil...), s.Add([]byte{}...)} {
		if same != s {
			t.Errorf("adding no bytes: sum %d, length %d", same.Sum(), same.Len())
		}
	}
}

// P3.1: each byte value alone, and rows of many kinds.
func TestOfByTheWords(t *testing.T) {
	for c := range 256 {
		b := []byte{byte(c)}
		if n := sum.Of(b); n != byWords(b) {
			t.Errorf("Of(%d) = %#x, not %#x", c, n, byWords(b))
		}
	}
	for _, b := range samples() {
		if n := sum.Of(b); n != byWords(b) {
			t.Errorf("Of of %d bytes %.8x.. = %#x, not %#x", len(b), b, n, byWords(b))
		}
	}
}

// P3.1: bytes in two pieces, at every cut; the earlier states stay.
func TestAddInPieces(t *testing.T) {
	b := noise(300)
	whole := byWords(b)
	for cut := range len(b) + 1 {
		empty := sum.New()
		first := empty.Add(b[:cut]...)
		second := first.Add(b[cut:]...)
		if second.Sum() != whole || second.Len() != len(b) {
			t.Errorf("cut at %d: sum %#x, length %d", cut, second.Sum(), second.Len())
		}
		if first.Sum() != byWords(b[:cut]) || first.Len() != cut {
			t.Errorf("cut at %d, the first piece: sum %#x, length %d", cut, first.Sum(), first.Len())
		}
		if empty != sum.New() {
			t.Errorf("cut at %d: the state of no bytes changed", cut)
		}
	}
}

// P3.1: byte by byte, with the sum asked for in between.
func TestAddByteByByte(t *testing.T) {
	b := noise(70)
	s := sum.New()
	for i, c := range b {
		if s.Sum() != byWords(b[:i]) || s.Len() != i {
			t.Errorf("%d bytes: sum %#x, length %d", i, s.Sum(), s.Len())
		}
		s = s.Add(c)
	}
	if s.Sum() != byWords(b) || s.Len() != len(b) {
		t.Errorf("all bytes: sum %#x, length %d", s.Sum(), s.Len())
	}
}

// P3.1: two rows that begin alike go on from one state.
func TestStatesBranch(t *testing.T) {
	s := sum.New().Add([]byte("12345")...)
	left, right := s.Add('6', '7'), s.Add('8')
	if left.Sum() != byWords([]byte("1234567")) || left.Len() != 7 {
		t.Errorf("left: sum %#x, length %d", left.Sum(), left.Len())
	}
	if right.Sum() != byWords([]byte("123458")) || right.Len() != 6 {
		t.Errorf("right: sum %#x, length %d", right.Sum(), right.Len())
	}
}

// P3.2: at every cut, those with no bytes on a side among them.
func TestJoinAtEveryCut(t *testing.T) {
	for _, b := range samples() {
		whole := byWords(b)
		for cut := range len(b) + 1 {
			if n := sum.Join(byWords(b[:cut]), byWords(b[cut:]), len(b)-cut); n != whole {
				t.Errorf("%d bytes %.8x.., cut at %d: %#x, not %#x", len(b), b, cut, n, whole)
			}
		}
	}
}

// P3.2: a second row without bytes, by the length 0 and by lengths below it.
func TestJoinOfNoBytes(t *testing.T) {
	none := sum.Of(nil)
	for _, b := range samples() {
		a := byWords(b)
		for _, length := range []int{0, -1, -2, -8, -1000, math.MinInt + 1, math.MinInt} {
			if n := sum.Join(a, none, length); n != a {
				t.Errorf("Join(%#x, %d, %d) = %#x", a, none, length, n)
			}
		}
	}
}

// P3.2: rows that are too long to be written out here.
func TestJoinOfLongRows(t *testing.T) {
	// Zeros, doubled: the sums of 2^k of them.
	zeros := byWords([]byte{0})
	for k := range 20 {
		if zeros != sum.Of(make([]byte, 1<<k)) {
			t.Errorf("2^%d zeros: %#x", k, zeros)
		}
		zeros = sum.Join(zeros, zeros, 1<<k)
	}
	a, b := byWords([]byte("one")), byWords([]byte("two"))
	// A number comes back after 2^32 - 1 steps, so only the length modulo that counts.
	const round = 1<<32 - 1
	for _, length := range []int{4, 5, 1000, 1<<31 - 1} {
		short := sum.Join(a, b, length)
		for _, rounds := range []int{1, 2, 3, 1 << 30} {
			if n := sum.Join(a, b, length+rounds*round); n != short {
				t.Errorf("length %d and %d rounds: %#x, not %#x", length, rounds, n, short)
			}
		}
	}
	// 2^63 - 1 is 2^31 - 1, modulo 2^32 - 1.
	if n := sum.Join(a, b, math.MaxInt64); n != sum.Join(a, b, 1<<31-1) {
		t.Errorf("the greatest length: %#x", n)
	}
}

// P3.2: three rows may be joined from either side.
func TestJoinFromEitherSide(t *testing.T) {
	a, b, c := byWords([]byte("one")), byWords([]byte("two")), byWords([]byte("three"))
	for _, m := range []int{4, 5, 255, 1 << 20, 1<<31 - 1} {
		for _, n := range []int{4, 7, 256, 1<<20 + 1, 1<<31 - 1} {
			left := sum.Join(sum.Join(a, b, m), c, n)
			right := sum.Join(a, sum.Join(b, c, n), m+n)
			if left != right {
				t.Errorf("lengths %d and %d: %#x and %#x", m, n, left, right)
			}
		}
	}
}

// P3.1: the form of sealed bytes, the highest byte of the sum first.
func TestSealed(t *testing.T) {
	cases := []struct{ b, sealed string }{
		{"123456789", "123456789\xfc\x89\x19\x18"},
		{"", "\x00\x00\x00\x00"},
		{"\x00", "\x00\xb1\xf7\x40\x4b"},
		{"\xff", "\xff\x00\x00\x00\xff"},
	}
	for _, c := range cases {
		if s := sum.Seal([]byte(c.b)); string(s) != c.sealed {
			t.Errorf("Seal(%q) = %q", c.b, s)
		}
	}
	if s := sum.Seal(nil); string(s) != "\x00\x00\x00\x00" {
		t.Errorf("Seal(nil) = %q", s)
	}
}

// P3.1: what was sealed is opened again.
func TestSealedOpens(t *testing.T) {
	for _, b := range samples() {
		if c, ok := sum.Open(sum.Seal(b)); !ok || !bytes.Equal(c, b) {
			t.Errorf("%d bytes %.8x..: %v, %.8x..", len(b), b, ok, c)
		}
		// Sealed twice, the inner sum is part of the bytes.
		twice := sum.Seal(sum.Seal(b))
		if c, ok := sum.Open(twice); !ok || !bytes.Equal(c, sum.Seal(b)) {
			t.Errorf("%d bytes %.8x.., sealed twice: %v", len(b), b, ok)
		}
	}
}

// opensNot reports an error if bytes are opened, or if something comes with the false.
func opensNot(t *testing.T, b []byte, why string) {
	t.Helper()
	if c, ok := sum.Open(b); ok || len(c) != 0 {
		t.Errorf("%s: Open(%x) = %x, %v", why, b, c, ok)
	}
}

// P3.1: fewer bytes than a sum has.
func TestTooShortToOpen(t *testing.T) {
	opensNot(t, nil, "nil")
	for length := range 4 {
		opensNot(t, make([]byte, length), "zeros")
		opensNot(t, noise(length), "noise")
		opensNot(t, bytes.Repeat([]byte{255}, length), "ones")
	}
	// The fourth zero is behind the end, and isn't read.
	opensNot(t, make([]byte, 4)[:3], "cut zeros")
}

// P3.1: each bit inverted, each end cut off, a byte more, the sum in another order.
func TestSpoiltDoesNotOpen(t *testing.T) {
	for _, b := range [][]byte{nil, {0}, {7, 7, 7}, []byte("123456789"), noise(40)} {
		sealed := sum.Seal(b)
		for i := range 8 * len(sealed) {
			spoilt := bytes.Clone(sealed)
			spoilt[i/8] ^= 128 >> (i % 8)
			opensNot(t, spoilt, "a bit inverted")
		}
	}
	sealed := sum.Seal([]byte("123456789"))
	for cut := range len(sealed) {
		opensNot(t, sealed[:cut], "cut at the end")
	}
	for cut := 1; cut < len(sealed); cut++ {
		opensNot(t, sealed[cut:], "cut at the beginning")
	}
	opensNot(t, append(bytes.Clone(sealed), 0), "a byte more")
	opensNot(t, append([]byte{0}, sealed...), "a byte more ahead")
	opensNot(t, []byte("123456789\x18\x19\x89\xfc"), "the lowest byte first")
	opensNot(t, []byte("123456789\x03\x76\xe6\xe7"), "the sum without the last inversion")
	opensNot(t, []byte("\xff\xff\xff\xff"), "another sum of no bytes")
}

// Rule 3: what is passed in stays as it was, also behind its end, which isn't read either.
func TestArgumentsStay(t *testing.T) {
	sealed := sum.Seal(noise(20))
	for _, tail := range []byte{0, 1, 255} {
		full := append(bytes.Clone(sealed), bytes.Repeat([]byte{tail}, 12)...)
		before := bytes.Clone(full)
		b := full[:len(sealed)]
		if sum.Of(b) != byWords(sealed) || sum.New().Add(b...).Sum() != byWords(sealed) {
			t.Errorf("tail %d: the sum differs", tail)
		}
		if s := sum.Seal(b); !bytes.Equal(s, sum.Seal(sealed)) {
			t.Errorf("tail %d: Seal = %x", tail, s)
		}
		if c, ok := sum.Open(b); !ok || !bytes.Equal(c, noise(20)) {
			t.Errorf("tail %d: Open = %x, %v", tail, c, ok)
		}
		if !bytes.Equal(full, before) {
			t.Errorf("tail %d: %x became %x", tail, before, full)
		}
	}
}

// Rule 3: results share nothing with what was passed in, nor with each other.
func TestResultsAreNotShared(t *testing.T) {
	b := noise(20)
	first, second := sum.Seal(b), sum.Seal(b)
	clear(first)
	if !bytes.Equal(b, noise(20)) || !bytes.Equal(second, sum.Seal(b)) {
		t.Error("Seal shares its result")
	}
	one, _ := sum.Open(second)
	two, _ := sum.Open(second)
	clear(one)
	_ = append(one, 1, 2, 3, 4)
	if !bytes.Equal(second, sum.Seal(b)) || !bytes.Equal(two, b) {
		t.Error("Open shares its result")
	}
}

// Rule 3: a state doesn't retain the bytes that were added.
func TestStateKeepsNoBytes(t *testing.T) {
	b := []byte("123456789")
	s := sum.New().Add(b[:5]...)
	clear(b)
	if s = s.Add([]byte("6789")...); s.Sum() != 4236843288 || s.Len() != 9 {
		t.Errorf("sum %d, length %d", s.Sum(), s.Len())
	}
}

// invert inverts those bits that a pattern has, from a bit on, the most significant first.
func invert(b []byte, from int, pattern uint32) []byte {
	out := bytes.Clone(b)
	for i := range 32 {
		if pattern<<i>>31 == 1 {
			at := from + i
			out[at/8] ^= 128 >> (at % 8)
		}
	}
	return out
}

// P3.3: differences within at most 32 bits, at each position, of each width.
func TestNearRowsHaveOtherSums(t *testing.T) {
	rng := uint32(1)
	for _, b := range [][]byte{make([]byte, 12), bytes.Repeat([]byte{255}, 12), noise(12)} {
		n := sum.Of(b)
		for width := 1; width <= 32; width++ {
			for from := 0; from+width <= 8*len(b); from++ {
				for range 20 {
					rng = rng*1664525 + 1013904223
					// The range's first bit differs, and none behind its end.
					pattern := (rng | 1<<31) >> (32 - width) << (32 - width)
					if sum.Of(invert(b, from, pattern)) == n {
						t.Fatalf("%x: no other sum with %#x from bit %d", b, pattern, from)
					}
				}
			}
		}
	}
}

// P3.3: no two of all the rows that differ within 16 bits have one sum.
func TestAllOfSixteenBits(t *testing.T) {
	seen := map[uint32]int{}
	b := noise(7)
	for i := range 1 << 16 {
		b[2], b[3] = byte(i>>8), byte(i)
		n := sum.Of(b)
		if j, ok := seen[n]; ok {
			t.Fatalf("%#x and %#x have the sum %#x", i, j, n)
		}
		seen[n] = i
	}
}

// P3.3: the promise ends at 32 bits, since of 33 there is one difference that no sum shows.
func TestWidestDifference(t *testing.T) {
	b := noise(9)
	same := invert(b, 9, 79764919)
	same[1] ^= 128
	if sum.Of(same) != sum.Of(b) {
		t.Error("33 bits of a step should leave the sum as it is")
	}
	if sum.Of(invert(b, 9, 79764919)) == sum.Of(b) {
		t.Error("32 of them should not")
	}
}
