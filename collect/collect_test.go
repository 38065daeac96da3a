package collect_test

import (
	"fmt"
	"math"
	"slices"
	"testing"

	"belvedere/api"
	"belvedere/collect"
	"belvedere/fault"
	"belvedere/store"
)

// fresh is a store with room for so many squares.
func fresh(t *testing.T, most int) *store.Store {
	t.Helper()
	s, e := store.New(most)
	if s == nil || e != nil {
		t.Fatalf("New(%d) = %v, %v", most, s, e)
	}
	return s
}

// made is the square of four.
func made(t *testing.T, s *store.Store, a, b, c, d store.ID) store.ID {
	t.Helper()
	x, e := s.Make(store.Kids{a, b, c, d})
	if e != nil {
		t.Fatalf("Make(%d, %d, %d, %d): %v", a, b, c, d, e)
	}
	return x
}

// dice are numbers that look like thrown ones, the same in each run.
type dice uint64

// below is the next number, from 0 on, below n.
func (d *dice) below(n int) int {
	*d = *d*6364136223846793005 + 1442695040888963407
	return int(uint64(*d) >> 33 % uint64(n))
}

// grow makes squares of those of a store, of any levels, until it has n.
func (d *dice) grow(t *testing.T, s *store.Store, n int) {
	t.Helper()
	levels := make(map[int][]store.ID)
	for x := store.ID(0); s.Is(x); x++ {
		levels[s.Level(x)] = append(levels[s.Level(x)], x)
	}
	for s.Len() < n {
		l := levels[d.below(min(len(levels), 9))]
		old := s.Len()
		// Four of a few ones near each other, so that levels aren't far from each other's number of squares.
		at := d.below(len(l))
		one := func() store.ID { return l[(at+d.below(3))%len(l)] }
		x := made(t, s, one(), one(), one(), one())
		if s.Len() > old {
			levels[s.Level(x)] = append(levels[s.Level(x)], x)
		}
	}
}

// record is what a store tells of a square.
type record struct {
	level int
	count uint64
	kids  store.Kids
	has   bool
}

// all is what a store tells of all its squares, by number, with its room behind them.
func all(s *store.Store) ([]record, int) {
	var l []record
	for x := store.ID(0); s.Is(x); x++ {
		k, has := s.Of(x)
		l = append(l, record{level: s.Level(x), count: s.Count(x), kids: k, has: has})
	}
	return l, s.Room()
}

// none are numbers that no test's store has.
var none = []store.ID{store.MostNodes, store.MostNodes + 1, 1 << 31, math.MaxUint32 - 1, math.MaxUint32}

// needed are the squares that are needed, by the words, rising.
func needed(s *store.Store, l []store.ID) []store.ID {
	var n []store.ID
	for x := store.ID(0); s.Is(x); x++ {
		if x == store.Dead || x == store.Alive || slices.Contains(l, x) {
			n = append(n, x)
		}
	}
	for more := true; more; {
		more = false
		for _, x := range slices.Clone(n) {
			k, has := s.Of(x)
			for _, y := range k {
				if has && !slices.Contains(n, y) {
					n = append(n, y)
					more = true
				}
			}
		}
	}
	slices.Sort(n)
	return n
}

// wantReach checks that just those are needed.
func wantReach(t *testing.T, name string, m map[store.ID]bool, n []store.ID) {
	t.Helper()
	if m == nil || len(m) != len(n) {
		t.Errorf("%s: Reach = %v, want %v", name, m, n)
	}
	for _, x := range n {
		if !m[x] {
			t.Errorf("%s: Reach hasn't %d", name, x)
		}
	}
}

// wantSame checks that a store is as it was.
func wantSame(t *testing.T, name string, s *store.Store, l []record, room int) {
	t.Helper()
	if now, r := all(s); !slices.Equal(now, l) || r != room {
		t.Errorf("%s: the store has changed", name)
	}
}

// wantNow checks that the function tells the place of each that is needed, and nothing else.
func wantNow(t *testing.T, name string, s *store.Store, now func(store.ID) (store.ID, bool), n []store.ID) {
	t.Helper()
	ask := slices.Clone(none)
	for x := range store.ID(s.Len() + 3) {
		ask = append(ask, x)
	}
	for _, x := range ask {
		at := slices.Index(n, x)
		y, is := now(x)
		if is != (at >= 0) || y != store.ID(max(at, 0)) {
			t.Errorf("%s: %d is now %d, %v, want %d", name, x, y, is, at)
		}
	}
}

// wantThere checks that a store has just those of an old one, in that order.
func wantThere(t *testing.T, name string, c, s *store.Store, n []store.ID) {
	t.Helper()
	if c.Len() != len(n) || c.Len()+c.Room() != s.Len()+s.Room() {
		t.Fatalf("%s: Len, Room = %d, %d, want %d, %d", name, c.Len(), c.Room(), len(n), s.Len()+s.Room()-len(n))
	}
	for i, x := range n {
		y := store.ID(i)
		if c.Level(y) != s.Level(x) || c.Count(y) != s.Count(x) {
			t.Errorf("%s: %d was %d: Level, Count = %d, %d, want %d, %d", name, y, x, c.Level(y), c.Count(y), s.Level(x), s.Count(x))
		}
		k, has := s.Of(x)
		for j := range k {
			k[j] = store.ID(max(slices.Index(n, k[j]), 0))
		}
		if kids, is := c.Of(y); is != has || kids != k {
			t.Errorf("%s: %d was %d: Of = %v, %v, want %v, %v", name, y, x, kids, is, k, has)
		}
	}
}

// wantMade checks that a store makes no square again that it has.
func wantMade(t *testing.T, name string, c *store.Store) {
	t.Helper()
	l, room := all(c)
	for i, r := range l {
		if !r.has {
			continue
		}
		if x, e := c.Make(r.kids); x != store.ID(i) || e != nil {
			t.Errorf("%s: Make(%v) = %d, %v, want %d", name, r.kids, x, e, i)
		}
	}
	wantSame(t, name+", made again", c, l, room)
}

// wantCollected checks both calls by the words, and returns what Collect does.
func wantCollected(t *testing.T, name string, s *store.Store, l ...store.ID) (*store.Store, func(store.ID) (store.ID, bool)) {
	t.Helper()
	was, room := all(s)
	given := slices.Clone(l)
	n := needed(s, l)
	m := collect.Reach(s, l...)
	wantReach(t, name, m, n)
	c, now, e := collect.Collect(s, l...)
	if c == nil || now == nil || e != nil {
		t.Fatalf("%s: Collect = %v, %v", name, c, e)
	}
	wantNow(t, name, s, now, n)
	wantThere(t, name, c, s, n)
	wantMade(t, name, c)
	wantSame(t, name, s, was, room)
	if !slices.Equal(l, given) {
		t.Errorf("%s: the roots are %v now, they were %v", name, l, given)
	}
	clear(m)
	wantReach(t, name+", again", collect.Reach(s, l...), n)
	return c, now
}

// some is a store of eleven squares, four of them above level 1, with room for fourteen.
//
//	2, 3, 4, 6, 9   of level 1
//	5, 7, 10        of level 2: of 2 and 3; 4 and 6; 9
//	8               of level 3: of 5
func some(t *testing.T) *store.Store {
	t.Helper()
	s := fresh(t, 14)
	made(t, s, 1, 0, 0, 0)
	made(t, s, 0, 1, 0, 0)
	made(t, s, 0, 0, 1, 0)
	made(t, s, 2, 3, 3, 2)
	made(t, s, 0, 0, 0, 1)
	made(t, s, 4, 6, 6, 6)
	made(t, s, 5, 5, 5, 5)
	made(t, s, 1, 1, 1, 1)
	made(t, s, 9, 9, 9, 9)
	if s.Len() != 11 {
		t.Fatalf("the store has %d squares", s.Len())
	}
	return s
}

// TestExample is the chapter's: without roots, two squares.
func TestExample(t *testing.T) {
	s := some(t)
	wantReach(t, "no roots", collect.Reach(s), []store.ID{store.Dead, store.Alive})
	c, now, e := collect.Collect(s)
	if e != nil || c.Len() != 2 || c.Room() != 12 {
		t.Fatalf("Collect = %d squares, room for %d, %v", c.Len(), c.Room(), e)
	}
	if c.Level(store.Dead) != 0 || c.Level(store.Alive) != 0 || c.Count(store.Dead) != 0 || c.Count(store.Alive) != 1 {
		t.Error("the two squares aren't the cells")
	}
	for x := range store.ID(14) {
		if y, is := now(x); is != (x < 2) || is && y != x || !is && y != 0 {
			t.Errorf("%d is now %d, %v", x, y, is)
		}
	}
	wantCollected(t, "no roots", s)
	wantCollected(t, "no roots, none ever made", fresh(t, 2))
}

// TestNeeded is which squares are needed by which roots, in words of its own.
func TestNeeded(t *testing.T) {
	for _, c := range []struct {
		roots, needed []store.ID
	}{
		{[]store.ID{}, []store.ID{0, 1}},
		{[]store.ID{0}, []store.ID{0, 1}},
		{[]store.ID{1}, []store.ID{0, 1}},
		{[]store.ID{1, 0, 1}, []store.ID{0, 1}},
		{[]store.ID{2}, []store.ID{0, 1, 2}},
		{[]store.ID{9}, []store.ID{0, 1, 9}},
		{[]store.ID{5}, []store.ID{0, 1, 2, 3, 5}},
		{[]store.ID{7}, []store.ID{0, 1, 4, 6, 7}},
		{[]store.ID{8}, []store.ID{0, 1, 2, 3, 5, 8}},
		{[]store.ID{10}, []store.ID{0, 1, 9, 10}},
		{[]store.ID{7, 7, 7}, []store.ID{0, 1, 4, 6, 7}},
		{[]store.ID{10, 7}, []store.ID{0, 1, 4, 6, 7, 9, 10}},
		{[]store.ID{8, 5, 2}, []store.ID{0, 1, 2, 3, 5, 8}},
		{[]store.ID{4, 8, 4}, []store.ID{0, 1, 2, 3, 4, 5, 8}},
		{[]store.ID{10, 8, 7}, []store.ID{0, 1, 2, 3, 4, 5, 6, 7, 8, 9, 10}},
		{[]store.ID{11}, []store.ID{0, 1}},
		{[]store.ID{11, 12, 13, 14, 15}, []store.ID{0, 1}},
		{none, []store.ID{0, 1}},
		{[]store.ID{math.MaxUint32, 10, 11}, []store.ID{0, 1, 9, 10}},
		{append([]store.ID{2}, none...), []store.ID{0, 1, 2}},
	} {
		name := fmt.Sprintf("roots %v", c.roots)
		s := some(t)
		wantReach(t, name, collect.Reach(s, c.roots...), c.needed)
		if n := needed(s, c.roots); !slices.Equal(n, c.needed) {
			t.Fatalf("%s: the reckoning says %v", name, n)
		}
		wantCollected(t, name, s, c.roots...)
	}
}

// TestNumbers is which numbers the squares have after a collection, in words of its own.
func TestNumbers(t *testing.T) {
	s := some(t)
	c, now, e := collect.Collect(s, 8, 10)
	if e != nil || c.Len() != 8 || c.Room() != 6 {
		t.Fatalf("Collect = %d squares, room for %d, %v", c.Len(), c.Room(), e)
	}
	want := map[store.ID]store.ID{0: 0, 1: 1, 2: 2, 3: 3, 5: 4, 8: 5, 9: 6, 10: 7}
	for x := range store.ID(14) {
		y, is := now(x)
		if w, there := want[x]; is != there || y != w {
			t.Errorf("%d is now %d, %v, want %d, %v", x, y, is, w, there)
		}
	}
	for x, k := range map[store.ID]store.Kids{2: {1, 0, 0, 0}, 3: {0, 1, 0, 0}, 4: {2, 3, 3, 2}, 5: {4, 4, 4, 4}, 6: {1, 1, 1, 1}, 7: {6, 6, 6, 6}} {
		if kids, is := c.Of(x); !is || kids != k {
			t.Errorf("Of(%d) = %v, %v, want %v", x, kids, is, k)
		}
	}
}

// TestNoStore is that what isn't there has the two cells that are needed, and can't be collected.
func TestNoStore(t *testing.T) {
	for name, s := range map[string]*store.Store{"nil": nil, "not of New": {}} {
		for _, l := range [][]store.ID{nil, {}, {0}, {1}, {0, 1, 2, 3}, none} {
			wantReach(t, name, collect.Reach(s, l...), []store.ID{store.Dead, store.Alive})
			c, now, e := collect.Collect(s, l...)
			if c != nil || e == nil || fault.Code(e) != api.ErrArg {
				t.Errorf("%s: Collect(%v) = %v, %v", name, l, c, e)
			}
			for _, x := range append([]store.ID{0, 1, 2, 3, 4, 5}, none...) {
				if y, is := now(x); is || y != 0 {
					t.Errorf("%s: %d is now %d, %v", name, x, y, is)
				}
			}
		}
	}
}

// TestAnyStores is stores of any squares, with any roots.
func TestAnyStores(t *testing.T) {
	d := dice(13)
	for i := range 300 {
		most := 2 + d.below(60)
		s := fresh(t, most)
		d.grow(t, s, 2+d.below(most-1))
		var l []store.ID
		for range d.below(6) {
			l = append(l, store.ID(d.below(s.Len()+2)))
		}
		wantCollected(t, fmt.Sprintf("store %d, of %d squares, roots %v", i, s.Len(), l), s, l...)
	}
}

// TestEachRoot is one root, each square of a store, which is full.
func TestEachRoot(t *testing.T) {
	d := dice(7)
	s := fresh(t, 120)
	d.grow(t, s, 120)
	for x := range store.ID(125) {
		name := fmt.Sprintf("root %d", x)
		wantCollected(t, name, s, x)
		wantCollected(t, name+" three times", s, x, x, x)
	}
	var l []store.ID
	for x := range store.ID(120) {
		l = append(l, 119-x)
	}
	c, _ := wantCollected(t, "all of them", s, l...)
	before, _ := all(s)
	if now, room := all(c); !slices.Equal(now, before) || room != 0 {
		t.Error("all are needed, but not all are there")
	}
}

// TestRoots is that roots are read up to their length only, and aren't kept.
func TestRoots(t *testing.T) {
	s := some(t)
	l := []store.ID{2, 7, 10}
	wantReach(t, "two of three", collect.Reach(s, l[:1]...), []store.ID{0, 1, 2})
	_, now := wantCollected(t, "one of three", s, l[:1]...)
	l[0] = 10
	wantNow(t, "roots that are others now", s, now, []store.ID{0, 1, 2})
}

// TestSame is that the same call makes the same.
func TestSame(t *testing.T) {
	d := dice(99)
	s := fresh(t, 200)
	d.grow(t, s, 150)
	l := []store.ID{149, 100, 60}
	c, now, _ := collect.Collect(s, l...)
	was, room := all(c)
	slices.Reverse(l)
	for range 20 {
		again, other, _ := collect.Collect(s, l...)
		wantSame(t, "again", again, was, room)
		for x := range store.ID(160) {
			a, is := now(x)
			b, also := other(x)
			if a != b || is != also {
				t.Errorf("%d is now %d, %v, and again %d, %v", x, a, is, b, also)
			}
		}
	}
}
