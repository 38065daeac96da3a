package collect_test

import (
	"fmt"
	"math"
	"slices"
	"testing"

	"belvedere/api"
	"belvedere/area"
	"belvedere/collect"
	"belvedere/evolve"
	"belvedere/fault"
	"belvedere/grid"
	"belvedere/quad"
	"belvedere/roots"
	"belvedere/store"
)

// fill makes squares until there is no room, and returns how many.
func fill(t *testing.T, name string, s *store.Store) int {
	t.Helper()
	n := s.Len()
	for level := 1; level <= store.MostLevel; level++ {
		if _, e := s.Empty(level); e != nil {
			if fault.Code(e) != api.ErrFull || s.Room() != 0 {
				t.Errorf("%s: Empty(%d): %v, with room for %d", name, level, e, s.Room())
			}
			return s.Len() - n
		}
	}
	t.Fatalf("%s: there is still room for %d", name, s.Room())
	return 0
}

// TestRoom is that a store has as much room in all as the old one, and then no more.
func TestRoom(t *testing.T) {
	for most := 11; most <= 40; most++ {
		s := fresh(t, most)
		old, _ := all(some(t))
		for _, r := range old[2:] {
			made(t, s, r.kids[0], r.kids[1], r.kids[2], r.kids[3])
		}
		for _, l := range [][]store.ID{nil, {5}, {7, 10}, {7, 8, 10}} {
			name := fmt.Sprintf("room for %d, roots %v", most, l)
			c, _ := wantCollected(t, name, s, l...)
			room := c.Room()
			if n := fill(t, name, c); n != room || c.Len() != most {
				t.Errorf("%s: %d squares fit, want %d", name, n, room)
			}
		}
	}
}

// TestApart is that neither store changes with the other one.
func TestApart(t *testing.T) {
	s := some(t)
	c, now := wantCollected(t, "first", s, 7)
	inC, roomC := all(c)
	n := needed(s, []store.ID{7})

	fill(t, "the old one", s)
	wantSame(t, "the new one, the old one full", c, inC, roomC)
	s.Back(5)
	wantSame(t, "the new one, the old one back", c, inC, roomC)
	made(t, s, 4, 4, 4, 4)
	wantSame(t, "the new one, another made in the old one", c, inC, roomC)
	wantNow(t, "the old one is another", some(t), now, n)

	inS, roomS := all(s)
	made(t, c, 3, 3, 3, 2)
	wantSame(t, "the old one, another made in the new one", s, inS, roomS)
	fill(t, "the new one", c)
	wantSame(t, "the old one, the new one full", s, inS, roomS)
	c.Back(2)
	wantSame(t, "the old one, the new one back", s, inS, roomS)
	wantNow(t, "the new one is another", some(t), now, n)
}

// TestAfterwards is that what is made in the new store is as in any store.
func TestAfterwards(t *testing.T) {
	s := some(t)
	c, _ := wantCollected(t, "7 and 10", s, 7, 10)
	// 4, 6, 7, 9, 10 are 2, 3, 4, 5, 6.
	if x := made(t, c, 2, 3, 3, 3); x != 4 {
		t.Errorf("the square that was 7 is %d", x)
	}
	if x := made(t, c, 4, 4, 4, 6); x != 7 {
		t.Errorf("a new square is %d", x)
	}
	if x := made(t, c, 4, 4, 4, 6); x != 7 || c.Count(7) != 28 || c.Level(7) != 3 {
		t.Errorf("a square that is there is %d, with %d cells", x, c.Count(7))
	}
	if x, e := c.Make(store.Kids{4, 4, 4, 7}); x != 0 || e == nil || fault.Code(e) != api.ErrArg {
		t.Errorf("Make of two levels = %d, %v", x, e)
	}
	if x, e := c.Make(store.Kids{8, 8, 8, 8}); x != 0 || e == nil || fault.Code(e) != api.ErrArg {
		t.Errorf("Make of none = %d, %v", x, e)
	}
	m := c.Mark()
	if m != 8 {
		t.Errorf("Mark = %d", m)
	}
	// What was collected can go as well as what was made.
	c.Back(3)
	if x := made(t, c, 0, 0, 0, 0); x != 3 || c.Count(3) != 0 {
		t.Errorf("the square after Back is %d", x)
	}
	if x := made(t, c, 0, 0, 0, 1); x != 4 {
		t.Errorf("what was 6 is made again as %d", x)
	}
	if x := made(t, c, 0, 0, 1, 0); x != 2 {
		t.Errorf("what was 4 is made again as %d", x)
	}
}

// TestBack is a store in which numbers are those of other squares now.
func TestBack(t *testing.T) {
	s := some(t)
	s.Back(7)
	wantCollected(t, "a root that is gone", s, 7, 8, 10)
	x := made(t, s, 5, 5, 5, 5)
	y := made(t, s, 5, 5, 5, 5)
	if x != 7 || y != 7 {
		t.Fatalf("made as %d, %d", x, y)
	}
	c, _ := wantCollected(t, "a number that is another's", s, 7)
	if c.Len() != 6 {
		t.Errorf("%d squares, want 6", c.Len())
	}
}

// TestAgain is stores that are collected, and collected again.
func TestAgain(t *testing.T) {
	s := some(t)
	c, now := wantCollected(t, "first", s, 7, 8)
	a, _ := now(7)
	b, _ := now(8)
	same, next := wantCollected(t, "the same roots", c, a, b)
	was, room := all(c)
	wantSame(t, "the same roots", same, was, room)
	for x := range store.ID(c.Len()) {
		if y, is := next(x); !is || y != x {
			t.Errorf("%d is now %d, %v", x, y, is)
		}
	}
	one, next := wantCollected(t, "one of them", c, a)
	if x, is := next(a); !is || one.Len() != 5 || one.Count(x) != 4 {
		t.Errorf("the root is %d, %v, of %d", x, is, one.Len())
	}
	two, _ := wantCollected(t, "none of them", one)
	wantCollected(t, "none, again", two)

	d := dice(5)
	s = fresh(t, 400)
	for i := range 40 {
		d.grow(t, s, 150+d.below(200))
		l := []store.ID{store.ID(d.below(s.Len())), store.ID(s.Len() - 1), store.ID(d.below(s.Len()))}
		s, _ = wantCollected(t, fmt.Sprintf("time %d", i), s, l...)
	}
}

// TestHigh is squares of all levels up to the highest one, of few different ones.
func TestHigh(t *testing.T) {
	s := fresh(t, 400)
	var full, mixed [store.MostLevel + 1]store.ID
	full[0], mixed[0] = store.Alive, store.Dead
	for n := range store.MostLevel {
		full[n+1] = made(t, s, full[n], full[n], full[n], full[n])
		empty, e := s.Empty(n)
		if e != nil {
			t.Fatal(e)
		}
		mixed[n+1] = made(t, s, mixed[n], full[n], empty, mixed[n])
	}
	for n := range store.MostLevel + 1 {
		name := fmt.Sprintf("level %d", n)
		wantCollected(t, name+", full", s, full[n])
		wantCollected(t, name+", mixed", s, mixed[n])
	}
	c, now := wantCollected(t, "level 62", s, full[62])
	x, is := now(full[62])
	if !is || c.Len() != 64 || c.Level(x) != 62 || c.Count(x) != math.MaxUint64 {
		t.Errorf("a full square of level 62 is %d, %v, of level %d, with %d cells, of %d", x, is, c.Level(x), c.Count(x), c.Len())
	}
	if _, e := c.Make(store.Kids{x, x, x, x}); e == nil || fault.Code(e) != api.ErrArg {
		t.Errorf("Make of level 63: %v", e)
	}
}

// TestGreatest is a store that has as many squares as one may have.
func TestGreatest(t *testing.T) {
	s := fresh(t, store.MostNodes)
	d := dice(1)
	for i := range store.ID(16) {
		made(t, s, i&1, i>>1&1, i>>2&1, i>>3)
	}
	one := func(n, of int) store.ID { return store.ID(n + d.below(of)) }
	for s.Len() < 20000 {
		made(t, s, one(2, 16), one(2, 16), one(2, 16), one(2, 16))
	}
	for s.Len() < store.MostNodes {
		made(t, s, one(18, 10000), one(18, 10000), one(18, 10000), one(18, 10000))
	}
	c, _, e := collect.Collect(s)
	if e != nil || c.Len() != 2 || c.Room() != store.MostNodes-2 {
		t.Fatalf("without roots: %d, room for %d, %v", c.Len(), c.Room(), e)
	}
	last := store.ID(store.MostNodes - 1)
	c, now, e := collect.Collect(s, last, none[0])
	x, is := now(last)
	if e != nil || !is || c.Len() > 2+16+4+1 || int(x) != c.Len()-1 || c.Count(x) != s.Count(last) {
		t.Errorf("one root: %d is %d, %v, of %d, %v", last, x, is, c.Len(), e)
	}
	var l []store.ID
	for x := range store.ID(store.MostNodes) {
		l = append(l, x)
	}
	if m := collect.Reach(s, l...); len(m) != store.MostNodes {
		t.Errorf("all roots: %d are needed", len(m))
	}
	c, _, e = collect.Collect(s, l...)
	if e != nil || c.Len() != store.MostNodes || c.Room() != 0 {
		t.Errorf("all roots: %d, room for %d, %v", c.Len(), c.Room(), e)
	}
}

// cells are the living cells of a plane of level 5 and less.
func cells(t *testing.T, p quad.Plane) []grid.Point {
	t.Helper()
	l, e := area.Cells(p, grid.Rect{From: grid.Point{X: -16, Y: -16}, To: grid.Point{X: 16, Y: 16}}, 1024)
	if e != nil {
		t.Fatal(e)
	}
	return l
}

// TestCells is that each needed square has the cells that it had.
func TestCells(t *testing.T) {
	d := dice(2)
	s := fresh(t, 5000)
	p, e := quad.New(s)
	if e != nil {
		t.Fatal(e)
	}
	var planes []quad.Plane
	var had [][]grid.Point
	for i := range 200 {
		p, e = p.Set(grid.Point{X: int64(d.below(32) - 16), Y: int64(d.below(32) - 16)}, d.below(4) > 0)
		if e != nil {
			t.Fatal(e)
		}
		if i%20 == 0 {
			planes = append(planes, p)
			had = append(had, cells(t, p))
		}
	}
	for i := range planes {
		var l []store.ID
		for _, p := range planes[i:] {
			l = append(l, p.Root)
		}
		c, now := wantCollected(t, fmt.Sprintf("planes from %d on", i), s, l...)
		for j := i; j < len(planes); j++ {
			x, is := now(planes[j].Root)
			if got := cells(t, quad.Plane{Store: c, Root: x}); !is || !slices.Equal(got, had[j]) {
				t.Errorf("plane %d, of those from %d on, has %v, want %v", j, i, got, had[j])
			}
		}
	}
}

// TestUse is what collecting is for: roots and a memo go on in the new store.
func TestUse(t *testing.T) {
	s := fresh(t, 60)
	p, _ := quad.New(s)
	p, _ = area.Fill(p, grid.Rect{To: grid.Point{X: 3, Y: 1}}, true)
	r := roots.New(4)
	h, _ := r.Put(p.Root)
	m := evolve.New(s)
	x, e := m.Next(p.Root, 0)
	if e != nil {
		t.Fatal(e)
	}
	many := s.Len()
	c, now, e := collect.Collect(s, append(r.Squares(), x)...)
	if e != nil || c.Len() >= many {
		t.Fatalf("%d squares of %d, %v", c.Len(), many, e)
	}
	r.Change(now)
	m.Change(now)
	m.Store = c
	root, _ := r.Get(h)
	y, e := m.Next(root, 0)
	if was, is := now(x); !is || y != was || e != nil {
		t.Errorf("Next = %d, %v, want %d", y, e, was)
	}
	if got := cells(t, quad.Plane{Store: c, Root: root}); !slices.Equal(got, []grid.Point{{}, {X: 1}, {X: 2}}) {
		t.Errorf("the root has %v", got)
	}
}
