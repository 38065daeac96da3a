package clock_test

import (
	"fmt"
	"math"
	"slices"
	"testing"

	"belvedere/api"
	"belvedere/clock"
	"belvedere/evolve"
	"belvedere/fault"
	"belvedere/grid"
	"belvedere/quad"
	"belvedere/store"
)

// roomy is a store with room for so many squares, beside those that fill needs.
func roomy(t *testing.T, most int) *store.Store {
	t.Helper()
	s := fresh(t, 42+most)
	towers(t, s)
	return s
}

// towers are the squares of level 20 that are all dead, and all alive.
func towers(t *testing.T, s *store.Store) []store.ID {
	t.Helper()
	x, e := s.Empty(20)
	if e != nil {
		t.Fatal(e)
	}
	return []store.ID{x, whole(t, s, 20).Root}
}

// fill makes squares that no step of a test needs, until there is room for so many more.
func fill(t *testing.T, s *store.Store, room int) {
	t.Helper()
	from := towers(t, s)
	var l []store.ID
	for n := 0; s.Room() > room; n++ {
		if n == 16 {
			from = l
		}
		var k store.Kids
		for i, digits := 0, n; i < len(k); i++ {
			k[i] = from[digits%len(from)]
			digits /= len(from)
		}
		x, e := s.Make(k)
		if e != nil {
			t.Fatal(e)
		}
		l = append(l, x)
	}
}

// noTimes are what has no plane.
func noTimes(t *testing.T, s *store.Store) map[string]clock.Time {
	t.Helper()
	m := s.Mark()
	gone, e := s.Make(store.Kids{store.Alive, store.Dead, store.Alive, store.Alive})
	if e != nil {
		t.Fatal(e)
	}
	s.Back(m)
	l := map[string]clock.Time{
		"Time{}":               {},
		"no store":             {Plane: quad.Plane{Root: 5}},
		"a store without New":  {Plane: quad.Plane{Store: &store.Store{}}},
		"a dead cell":          {Plane: quad.Plane{Store: s, Root: store.Dead}},
		"a living cell":        {Plane: quad.Plane{Store: s, Root: store.Alive}},
		"the greatest number":  {Plane: quad.Plane{Store: s, Root: math.MaxUint32}},
		"a square that's gone": {Plane: quad.Plane{Store: s, Root: gone}},
	}
	for level := 1; level < 3; level++ {
		x, e := s.Empty(level)
		if e != nil {
			t.Fatal(e)
		}
		l[fmt.Sprintf("level %d", level)] = clock.Time{Plane: quad.Plane{Store: s, Root: x}}
	}
	return l
}

// P11.1: a time that has no plane, whatever else is wrong.
func TestNoPlane(t *testing.T) {
	s := fresh(t, enough)
	if _, e := s.Empty(2); e != nil {
		t.Fatal(e)
	}
	for name, x := range noTimes(t, s) {
		for _, m := range []*evolve.Memo{evolve.New(s), evolve.New(x.Store), evolve.New(nil), nil} {
			for _, n := range []uint64{0, 1, clock.Far, math.MaxUint64} {
				for _, x.Gen = range []uint64{0, 1 << 62, math.MaxUint64} {
					wantError(t, name, x, m, n, api.ErrArg)
				}
			}
		}
	}
}

// P11.1: no memo of that store, whatever else is wrong.
func TestNoMemo(t *testing.T) {
	s, other := fresh(t, enough), fresh(t, enough)
	for _, l := range [][]grid.Point{nil, drawn(pt(0, 0), "ooo"), {pt(far, far)}} {
		// The same squares, in another store.
		x, y := timeOf(t, s, 0, l), timeOf(t, other, 0, l)
		for _, m := range []*evolve.Memo{nil, evolve.New(other), evolve.New(nil), {}, {Store: &store.Store{}}} {
			for _, n := range []uint64{0, 1, clock.Far, math.MaxUint64} {
				for _, x.Gen = range []uint64{0, 1 << 62, math.MaxUint64} {
					wantError(t, "no memo of its store", x, m, n, api.ErrArg)
				}
			}
		}
		wantError(t, "the other way round", y, evolve.New(s), 0, api.ErrArg)
		x.Gen = 0
		wantStep(t, "its own", x, evolve.New(s), 0, l)
		wantStep(t, "its own, not by New", x, &evolve.Memo{Store: s}, 0, l)
	}
}

// P11.1: ErrRange comes before ErrFull.
func TestRangeFirst(t *testing.T) {
	s := roomy(t, 10000)
	m := evolve.New(s)
	row := raised(t, timeOf(t, s, 5, drawn(pt(0, 0), "ooo")), 20)
	// Of a level so high from the start on that there is none of the lowest one.
	away := raised(t, timeOf(t, s, 5, nil), 62)
	var e error
	if away.Plane, e = away.Set(pt(far, 1), true); e != nil {
		t.Fatal(e)
	}
	last := row
	last.Gen = api.MaxGen
	fill(t, s, 0)
	wantFull(t, "no room", row, m, 1)
	wantFull(t, "no room", away, m, 0)
	wantError(t, "too many at once", row, m, clock.Far, api.ErrRange)
	wantError(t, "too many in all", last, m, 1, api.ErrRange)
	wantError(t, "not near", away, m, 1, api.ErrRange)
}

// wantFull checks that there is ErrFull, and no time.
func wantFull(t *testing.T, name string, x clock.Time, m *evolve.Memo, n uint64) {
	t.Helper()
	y, e := x.Step(m, n)
	if y != (clock.Time{}) || fault.Code(e) != api.ErrFull || !fault.Is(e, api.ErrFull) {
		t.Errorf("%s: %v, %v, want no time, ErrFull", name, y, e)
	}
}

// P11.1: where nothing is needed that isn't there, no room is needed.
func TestNoRoomNeeded(t *testing.T) {
	s := roomy(t, 3000)
	m := evolve.New(s)
	l := drawn(pt(3, 5), "ooo", "..o")
	x, none := timeOf(t, s, 0, l), raised(t, timeOf(t, s, 0, nil), 30)
	later := wantStep(t, "with room", x, m, 100, after(l, 100))
	fill(t, s, 0)
	wantStep(t, "no generation", x, m, 0, l)
	wantStep(t, "nothing", none, m, 0, nil)
	wantStep(t, "nothing", none, m, api.MaxGen, nil)
	if y := wantStep(t, "known", x, m, 100, after(l, 100)); y != later {
		t.Errorf("%v, and before %v", y, later)
	}
	wantFull(t, "not known", x, m, 1001)
}

// P11.1: with each room there is the right time, or ErrFull; and with more room afterwards the right one.
func TestFull(t *testing.T) {
	for _, c := range []struct {
		l []grid.Point
		n uint64
	}{
		{drawn(pt(0, 0), "ooo"), 0},
		{drawn(pt(0, 0), "ooo"), 1},
		{drawn(pt(-5, 9), "oo.", ".oo", ".o."), 2},
		{drawn(pt(7, 7), "oo.", ".oo", ".o."), 21},
		{glider(0, 0), 1<<20 + 1},
		{[]grid.Point{pt(0, 0), pt(1000, 0)}, 3},
		{nil, 1000},
	} {
		wantEachRoom(t, c.l, c.n)
	}
}

// wantEachRoom checks a step with each room, from none up to that in which it can be made.
func wantEachRoom(t *testing.T, l []grid.Point, n uint64) {
	t.Helper()
	want := course{"glider", l, 4, pt(1, 1)}.later(n)
	if n < 1000 {
		want = after(l, n)
	}
	s := roomy(t, 100000)
	x := raised(t, timeOf(t, s, 0, l), 14)
	before := s.Len()
	if _, e := x.Step(evolve.New(s), n); e != nil {
		t.Fatal(e)
	}
	need := s.Len() - before
	for room := 0; room <= need; room += 1 + need/200 {
		name := fmt.Sprintf("%v, room for %d, needed %d", l, room, need)
		s := roomy(t, before+need+1000)
		x := raised(t, timeOf(t, s, 0, l), 14)
		m, mark := evolve.New(s), s.Mark()
		fill(t, s, room)
		full := s.Mark()
		y, e := x.Step(m, n)
		if room == need {
			wantTime(t, name, s, y, e, n, want)
		} else if y != (clock.Time{}) || !fault.Is(e, api.ErrFull) {
			t.Errorf("%s: %v, %v, want ErrFull", name, y, e)
		}
		// As far as it is known now, it may do with less.
		s.Back(full)
		if y, e := x.Step(m, n); room == need || !fault.Is(e, api.ErrFull) {
			wantTime(t, name+", again", s, y, e, n, want)
		}
		s.Back(mark)
		wantStep(t, name+", more room", x, m, n, want)
	}
}

// P11.2: steps add up.
func TestAddUp(t *testing.T) {
	d := dice(12)
	for seed := range 30 {
		s := fresh(t, enough)
		m := evolve.New(s)
		x := timeOf(t, s, uint64(seed), d.thrown(1+d.below(20), 20+d.below(40)))
		var n uint64
		y := x
		for range 6 {
			more := uint64(d.below(1 << d.below(8)))
			var e error
			if y, e = y.Step(m, more); e != nil {
				t.Fatal(e)
			}
			n += more
			if z, e := x.Step(m, n); z != y || e != nil {
				t.Errorf("pattern %d, %d generations: %v, %v, and by steps %v", seed, n, z, e, y)
			}
			if z, e := x.Step(evolve.New(s), n); z != y || e != nil {
				t.Errorf("pattern %d, %d generations, of a new memo: %v, %v, and by steps %v", seed, n, z, e, y)
			}
		}
	}
}

// P11.2: great steps add up, of a pattern that grows for long, and of courses.
func TestGreatAddUp(t *testing.T) {
	for _, c := range append(courses(), course{name: "R", l: drawn(pt(0, 0), ".oo", "oo.", ".o.")}) {
		s := fresh(t, enough)
		m := evolve.New(s)
		x := timeOf(t, s, 0, c.l)
		for _, l := range [][]uint64{{1, 1102}, {700, 403}, {1103, 1}, {1 << 30, 1<<40 + 7}, {1 << 57, 1<<57 - 1}, {1<<57 - 1, 3, 1<<57 - 3}, {clock.Far - 100, 0, 99, 0}} {
			y, n := x, uint64(0)
			for _, more := range l {
				var e error
				if y, e = y.Step(m, more); e != nil {
					t.Fatal(e)
				}
				n += more
			}
			if z, e := x.Step(m, n); z != y || e != nil {
				t.Errorf("%s, %v: %v, %v, and by steps %v", c.name, l, z, e, y)
			}
		}
	}
}

// P11.2: generation by generation, for long, as in one step.
func TestOneByOne(t *testing.T) {
	s := fresh(t, enough)
	m := evolve.New(s)
	x := timeOf(t, s, 0, drawn(pt(0, 0), ".oo", "oo.", ".o."))
	y := x
	for n := range uint64(1200) {
		var e error
		if y, e = y.Step(m, 1); e != nil {
			t.Fatal(e)
		}
		if n%100 == 2 {
			if z, e := x.Step(m, n+1); z != y || e != nil {
				t.Errorf("%d generations: %v, %v, and one by one %v", n+1, z, e, y)
			}
		}
	}
	if y.Count(y.Root) != 116 || y.Gen != 1200 {
		t.Errorf("%d cells, generation %d", y.Count(y.Root), y.Gen)
	}
}

// P11.1: squares that were removed, and others made instead, leave a memo that is right.
func TestBack(t *testing.T) {
	d := dice(13)
	s := fresh(t, enough)
	m := evolve.New(s)
	if _, e := s.Empty(10); e != nil {
		t.Fatal(e)
	}
	mark := s.Mark()
	for n := range 60 {
		l := d.thrown(1+d.below(8), 50)
		gens := uint64(d.below(12))
		wantStep(t, fmt.Sprintf("pattern %d", n), timeOf(t, s, 0, l), m, gens, after(l, gens))
		if d.below(2) == 0 {
			s.Back(mark)
		}
	}
}

// P2: the same calls come to the same squares.
func TestSameCalls(t *testing.T) {
	var want []store.ID
	for range 3 {
		d := dice(14)
		s := fresh(t, enough)
		m := evolve.New(s)
		var got []store.ID
		for range 10 {
			x := timeOf(t, s, 0, d.thrown(10, 40))
			y, e := x.Step(m, uint64(d.below(100)))
			if e != nil {
				t.Fatal(e)
			}
			got = append(got, y.Root, store.ID(s.Len()))
		}
		if want == nil {
			want = got
		}
		if !slices.Equal(got, want) {
			t.Errorf("the same calls: %v, and before %v", got, want)
		}
	}
}
