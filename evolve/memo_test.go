package evolve_test

import (
	"fmt"
	"slices"
	"testing"

	"belvedere/api"
	"belvedere/evolve"
	"belvedere/fault"
	"belvedere/store"
)

// question is what Next is asked, and what it answered.
type question struct {
	x     store.ID
	power int
	y     store.ID
}

// asked asks for successors of several squares, with each power, and notes the answers.
func asked(t *testing.T, m *evolve.Memo, l ...store.ID) []question {
	t.Helper()
	var qs []question
	for _, x := range l {
		for power := range m.Level(x) - 1 {
			qs = append(qs, question{x, power, next(t, m, x, power)})
		}
	}
	return qs
}

// wantKnown checks that answers are known: they are as they were, and nothing is made.
func wantKnown(t *testing.T, name string, m *evolve.Memo, qs []question) {
	t.Helper()
	there, known := m.Len(), m.Known()
	for _, q := range qs {
		if y, e := m.Next(q.x, q.power); y != q.y || e != nil {
			t.Errorf("%s: Next(%d, %d) = %d, %v, want %d", name, q.x, q.power, y, e, q.y)
		}
	}
	if m.Len() != there || m.Known() != known {
		t.Errorf("%s: %d squares made, %d known, and %d before", name, m.Len()-there, m.Known(), known)
	}
}

// squares are some of different levels, in a store with nothing else.
func squares(t *testing.T, s *store.Store, d *dice) []store.ID {
	t.Helper()
	var l []store.ID
	for level := 2; level <= 5; level++ {
		for range 3 {
			l = append(l, d.thrown(level, 40).built(t, s))
		}
	}
	return append(l, raised(t, s, glider(4, 0).built(t, s), 9))
}

// P10.1: nothing is known at first, then what was computed, and nothing after Forget; it can be computed again.
func TestKnown(t *testing.T) {
	d := dice(20)
	s := fresh(t, enough)
	l := squares(t, s, &d)
	there := s.Len()
	m := evolve.New(s)
	if m == nil || m.Store != s || m.Known() != 0 || s.Len() != there {
		t.Fatalf("New = %v, %d known, %d squares made", m, m.Known(), s.Len()-there)
	}
	m.Forget()
	if m.Known() != 0 {
		t.Errorf("%d known", m.Known())
	}
	qs := asked(t, m, l...)
	if m.Known() < len(qs) {
		t.Errorf("%d known, of %d that were computed", m.Known(), len(qs))
	}
	wantKnown(t, "at once", m, qs)
	known := m.Known()
	m.Forget()
	if m.Known() != 0 {
		t.Errorf("%d known after Forget", m.Known())
	}
	there = s.Len()
	for _, q := range qs {
		if y := next(t, m, q.x, q.power); y != q.y {
			t.Errorf("after Forget Next(%d, %d) = %d, want %d", q.x, q.power, y, q.y)
		}
	}
	// All squares that were needed are there.
	if m.Known() != known || s.Len() != there {
		t.Errorf("%d known again, and %d before, %d squares made", m.Known(), known, s.Len()-there)
	}
}

// P10.1: the successor of a small square is one more that is known, of each square once.
func TestKnownOfSmall(t *testing.T) {
	s := fresh(t, enough)
	m := evolve.New(s)
	d := dice(21)
	seen := make(map[store.ID]bool)
	for range 100 {
		x := d.thrown(2, 40).built(t, s)
		seen[x] = true
		next(t, m, x, 0)
		if m.Known() != len(seen) {
			t.Fatalf("%d known, of %d squares", m.Known(), len(seen))
		}
	}
}

// P10.1: memos of one store know nothing of each other.
func TestTwoMemos(t *testing.T) {
	d := dice(22)
	s := fresh(t, enough)
	l := squares(t, s, &d)
	a, b := evolve.New(s), evolve.New(s)
	qs := asked(t, a, l...)
	if b.Known() != 0 {
		t.Errorf("%d known", b.Known())
	}
	if !slices.Equal(asked(t, b, l...), qs) {
		t.Error("another memo of the store has other successors")
	}
	a.Forget()
	if a.Known() != 0 || b.Known() == 0 {
		t.Errorf("%d and %d known", a.Known(), b.Known())
	}
	wantKnown(t, "the other one", b, qs)
}

// P10.1: squares of the memo are those of the store, and the other way round.
func TestEmbedded(t *testing.T) {
	s := fresh(t, enough)
	m := evolve.New(s)
	b := drawn(3, "", "", "", "...oo", "...oo")
	k, _ := s.Of(b.built(t, s))
	x, e := m.Make(k)
	if e != nil || !s.Is(x) || s.Level(x) != 3 || m.Count(x) != 4 {
		t.Fatalf("Make(%v) = %d, %v", k, x, e)
	}
	y := next(t, m, x, 0)
	if !s.Is(y) || s.Count(y) != 4 || m.Len() != s.Len() {
		t.Errorf("Next = %d", y)
	}
}

// P10.3: the successor doesn't depend on what was computed before, in any order.
func TestOrder(t *testing.T) {
	for seed := range 20 {
		d := dice(100 + seed)
		s := fresh(t, enough)
		qs := asked(t, evolve.New(s), squares(t, s, &d)...)
		m := evolve.New(s)
		for range 3 * len(qs) {
			q := qs[d.below(len(qs))]
			if y := next(t, m, q.x, q.power); y != q.y {
				t.Errorf("Next(%d, %d) = %d, want %d", q.x, q.power, y, q.y)
			}
			if y := next(t, evolve.New(s), q.x, q.power); y != q.y {
				t.Errorf("of a new memo Next(%d, %d) = %d, want %d", q.x, q.power, y, q.y)
			}
			if d.below(10) == 0 {
				m.Forget()
			}
		}
	}
}

// P10.3: generations add up.
func TestAddUp(t *testing.T) {
	d := dice(23)
	s := fresh(t, enough)
	m := evolve.New(s)
	for level := 4; level <= 8; level++ {
		x := d.thrown(level, 35).built(t, s)
		for power := 0; power <= level-4; power++ {
			twice := next(t, m, next(t, m, x, power), power)
			once := shown(s, next(t, m, x, power+1)).middle().built(t, s)
			if twice != once {
				t.Errorf("level %d: twice power %d is %d, want %d", level, power, twice, once)
			}
		}
	}
}

// P2: the same calls make the same squares, and know as many.
func TestSameCalls(t *testing.T) {
	var want []question
	var there, known int
	for range 5 {
		d := dice(24)
		s := fresh(t, enough)
		m := evolve.New(s)
		qs := asked(t, m, squares(t, s, &d)...)
		if want == nil {
			want, there, known = qs, s.Len(), m.Known()
		}
		if !slices.Equal(qs, want) || s.Len() != there || m.Known() != known {
			t.Errorf("the same calls: %v, %d squares, %d known, and before %v, %d, %d", qs, s.Len(), m.Known(), want, there, known)
		}
	}
}

// copier copies squares of a store, with all their parts, to another one; and it tells the number of one that was copied.
func copier(t *testing.T, s, to *store.Store) (copied func(x store.ID) store.ID, now func(x store.ID) (store.ID, bool)) {
	t.Helper()
	there := map[store.ID]store.ID{store.Dead: store.Dead, store.Alive: store.Alive}
	copied = func(x store.ID) store.ID {
		if y, is := there[x]; is {
			return y
		}
		k, _ := s.Of(x)
		for i, y := range k {
			k[i] = copied(y)
		}
		there[x] = made(t, to, k)
		return there[x]
	}
	now = func(x store.ID) (store.ID, bool) {
		y, is := there[x]
		return y, is
	}
	return copied, now
}

// move is another store, which has those squares of a store that are told, and their parts; and a function of their numbers there.
func move(t *testing.T, s *store.Store, most int, told []store.ID) (*store.Store, func(x store.ID) (store.ID, bool)) {
	t.Helper()
	to := fresh(t, most)
	copied, now := copier(t, s, to)
	for _, x := range told {
		copied(x)
	}
	return to, now
}

// needed are all squares that answers have.
func needed(qs []question) []store.ID {
	var l []store.ID
	for _, q := range qs {
		l = append(l, q.x, q.y)
	}
	return l
}

// moved are answers in the numbers that squares have now.
func moved(qs []question, now func(x store.ID) (store.ID, bool)) []question {
	var l []question
	for _, q := range qs {
		x, is := now(q.x)
		y, too := now(q.y)
		if is && too {
			l = append(l, question{x, q.power, y})
		}
	}
	return l
}

// P10.2: with the same numbers all is as before.
func TestChangeToTheSame(t *testing.T) {
	d := dice(30)
	s := fresh(t, enough)
	m := evolve.New(s)
	qs := asked(t, m, squares(t, s, &d)...)
	there, known := s.Len(), m.Known()
	m.Change(func(x store.ID) (store.ID, bool) { return x, true })
	if s.Len() != there || m.Known() != known {
		t.Errorf("%d squares made, %d known, and %d before", s.Len()-there, m.Known(), known)
	}
	wantKnown(t, "the same numbers", m, qs)
}

// P10.2: with the numbers of another store what is known goes on to be known there, even without room.
func TestChangeToOthers(t *testing.T) {
	for seed := range 10 {
		d := dice(300 + seed)
		s := fresh(t, enough)
		m := evolve.New(s)
		qs := asked(t, m, squares(t, s, &d)...)
		l := needed(qs)
		for i := range l {
			j := d.below(i + 1)
			l[i], l[j] = l[j], l[i]
		}
		to, now := move(t, s, enough, l)
		to, now = move(t, s, to.Len(), l)
		all := moved(qs, now)
		if len(all) != len(qs) || slices.Equal(all, qs) || to.Room() != 0 {
			t.Fatal("the test's numbers don't do")
		}
		m.Store = to
		m.Change(now)
		wantKnown(t, "other numbers", m, all)
		if m.Known() < len(all) || to.Room() != 0 {
			t.Errorf("%d known, want at least %d", m.Known(), len(all))
		}
		// There and back.
		m.Store = s
		m.Change(func(x store.ID) (store.ID, bool) {
			for y := range store.ID(s.Len()) {
				if z, there := now(y); there && z == x {
					return y, true
				}
			}
			return 0, false
		})
		wantKnown(t, "back", m, qs)
	}
}

// P10.2: what isn't there any more is forgotten, all of it or some; the rest is known, and all can be computed.
func TestChangeForgets(t *testing.T) {
	for seed := range 10 {
		d := dice(320 + seed)
		s := fresh(t, enough)
		m := evolve.New(s)
		qs := asked(t, m, squares(t, s, &d)...)
		var kept []question
		for _, q := range qs {
			if d.below(2) == 0 {
				kept = append(kept, q)
			}
		}
		to, now := move(t, s, enough, needed(kept))
		m.Store = to
		m.Change(now)
		wantKnown(t, "kept", m, moved(kept, now))
		copied, _ := copier(t, s, to)
		for _, q := range qs {
			x, want := copied(q.x), copied(q.y)
			if y := next(t, m, x, q.power); y != want {
				t.Errorf("after the change Next(%d, %d) = %d, want %d", x, q.power, y, want)
			}
		}
		m.Change(func(x store.ID) (store.ID, bool) { return x, false })
		if m.Known() != 0 {
			t.Errorf("%d known, and all was forgotten", m.Known())
		}
	}
}

// P10.2: what is forgotten is exactly that of a square that isn't there any more, or of a successor that isn't.
func TestChangeForgetsExactly(t *testing.T) {
	s := fresh(t, enough)
	d := dice(25)
	var l []store.ID
	for range 40 {
		l = append(l, d.thrown(2, 40).built(t, s))
	}
	m := evolve.New(s)
	qs := asked(t, m, l...)
	all := m.Known()
	for _, gone := range needed(qs) {
		want := make(map[question]bool)
		var left []question
		for _, q := range qs {
			if q.x != gone && q.y != gone {
				want[q] = true
				left = append(left, q)
			}
		}
		m.Change(func(x store.ID) (store.ID, bool) {
			// The number beside false means nothing.
			return x, x != gone
		})
		if m.Known() != len(want) || m.Known() == all {
			t.Errorf("without %d: %d known, want %d", gone, m.Known(), len(want))
		}
		wantKnown(t, "left", m, left)
		asked(t, m, l...)
		if m.Known() != all {
			t.Errorf("%d known, want %d", m.Known(), all)
		}
	}
	wantKnown(t, "all again", m, qs)
}

// P10.2: Change asks for squares that are known alone, and always in the same order.
func TestChangeAsks(t *testing.T) {
	var first []store.ID
	for range 5 {
		d := dice(26)
		s := fresh(t, enough)
		m := evolve.New(s)
		asked(t, m, squares(t, s, &d)...)
		var l []store.ID
		m.Change(func(x store.ID) (store.ID, bool) {
			l = append(l, x)
			return x, true
		})
		if first == nil {
			first = l
		}
		if !slices.Equal(l, first) {
			t.Fatal("the same Change asked in another order")
		}
		for _, x := range l {
			if !s.Is(x) || s.Level(x) < 1 {
				t.Errorf("Change asked for %d, of level %d", x, s.Level(x))
			}
		}
	}
	m := evolve.New(fresh(t, enough))
	m.Change(func(x store.ID) (store.ID, bool) {
		t.Errorf("Change asked for %d, and nothing is known", x)
		return x, true
	})
}

// No function of numbers: nothing is done.
func TestChangeByNothing(t *testing.T) {
	d := dice(27)
	s := fresh(t, enough)
	m := evolve.New(s)
	m.Change(nil)
	qs := asked(t, m, squares(t, s, &d)...)
	m.Change(nil)
	if m.Known() < len(qs) {
		t.Errorf("%d known", m.Known())
	}
	wantKnown(t, "as before", m, qs)
}

// P10.1: with each room: it is there, or ErrFull; with what was computed on the way, or another store, it is right afterwards.
func TestFull(t *testing.T) {
	d := dice(28)
	for level := 2; level <= 6; level++ {
		for power := 0; power <= level-2; power++ {
			wantFull(t, fmt.Sprintf("level %d, power %d", level, power), d.thrown(level, 40), power)
		}
	}
	wantFull(t, "glider", glider(5, -4), 3)
	wantFull(t, "glider, large square", glider(7, 2), 0)
}

// wantFull checks a successor with each room up to that in which it can be made.
func wantFull(t *testing.T, name string, b board, power int) {
	t.Helper()
	s := fresh(t, enough)
	x := b.built(t, s)
	before := s.Len()
	next(t, evolve.New(s), x, power)
	need := s.Len() - before
	want := b.after(power, false)
	// Where much is needed some rooms do.
	hop := 1 + need/25
	for room := 0; room <= need; room += hop {
		s := fresh(t, before+room)
		m := evolve.New(s)
		wantNone(t, name, m, b.built(t, s), power, room < need)
		if room < need {
			wantNone(t, name+" again", m, x, power, true)
		} else {
			wantNext(t, name, m, x, power, want)
		}
		// More room, in a store that has the same squares.
		more, now := move(t, s, enough, seq(s.Len()))
		m.Store = more
		m.Change(now)
		x, _ := now(x)
		wantNext(t, name+", more room", m, x, power, want)
	}
	for _, room := range []int{need, need + 1, need + 1000} {
		s := fresh(t, before+room)
		wantNext(t, name+", enough room", evolve.New(s), b.built(t, s), power, want)
	}
}

// seq are the numbers of so many squares.
func seq(n int) []store.ID {
	var l []store.ID
	for x := range store.ID(n) {
		l = append(l, x)
	}
	return l
}

// wantNone checks whether there is ErrFull, and then nothing else, and that no square was changed.
func wantNone(t *testing.T, name string, m *evolve.Memo, x store.ID, power int, full bool) {
	t.Helper()
	b := shown(m.Store, x)
	y, e := m.Next(x, power)
	if full && (y != 0 || fault.Code(e) != api.ErrFull || !fault.Is(e, api.ErrFull) || m.Room() != 0) {
		t.Errorf("%s: Next(%d, %d) = %d, %v, room for %d more, want 0, ErrFull", name, x, power, y, e, m.Room())
	}
	if !full && e != nil {
		t.Errorf("%s: Next(%d, %d) = %d, %v", name, x, power, y, e)
	}
	if !shown(m.Store, x).same(b) {
		t.Errorf("%s: square %d has other cells than before", name, x)
	}
}

// P10.1: in a full store what was computed is there still.
func TestKnownWithoutRoom(t *testing.T) {
	b := glider(5, 0)
	s := fresh(t, enough)
	m := evolve.New(s)
	y := next(t, m, b.built(t, s), 3)
	most := s.Len()
	s = fresh(t, most)
	m = evolve.New(s)
	x := b.built(t, s)
	if z := next(t, m, x, 3); z != y || s.Room() != 0 {
		t.Fatalf("Next = %d, want %d, room for %d more", z, y, s.Room())
	}
	if z, e := m.Next(x, 0); z != 0 || !fault.Is(e, api.ErrFull) {
		t.Errorf("with another power: %d, %v", z, e)
	}
	wantKnown(t, "no room", m, []question{{x, 3, y}})
}

// P10.3: squares that the store removed may have other numbers when they are made again.
func TestRemoved(t *testing.T) {
	for power := range 4 {
		s := fresh(t, enough)
		b := glider(5, 0)
		m := evolve.New(s)
		x := b.built(t, s)
		mark := s.Mark()
		// Squares that are in between, so that what is found has other numbers afterwards.
		if _, e := s.Empty(20); e != nil {
			t.Fatal(e)
		}
		want := b.after(power, false)
		wantNext(t, "before", m, x, power, want)
		s.Back(mark)
		wantNext(t, "after", m, x, power, want)
		for other := range 4 {
			wantNext(t, "after", m, x, other, b.after(other, false))
		}
	}
}

// fill makes squares until there is room for so many more.
func fill(t *testing.T, s *store.Store, room int) {
	t.Helper()
	var l []store.ID
	for n := 0; s.Room() > room; n++ {
		if n < 16 {
			l = append(l, made(t, s, store.Kids{store.ID(n & 1), store.ID(n >> 1 & 1), store.ID(n >> 2 & 1), store.ID(n >> 3)}))
		} else {
			made(t, s, store.Kids{l[n&15], l[n>>4&15], l[n>>8&15], l[n>>12]})
		}
	}
}

// P10.1, P10.3: no room, then squares are removed, and there is room.
func TestRemovedForRoom(t *testing.T) {
	b := glider(6, -3)
	s := fresh(t, enough)
	b.built(t, s)
	mark := s.Mark()
	for power := range 5 {
		want := b.after(power, false)
		for room := 0; room < 200; room += 3 {
			s := fresh(t, int(mark)+400)
			x := b.built(t, s)
			fill(t, s, room)
			m := evolve.New(s)
			m.Next(x, power)
			s.Back(mark)
			wantNext(t, fmt.Sprintf("power %d, room %d", power, room), m, x, power, want)
		}
	}
}

// P10.1: what is known of squares that stay is known after others were removed.
func TestKnownOfWhatStays(t *testing.T) {
	s := fresh(t, enough)
	m := evolve.New(s)
	b := glider(5, 0)
	q := question{b.built(t, s), 3, b.after(3, false).built(t, s)}
	mark := s.Mark()
	if y := next(t, m, q.x, q.power); y != q.y || s.Len() == int(mark) {
		t.Fatalf("Next(%d, %d) = %d, want %d, %d squares made", q.x, q.power, y, q.y, s.Len()-int(mark))
	}
	s.Back(mark)
	there := s.Len()
	if y := next(t, m, q.x, q.power); y != q.y || s.Len() != there || m.Known() < 1 {
		t.Errorf("Next(%d, %d) = %d, want %d, %d squares made", q.x, q.power, y, q.y, s.Len()-there)
	}
}

// P10.2, P10.3: the other store has more squares, of which some are removed.
func TestRemovedAfterChange(t *testing.T) {
	s := fresh(t, enough)
	m := evolve.New(s)
	b := glider(5, 0)
	x := b.built(t, s)
	want := b.after(3, false)
	wantNext(t, "before", m, x, 3, want)
	to := fresh(t, enough)
	fill(t, to, enough-1000)
	copied, now := copier(t, s, to)
	copied(x)
	mark := to.Mark()
	for y := range store.ID(s.Len()) {
		copied(y)
	}
	m.Store = to
	m.Change(now)
	known := m.Known()
	to.Back(mark)
	if _, e := to.Empty(20); e != nil {
		t.Fatal(e)
	}
	wantNext(t, "after", m, copied(x), 3, want)
	if known == 0 {
		t.Error("nothing was known")
	}
}
