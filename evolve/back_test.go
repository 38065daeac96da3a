package evolve_test

import (
	"cmp"
	"fmt"
	"slices"
	"testing"

	"belvedere/base"
	"belvedere/evolve"
	"belvedere/store"
)

// begun is a store that has what grow needs, and a memo of it.
func begun(t *testing.T) (*store.Store, *evolve.Memo) {
	t.Helper()
	s := fresh(t, enough)
	towers(t, s)
	return s, evolve.New(s)
}

// wantLikeNew checks a successor against its cells, and against what a new memo of the store tells.
func wantLikeNew(t *testing.T, name string, m *evolve.Memo, x store.ID, power int, want board) {
	t.Helper()
	y := wantNext(t, name, m, x, power, want)
	if z := next(t, evolve.New(m.Store), x, power); z != y {
		t.Errorf("%s: Next(%d, %d) = %d, and of a new memo %d", name, x, power, y, z)
	}
}

// P10.1, P10.3: four corners are gone, and a block in the middle has their number.
func TestNumberOfAnother(t *testing.T) {
	s := fresh(t, 1000)
	if _, e := s.Empty(1); e != nil {
		t.Fatal(e)
	}
	m := evolve.New(s)
	mark := s.Mark()
	corners, e := base.Square(s, 0x9009)
	if e != nil {
		t.Fatal(e)
	}
	wantNext(t, "corners", m, corners, 0, drawn(1))
	there := s.Len()
	s.Back(mark)
	block, e := base.Square(s, 0x0660)
	if e != nil || block != corners || s.Len() != there {
		t.Fatalf("the block is square %d, %v, of %d, and the corners were %d, of %d", block, e, s.Len(), corners, there)
	}
	wantLikeNew(t, "block", m, block, 0, drawn(1, "oo", "oo"))
	if m.Known() != 1 {
		t.Errorf("%d known", m.Known())
	}
}

// P10.1, P10.3: squares of each level and with each power get numbers of others, where the store has fewer squares than before, as many, or more.
func TestNumbersOfOthers(t *testing.T) {
	d := dice(40)
	for level := 2; level <= 6; level++ {
		for power := range level - 1 {
			sizes := make(map[int]int)
			for n := range 12 {
				sizes[backAndAgain(t, &d, level, power, n%3)]++
			}
			if sizes[-1] == 0 || sizes[0] == 0 || sizes[1] == 0 {
				t.Errorf("level %d, power %d: fewer, as many, more: %v", level, power, sizes)
			}
		}
	}
}

// backAndAgain makes a square, goes back, and makes another one, which has the same number, and then up to as many squares as before, or more, or no other; it is how many there are then, compared with before.
func backAndAgain(t *testing.T, d *dice, level, power, others int) int {
	t.Helper()
	s, m := begun(t)
	mark := s.Mark()
	a := d.thrown(level, 40)
	x := a.built(t, s)
	wantNext(t, "before", m, x, power, a.after(power, false))
	there := s.Len()
	s.Back(mark)
	b := d.thrown(level, 40)
	if b.cost(t) > int(x)-int(mark) {
		// Another square that needs no more than there was.
		b = a.turned()
	}
	k := b.quarters(t, s)
	grow(t, s, int(x))
	if y := made(t, s, k); y != x {
		t.Fatalf("level %d: square %d, and before %d", level, y, x)
	}
	switch others {
	case 1:
		grow(t, s, there)
	case 2:
		grow(t, s, there+1+d.below(20))
	}
	now := s.Len()
	wantLikeNew(t, fmt.Sprintf("level %d, power %d, %d squares, %d before", level, power, now, there), m, x, power, b.after(power, false))
	return cmp.Compare(now, there)
}

// turned is a board upside down.
func (b board) turned() board {
	var l board
	for y := range b {
		l = append(l, b[len(b)-1-y])
	}
	return l
}

// quarters are the four squares of a board.
func (b board) quarters(t *testing.T, s *store.Store) store.Kids {
	t.Helper()
	half := len(b) / 2
	var k store.Kids
	for i := range k {
		k[i] = b.part(half*(i&1), half*(i>>1), half).built(t, s)
	}
	return k
}

// cost is how many squares the quarters of a board need.
func (b board) cost(t *testing.T) int {
	t.Helper()
	s, _ := begun(t)
	mark := s.Mark()
	b.quarters(t, s)
	return int(s.Mark() - mark)
}

// grow makes squares of levels beyond those of boards, until there are so many squares.
func grow(t *testing.T, s *store.Store, most int) {
	t.Helper()
	var l []store.ID
	for n := 0; s.Len() < most; n++ {
		if n < 16 {
			l = append(l, made(t, s, four(n, towers(t, s))))
		} else {
			made(t, s, four(n, l))
		}
	}
}

// four are four of a list of squares, by the digits of a number.
func four(n int, l []store.ID) store.Kids {
	var k store.Kids
	for i := range k {
		k[i] = l[n%len(l)]
		n /= len(l)
	}
	return k
}

// towers are the squares of level 8 that are all dead, and all alive.
func towers(t *testing.T, s *store.Store) []store.ID {
	t.Helper()
	l := []store.ID{store.Dead, store.Alive}
	for range 8 {
		for i, x := range l {
			l[i] = made(t, s, store.Kids{x, x, x, x})
		}
	}
	return l
}

// P10.3: a square has the same four numbers as before, but those are of other squares, one or more levels below.
func TestPartsOfAnotherNumber(t *testing.T) {
	for level := 3; level <= 7; level++ {
		for power := range level - 1 {
			s, m := begun(t)
			mark := s.Mark()
			a := alike(drawn(2, "oo..", "....", "..oo", "...."), level)
			x := a.built(t, s)
			wantNext(t, "before", m, x, power, a.after(power, false))
			s.Back(mark)
			b := alike(drawn(2, "o...", "o...", "..o.", "..o."), level)
			if y := b.built(t, s); y != x {
				t.Fatalf("level %d: square %d, and before %d", level, y, x)
			}
			wantLikeNew(t, fmt.Sprintf("level %d, power %d", level, power), m, x, power, b.after(power, false))
		}
	}
}

// alike is a board of a level that has the same small one everywhere.
func alike(small board, level int) board {
	b := dead(1 << level)
	for y, row := range b {
		for x := range row {
			row[x] = small[y%len(small)][x%len(small)]
		}
	}
	return b
}

// P10.1, P10.3: a square stays, and its successor is gone, whether or not another square has its number.
func TestSuccessorOfAnotherNumber(t *testing.T) {
	d := dice(41)
	for level := 2; level <= 6; level++ {
		for power := range level - 1 {
			for _, more := range []int{0, 1, 5, 1000} {
				s, m := begun(t)
				b := d.thrown(level, 40)
				x := b.built(t, s)
				mark := s.Mark()
				want := b.after(power, false)
				wantNext(t, "before", m, x, power, want)
				s.Back(mark)
				grow(t, s, int(mark)+more)
				if d.below(2) == 0 {
					m.Change(func(x store.ID) (store.ID, bool) { return x, true })
				}
				wantLikeNew(t, fmt.Sprintf("level %d, power %d, %d others", level, power, more), m, x, power, want)
			}
		}
	}
}

// P10.3: of a larger square with the same parts only some have successors of others now.
func TestSuccessorsOfParts(t *testing.T) {
	d := dice(42)
	for level := 3; level <= 6; level++ {
		for power := range level - 1 {
			s, m := begun(t)
			b := d.thrown(level, 40)
			k := b.quarters(t, s)
			for _, x := range k {
				for p := range level - 2 {
					next(t, m, x, p)
				}
			}
			mark := s.Mark()
			x := made(t, s, k)
			wantNext(t, "before", m, x, power, b.after(power, false))
			s.Back(mark)
			c := b.turned()
			y := c.built(t, s)
			name := fmt.Sprintf("level %d, power %d", level, power)
			wantLikeNew(t, name+", turned", m, y, power, c.after(power, false))
			wantLikeNew(t, name, m, made(t, s, k), power, b.after(power, false))
			wantLikeNew(t, name+", turned again", m, y, power, c.after(power, false))
		}
	}
}

// P10.1: squares that are made again as they were have successors that are known, if these are there too.
func TestMadeAgainTheSame(t *testing.T) {
	for level := 2; level <= 6; level++ {
		d := dice(430 + level)
		s, m := begun(t)
		mark := s.Mark()
		b := d.thrown(level, 40)
		qs := asked(t, m, b.built(t, s))
		known := m.Known()
		s.Back(mark)
		asked(t, evolve.New(s), b.built(t, s))
		wantKnown(t, fmt.Sprintf("level %d", level), m, qs)
		if m.Known() != known {
			t.Errorf("level %d: %d known, and %d before", level, m.Known(), known)
		}
	}
}

// P10.1: what is known of squares that stay is known, whatever the others' numbers are now.
func TestKnownBesideOthers(t *testing.T) {
	d := dice(44)
	s, m := begun(t)
	stays := asked(t, m, d.thrown(5, 40).built(t, s))
	known := m.Known()
	a := d.thrown(3, 40)
	b := a.turned()
	k, turned := a.quarters(t, s), b.quarters(t, s)
	mark := s.Mark()
	x := made(t, s, k)
	wantNext(t, "before", m, x, 0, a.after(0, false))
	all := m.Known()
	s.Back(mark)
	if y := made(t, s, turned); y != x {
		t.Fatalf("square %d, and before %d", y, x)
	}
	wantLikeNew(t, "turned", m, x, 0, b.after(0, false))
	if all <= known || m.Known() <= known {
		t.Errorf("%d known, then %d, then %d", known, all, m.Known())
	}
	wantKnown(t, "stays", m, stays)
}

// P10.1: what was found of squares that are gone isn't known any more.
func TestKnownOfWhatIsGone(t *testing.T) {
	d := dice(45)
	s, m := begun(t)
	b := drawn(2, ".o..", ".o..", ".o..", "....")
	x := b.built(t, s)
	want := wantNext(t, "before", m, x, 0, b.after(0, false))
	mark := s.Mark()
	for range 10 {
		next(t, m, d.thrown(2, 40).built(t, s), 0)
	}
	if m.Known() != 11 {
		t.Errorf("%d known, want 11", m.Known())
	}
	s.Back(mark)
	if y := next(t, m, x, 0); y != want || m.Known() != 1 {
		t.Errorf("Next = %d, want %d, %d known", y, want, m.Known())
	}
}

// P10.2, P10.3: what Change told is held against what squares are later, as what was computed is.
func TestOthersBehindChange(t *testing.T) {
	a, b := drawn(2, "oo..", "....", "..oo", "...."), drawn(2, "o...", "o...", "..o.", "..o.")
	for level := 2; level <= 6; level++ {
		for power := range level - 1 {
			s, m := begun(t)
			x := alike(a, level).built(t, s)
			next(t, m, x, power)
			to, _ := begun(t)
			mark := to.Mark()
			copied, now := copier(t, s, to)
			copied(x)
			there := to.Len()
			for y := range store.ID(s.Len()) {
				copied(y)
			}
			m.Store = to
			m.Change(now)
			if power%2 == 0 {
				// A call for which nothing of it is needed.
				next(t, m, towers(t, to)[1], 0)
			}
			to.Back(mark)
			y, c := alike(b, level).built(t, to), alike(b, level)
			if z, _ := now(x); z != y || to.Len() > there {
				t.Fatalf("level %d: square %d, and before %d", level, y, z)
			}
			grow(t, to, there+100)
			wantLikeNew(t, fmt.Sprintf("level %d, power %d", level, power), m, y, power, c.after(power, false))
		}
	}
}

// P10.2, P10.3: of what Change told, a square stays, and its successor's number is another's, or the other way round.
func TestOthersBehindChangeInPart(t *testing.T) {
	d := dice(53)
	for level := 2; level <= 6; level++ {
		for power := range level - 1 {
			a := d.thrown(level, 40)
			b := a.turned()
			s, m := begun(t)
			x := a.built(t, s)
			y := next(t, m, x, power)
			for n := range 4 {
				to, _ := begun(t)
				copied, now := copier(t, s, to)
				first, last := x, y
				if n%2 == 1 {
					first, last = y, x
				}
				copied(first)
				k, turned := a.quarters(t, to), b.quarters(t, to)
				mark := to.Mark()
				copied(last)
				m.Store = to
				m.Change(now)
				if n > 1 {
					// A call for which nothing of it is needed.
					next(t, m, towers(t, to)[1], 0)
				}
				to.Back(mark)
				name := fmt.Sprintf("level %d, power %d, %d", level, power, n)
				wantLikeNew(t, name+", turned", m, made(t, to, turned), power, b.after(power, false))
				grow(t, to, to.Len()+20)
				wantLikeNew(t, name, m, made(t, to, k), power, a.after(power, false))
				// In the numbers of the first store again.
				m.Forget()
				m.Store = s
				next(t, m, x, power)
			}
		}
	}
}

// reordered copies what answers have to a store, the last ones first, so that the numbers are others; it is the answers in these numbers.
func reordered(t *testing.T, s, to *store.Store, qs []question) ([]question, func(x store.ID) (store.ID, bool)) {
	t.Helper()
	copied, now := copier(t, s, to)
	for _, q := range slices.Backward(qs) {
		copied(q.x)
		copied(q.y)
	}
	all := moved(qs, now)
	if len(all) != len(qs) || slices.Equal(all, qs) {
		t.Fatal("the test's numbers don't do")
	}
	return all, now
}

// P10.2: the memo may also get the other store after Change; what is known is known there.
func TestStoreBehindChange(t *testing.T) {
	for _, others := range []int{0, 40, 1000} {
		d := dice(46)
		s, m := begun(t)
		qs := asked(t, m, squares(t, s, &d)...)
		to := fresh(t, enough)
		grow(t, to, others)
		all, now := reordered(t, s, to, qs)
		m.Change(now)
		m.Store = to
		wantKnown(t, "another store", m, all)
	}
}

// P10.3: another store, whose squares are others, without Change.
func TestStoreWithoutChange(t *testing.T) {
	for seed := range 5 {
		d := dice(480 + seed)
		s, m := begun(t)
		asked(t, m, squares(t, s, &d)...)
		m.Store, _ = begun(t)
		for _, x := range squares(t, m.Store, &d) {
			if y, z := next(t, m, x, 0), next(t, evolve.New(m.Store), x, 0); y != z {
				t.Errorf("Next(%d, 0) = %d, and of a new memo %d", x, y, z)
			}
		}
	}
}

// P10.2, P10.3: what was found of squares that are gone isn't known of those that have their numbers when Change is called.
func TestChangeOfOthers(t *testing.T) {
	d := dice(49)
	for level := 3; level <= 6; level++ {
		for power := range level - 1 {
			s, m := begun(t)
			a := d.thrown(level, 40)
			b := a.turned()
			k, turned := a.quarters(t, s), b.quarters(t, s)
			mark := s.Mark()
			x := made(t, s, k)
			wantNext(t, "before", m, x, power, a.after(power, false))
			there := s.Len()
			s.Back(mark)
			if y := made(t, s, turned); y != x {
				t.Fatalf("level %d: square %d, and before %d", level, y, x)
			}
			grow(t, s, there)
			name := fmt.Sprintf("level %d, power %d", level, power)
			if d.below(2) == 0 {
				m.Change(func(x store.ID) (store.ID, bool) { return x, true })
			} else {
				to, now := move(t, s, enough, seq(s.Len()))
				m.Store = to
				m.Change(now)
				x, _ = now(x)
			}
			wantLikeNew(t, name, m, x, power, b.after(power, false))
		}
	}
}

// P10.2: Change is called once more before the next call, of the same store, or of another one.
func TestChangeTwice(t *testing.T) {
	d := dice(50)
	s, m := begun(t)
	qs := asked(t, m, squares(t, s, &d)...)
	for n := range 4 {
		to := fresh(t, enough)
		grow(t, to, 100*(n%2))
		all, now := reordered(t, m.Store, to, qs)
		m.Change(now)
		m.Store = to
		if n%2 == 0 {
			m.Change(func(x store.ID) (store.ID, bool) { return x, true })
		}
		if qs = all; n > 1 {
			wantKnown(t, fmt.Sprintf("store %d", n), m, qs)
		}
	}
}

// P10.2: the same store, in which squares were made again in another order.
func TestChangeBehindBack(t *testing.T) {
	d := dice(51)
	s, m := begun(t)
	mark := s.Mark()
	qs := asked(t, m, squares(t, s, &d)...)
	old, _ := move(t, s, enough, seq(s.Len()))
	if old.Len() != s.Len() {
		t.Fatal("the test's copy doesn't do")
	}
	s.Back(mark)
	all, now := reordered(t, old, s, qs)
	m.Change(now)
	wantKnown(t, "another order", m, all)
}

// P10.2: squares so large that they can't be gone through part by part.
func TestChangeOfHighLevels(t *testing.T) {
	s, m := begun(t)
	x, e := s.Empty(60)
	if e != nil {
		t.Fatal(e)
	}
	qs := []question{{x, 0, next(t, m, x, 0)}, {x, 58, next(t, m, x, 58)}}
	to := fresh(t, enough)
	grow(t, to, 100)
	copied, now := copier(t, s, to)
	copied(x)
	m.Store = to
	m.Change(now)
	wantKnown(t, "level 60", m, moved(qs, now))
}

// P10.2: what Change says falsely isn't known.
func TestFalseChange(t *testing.T) {
	d := dice(52)
	s, m := begun(t)
	var boards []board
	for range 10 {
		boards = append(boards, d.thrown(3, 40))
	}
	var l []store.ID
	for _, b := range boards {
		l = append(l, b.built(t, s))
	}
	asked(t, m, l...)
	for _, by := range []store.ID{1, 5, 20, enough, 0} {
		m.Change(func(x store.ID) (store.ID, bool) { return x + by, true })
		for i, x := range l {
			for power := range 2 {
				wantLikeNew(t, fmt.Sprintf("%d more", by), m, x, power, boards[i].after(power, false))
			}
		}
	}
}

// P10.1, P10.3: back and on, again and again, of two memos of one store.
func TestBackAgainAndAgain(t *testing.T) {
	for seed := range 6 {
		d := dice(470 + seed)
		s, m := begun(t)
		other := evolve.New(s)
		marks := []store.Mark{s.Mark()}
		var boards []board
		for range 4 {
			boards = append(boards, d.thrown(2+d.below(4), 40))
		}
		for n := range 150 {
			switch d.below(4) {
			case 0:
				mark := marks[d.below(len(marks))]
				s.Back(mark)
			case 1:
				marks = append(marks, s.Mark())
			case 2:
				grow(t, s, s.Len()+d.below(3))
			}
			b := boards[d.below(len(boards))]
			if d.below(2) == 0 {
				b = b.turned()
			}
			x, power := b.built(t, s), d.below(sideLevel(b)-1)
			name := fmt.Sprintf("seed %d, call %d", seed, n)
			wantLikeNew(t, name, m, x, power, b.after(power, false))
			if d.below(3) == 0 {
				wantLikeNew(t, name+", another memo", other, x, power, b.after(power, false))
			}
		}
	}
}

// sideLevel is the level of a board.
func sideLevel(b board) int {
	level := 0
	for 1<<level < len(b) {
		level++
	}
	return level
}
