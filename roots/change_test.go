package roots_test

import (
	"fmt"
	"slices"
	"testing"

	"belvedere/api"
	"belvedere/fault"
	"belvedere/roots"
	"belvedere/store"
)

// P12.1: Change replaces the squares for which now returns true, by now's.
func TestChange(t *testing.T) {
	for name, c := range map[string]struct {
		now  func(x store.ID) (store.ID, bool)
		want [5]store.ID
	}{
		"other squares":          {func(x store.ID) (store.ID, bool) { return x + 10, true }, [5]store.ID{14, 12, 19, 14, 10}},
		"the same ones":          {func(x store.ID) (store.ID, bool) { return x, true }, [5]store.ID{4, 2, 9, 4, 0}},
		"false for all":          {func(x store.ID) (store.ID, bool) { return x + 1, false }, [5]store.ID{4, 2, 9, 4, 0}},
		"false, and 0, for all":  {func(store.ID) (store.ID, bool) { return 0, false }, [5]store.ID{4, 2, 9, 4, 0}},
		"false for some":         {func(x store.ID) (store.ID, bool) { return x * 3, x > 3 }, [5]store.ID{12, 2, 27, 12, 0}},
		"one for all":            {func(store.ID) (store.ID, bool) { return 6, true }, [5]store.ID{6, 6, 6, 6, 6}},
		"Dead for all":           {func(store.ID) (store.ID, bool) { return store.Dead, true }, [5]store.ID{}},
		"those of each other":    {func(x store.ID) (store.ID, bool) { return 13 - x, x == 4 || x == 9 }, [5]store.ID{9, 2, 4, 9, 0}},
		"what another one had":   {func(x store.ID) (store.ID, bool) { return x / 2, x > 0 }, [5]store.ID{2, 1, 4, 2, 0}},
		"one that nothing needs": {func(x store.ID) (store.ID, bool) { return 5, x == 5 }, [5]store.ID{4, 2, 9, 4, 0}},
	} {
		r := given(t, 4, 2, 9, 4, 0)
		wantOK(t, r.Take(3))
		r.Change(c.now)
		w := reckoned{{0, 1}, {0, 1}, {0, 2}, {0, 1}, {0, 1}}
		for i, x := range c.want {
			w[i].square = x
		}
		wantRoots(t, name, r, w)
		wantOK(t, r.Drop(3))
		w[2].times--
		wantRoots(t, name+", dropped once", r, w)
		wantOK(t, r.Drop(3))
		w[2].times--
		wantRoots(t, name+", dropped twice", r, w)
		put(t, r, 3, 6)
		wantRoots(t, name+", one more", r, append(w, kept{3, 1}))
	}
}

// P12.1: Change is about the roots that are there: those that are gone stay so, and now isn't called with their squares.
func TestChangeGone(t *testing.T) {
	r := given(t, 4, 2, 9)
	wantOK(t, r.Drop(2))
	var asked []store.ID
	r.Change(func(x store.ID) (store.ID, bool) {
		asked = append(asked, x)
		return 100 - x, true
	})
	wantRoots(t, "one gone", r, reckoned{{96, 1}, {}, {91, 1}})
	if !slices.Equal(asked, []store.ID{4, 9}) {
		t.Errorf("asked for %v", asked)
	}
	wantOK(t, r.Drop(1))
	wantOK(t, r.Drop(3))
	for _, r := range []*roots.Roots{r, roots.New(3), roots.New(0), {}} {
		r.Change(func(x store.ID) (store.ID, bool) {
			t.Errorf("asked for %d", x)
			return 0, true
		})
	}
	wantRoots(t, "all gone", r, make(reckoned, 3))
}

// P2: in which order now is called doesn't hang on anything but the calls before.
func TestChangeInOrder(t *testing.T) {
	for range 20 {
		r := roots.New(100)
		for n := range store.ID(100) {
			put(t, r, 500-n, roots.Handle(n+1))
		}
		var asked []store.ID
		r.Change(func(x store.ID) (store.ID, bool) {
			asked = append(asked, x)
			return store.ID(len(asked)), true
		})
		for i, x := range asked {
			if x != store.ID(500-i) {
				t.Fatalf("asked for %v", asked)
			}
		}
		if l := r.Squares(); len(l) != 100 || l[0] != 1 || l[99] != 100 {
			t.Errorf("Squares = %v", l)
		}
	}
}

// P12.1: a function that isn't there returns nothing; one that itself calls the roots finds them.
func TestChangeWithin(t *testing.T) {
	r := given(t, 4, 2, 9)
	r.Change(nil)
	wantRoots(t, "without a function", r, reckoned{{4, 1}, {2, 1}, {9, 1}})
	var asked []store.ID
	r.Change(func(x store.ID) (store.ID, bool) {
		asked = append(asked, x)
		if x == 2 {
			wantOK(t, r.Drop(2))
			wantOK(t, r.Drop(3))
			put(t, r, 50, 4)
		}
		return x + 1, true
	})
	wantRoots(t, "dropped and put meanwhile", r, reckoned{{5, 1}, {}, {}, {50, 1}})
	if !slices.Equal(asked, []store.ID{4, 2}) {
		t.Errorf("asked for %v", asked)
	}
}

// P12.1: nil roots.
func TestNil(t *testing.T) {
	var r *roots.Roots
	for range 2 {
		if h, e := r.Put(4); h != 0 || fault.Code(e) != api.ErrArg || !fault.Is(e, api.ErrArg) {
			t.Errorf("Put = %d, %v, want ErrArg", h, e)
		}
		r.Change(nil)
		r.Change(func(x store.ID) (store.ID, bool) {
			t.Errorf("asked for %d", x)
			return 0, true
		})
		wantRoots(t, "nil", r, nil)
		for h := roots.Handle(1); h < 5; h++ {
			wantNone(t, "nil", r, h)
		}
	}
}

// dice are numbers that look like thrown ones, the same in each run.
type dice uint64

// below is the next number, from 0 on, below n.
func (d *dice) below(n int) int {
	*d = *d*6364136223846793005 + 1442695040888963407
	return int(uint64(*d) >> 33 % uint64(n))
}

// thrown makes one call, of roots and by the reckoning.
func (d *dice) thrown(t *testing.T, r *roots.Roots, w reckoned, most int) reckoned {
	t.Helper()
	call, h, x := d.below(6), roots.Handle(d.below(len(w)+2)), store.ID(d.below(8))
	if call == 0 && len(w.handles()) < most {
		put(t, r, x, roots.Handle(len(w)+1))
		return append(w, kept{x, 1})
	}
	if call == 0 {
		wantLimit(t, "no room", r)
		return w
	}
	if call == 1 {
		r.Change(func(y store.ID) (store.ID, bool) { return y*3%8 + x, y != x })
		for i, y := range w {
			if w.has(roots.Handle(i+1)) && y.square != x {
				w[i].square = y.square*3%8 + x
			}
		}
		return w
	}
	if !w.has(h) {
		wantNone(t, "none", r, h)
		return w
	}
	switch call {
	case 2:
		wantOK(t, r.Set(h, x))
		w[h-1].square = x
	case 3:
		wantOK(t, r.Take(h))
		w[h-1].times++
	default:
		wantOK(t, r.Drop(h))
		w[h-1].times--
	}
	return w
}

// P12.1: any calls, one after the other, as the words have it.
func TestAny(t *testing.T) {
	d := dice(12)
	for seed := range 40 {
		most := d.below(7)
		r, w := roots.New(most), reckoned(nil)
		for n := range 150 {
			w = d.thrown(t, r, w, most)
			wantRoots(t, fmt.Sprintf("row %d, call %d", seed, n), r, w)
		}
	}
}
