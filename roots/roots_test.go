package roots_test

import (
	"fmt"
	"math"
	"slices"
	"testing"

	"belvedere/api"
	"belvedere/fault"
	"belvedere/roots"
	"belvedere/store"
)

// kept is a root by the reckoning: its square, and how many times it is taken; 0: it is gone.
type kept struct {
	square store.ID
	times  int
}

// reckoned are all roots that ever were, by the words, the one of handle 1 first.
type reckoned []kept

// has tells whether there is a root.
func (w reckoned) has(h roots.Handle) bool {
	return h >= 1 && int(h) <= len(w) && w[h-1].times > 0
}

// handles are those of the roots that are there.
func (w reckoned) handles() []roots.Handle {
	var l []roots.Handle
	for i := range w {
		if h := roots.Handle(i + 1); w.has(h) {
			l = append(l, h)
		}
	}
	return l
}

// squares are those of the roots that are there, each once, in order.
func (w reckoned) squares() []store.ID {
	var l []store.ID
	for _, h := range w.handles() {
		if x := w[h-1].square; !slices.Contains(l, x) {
			l = append(l, x)
		}
	}
	slices.Sort(l)
	return l
}

// never are handles that no test assigns.
var never = []roots.Handle{0, -1, -2, math.MinInt, math.MaxInt, 1 << 32, 1 << 40}

// wantRoots checks all that tells of roots.
func wantRoots(t *testing.T, name string, r *roots.Roots, w reckoned) {
	t.Helper()
	if l := w.handles(); r.Len() != len(l) || !slices.Equal(r.All(), l) {
		t.Errorf("%s: Len, All = %d, %v, want %d, %v", name, r.Len(), r.All(), len(l), l)
	}
	if l := w.squares(); !slices.Equal(r.Squares(), l) {
		t.Errorf("%s: Squares = %v, want %v", name, r.Squares(), l)
	}
	for h := roots.Handle(-2); int(h) <= len(w)+2; h++ {
		if !w.has(h) {
			wantNone(t, name, r, h)
		} else if x, is := r.Get(h); !is || x != w[h-1].square {
			t.Errorf("%s: Get(%d) = %d, %v, want %d", name, h, x, is, w[h-1].square)
		}
	}
	for _, h := range never {
		wantNone(t, name, r, h)
	}
}

// wantNone checks that there is no root of that handle.
func wantNone(t *testing.T, name string, r *roots.Roots, h roots.Handle) {
	t.Helper()
	if x, is := r.Get(h); is || x != 0 {
		t.Errorf("%s: Get(%d) = %d, %v, but there is none", name, h, x, is)
	}
	for call, e := range map[string]error{"Set": r.Set(h, 7), "Take": r.Take(h), "Drop": r.Drop(h)} {
		if fault.Code(e) != api.ErrNone || !fault.Is(e, api.ErrNone) {
			t.Errorf("%s: %s(%d): %v, want ErrNone", name, call, h, e)
		}
	}
}

// put adds a root, of which the handle is known.
func put(t *testing.T, r *roots.Roots, x store.ID, want roots.Handle) {
	t.Helper()
	if h, e := r.Put(x); h != want || e != nil {
		t.Errorf("Put(%d) = %d, %v, want %d", x, h, e, want)
	}
}

// wantLimit checks that no root may be added.
func wantLimit(t *testing.T, name string, r *roots.Roots) {
	t.Helper()
	if h, e := r.Put(5); h != 0 || fault.Code(e) != api.ErrLimit || !fault.Is(e, api.ErrLimit) {
		t.Errorf("%s: Put = %d, %v, want ErrLimit", name, h, e)
	}
}

// wantOK checks that there is no error.
func wantOK(t *testing.T, e error) {
	t.Helper()
	if e != nil {
		t.Error(e)
	}
}

// given are roots of these squares, with handles from 1 on, and room for five.
func given(t *testing.T, squares ...store.ID) *roots.Roots {
	t.Helper()
	r := roots.New(5)
	for i, x := range squares {
		put(t, r, x, roots.Handle(i+1))
	}
	return r
}

// P12.1: the chapter's example.
func TestExample(t *testing.T) {
	r := roots.New(1)
	put(t, r, 9, 1)
	wantOK(t, r.Take(1))
	wantOK(t, r.Drop(1))
	wantRoots(t, "taken twice, dropped once", r, reckoned{{9, 1}})
	wantOK(t, r.Drop(1))
	wantRoots(t, "dropped twice", r, reckoned{{9, 0}})
}

// P12.1: New is no roots, with room for so many, and none below 1.
func TestRoom(t *testing.T) {
	for _, most := range []int{1, 2, 3, 64, 1000} {
		name := fmt.Sprintf("room for %d", most)
		r, w := roots.New(most), reckoned{}
		wantRoots(t, name, r, nil)
		for i := range most {
			put(t, r, store.ID(i*7%10), roots.Handle(i+1))
			w = append(w, kept{store.ID(i * 7 % 10), 1})
		}
		wantLimit(t, name, r)
		wantLimit(t, name, r)
		wantRoots(t, name, r, w)
	}
	for _, most := range []int{0, -1, -1000, math.MinInt} {
		name := fmt.Sprintf("room for %d", most)
		r := roots.New(most)
		wantLimit(t, name, r)
		wantRoots(t, name, r, nil)
	}
	var r roots.Roots
	wantLimit(t, "not by New", &r)
	wantRoots(t, "not by New", &r, nil)
}

// P12.1: the greatest room isn't taken ahead of the roots.
func TestGreatestRoom(t *testing.T) {
	r := roots.New(math.MaxInt)
	put(t, r, 1, 1)
	wantRoots(t, "the greatest room", r, reckoned{{1, 1}})
}

// P12.1: there is room again when a root is gone; no handle is assigned twice, and an attempt without room assigns none.
func TestRoomAgain(t *testing.T) {
	r := roots.New(2)
	put(t, r, 4, 1)
	put(t, r, 4, 2)
	wantOK(t, r.Take(2))
	wantLimit(t, "two", r)
	wantOK(t, r.Drop(2))
	wantLimit(t, "still two", r)
	wantOK(t, r.Drop(2))
	put(t, r, 6, 3)
	wantLimit(t, "two again", r)
	wantRoots(t, "the last one gone", r, reckoned{{4, 1}, {}, {6, 1}})
	wantOK(t, r.Drop(1))
	wantOK(t, r.Drop(3))
	wantRoots(t, "all gone", r, reckoned{{}, {}, {}})
	for h := roots.Handle(4); h < 100; h++ {
		put(t, r, store.ID(h), h)
		wantOK(t, r.Drop(h))
	}
	wantRoots(t, "one after the other", r, make(reckoned, 99))
}

// P12.1: a root's times are its own; taken several times, it is dropped as often; it starts with one again with each Put.
func TestTimes(t *testing.T) {
	r := given(t, 8, 8, 8)
	for range 1000 {
		wantOK(t, r.Take(2))
	}
	wantOK(t, r.Take(3))
	wantRoots(t, "taken", r, reckoned{{8, 1}, {8, 1001}, {8, 2}})
	for n := range 1000 {
		wantOK(t, r.Drop(2))
		if _, is := r.Get(2); !is {
			t.Fatalf("gone after %d of 1001", n+1)
		}
	}
	wantOK(t, r.Drop(1))
	wantRoots(t, "dropped", r, reckoned{{8, 0}, {8, 1}, {8, 2}})
	wantOK(t, r.Drop(2))
	put(t, r, 8, 4)
	wantOK(t, r.Drop(4))
	wantRoots(t, "dropped", r, reckoned{{8, 0}, {8, 0}, {8, 2}, {8, 0}})
	wantOK(t, r.Drop(3))
	wantOK(t, r.Drop(3))
	wantRoots(t, "all dropped", r, make(reckoned, 4))
}

// P12.1: Set is of one root, and leaves its times.
func TestSet(t *testing.T) {
	r := given(t, 5, 5, 3)
	wantOK(t, r.Take(2))
	for _, x := range []store.ID{0, 1, 3, 5, 1 << 20, math.MaxUint32, 4} {
		wantOK(t, r.Set(2, x))
		wantRoots(t, fmt.Sprintf("Set(2, %d)", x), r, reckoned{{5, 1}, {x, 2}, {3, 1}})
	}
	wantOK(t, r.Drop(2))
	wantRoots(t, "dropped once", r, reckoned{{5, 1}, {4, 1}, {3, 1}})
	wantOK(t, r.Drop(2))
	wantRoots(t, "dropped twice", r, reckoned{{5, 1}, {}, {3, 1}})
}

// P12.1: a root may be of any square, there or not: 0 too.
func TestAnySquare(t *testing.T) {
	for _, x := range []store.ID{store.Dead, store.Alive, 2, 1 << 20, 1 << 31, math.MaxUint32} {
		r := given(t, x)
		wantRoots(t, fmt.Sprintf("square %d", x), r, reckoned{{x, 1}})
	}
}

// P12.1: the squares are in order, each once, whichever roots have them; the handles are in order too.
func TestSquares(t *testing.T) {
	r := given(t, 9, 2, 9, 0, 2)
	wantRoots(t, "some alike", r, reckoned{{9, 1}, {2, 1}, {9, 1}, {0, 1}, {2, 1}})
	wantOK(t, r.Drop(1))
	wantRoots(t, "one of two", r, reckoned{{9, 0}, {2, 1}, {9, 1}, {0, 1}, {2, 1}})
	wantOK(t, r.Drop(3))
	wantRoots(t, "none of two", r, reckoned{{9, 0}, {2, 1}, {9, 0}, {0, 1}, {2, 1}})
	wantOK(t, r.Set(4, 2))
	wantRoots(t, "all alike", r, reckoned{{9, 0}, {2, 1}, {9, 0}, {2, 1}, {2, 1}})
}

// P12.1: what was returned is the caller's own.
func TestOwn(t *testing.T) {
	r := given(t, 7, 6, 5)
	all, squares := r.All(), r.Squares()
	put(t, r, 1, 4)
	wantOK(t, r.Drop(1))
	wantOK(t, r.Set(2, 90))
	r.Change(func(x store.ID) (store.ID, bool) { return x + 100, true })
	if !slices.Equal(all, []roots.Handle{1, 2, 3}) || !slices.Equal(squares, []store.ID{5, 6, 7}) {
		t.Errorf("changed to %v, %v", all, squares)
	}
	want := reckoned{{}, {190, 1}, {105, 1}, {101, 1}}
	all, squares = r.All(), r.Squares()
	for i := range all {
		all[i], squares[i] = -5, 12
	}
	_, _ = append(all, 9), append(squares, 9)
	wantRoots(t, "what was returned is overwritten", r, want)
	all, squares = r.All(), r.Squares()
	again, more := r.All(), r.Squares()
	all[0], squares[0] = 77, 77
	if again[0] != 2 || more[0] != 101 {
		t.Errorf("two results share: %v, %v", again, more)
	}
}

// P12.1: roots don't share with other ones.
func TestApart(t *testing.T) {
	a, b := roots.New(2), roots.New(3)
	put(t, a, 4, 1)
	put(t, b, 5, 1)
	put(t, b, 6, 2)
	wantOK(t, a.Drop(1))
	wantRoots(t, "one", a, reckoned{{}})
	wantRoots(t, "the other", b, reckoned{{5, 1}, {6, 1}})
}
