package evolve

import (
	"maps"

	"belvedere/store"
)

// sight is what a square was when it was seen last: the four that it had, and in which call that was; 0: it wasn't seen.
type sight struct {
	kids store.Kids
	call int
}

// see takes note of a square, and of all that it is made of. False: it isn't what it was; all that was found of such squares, or as such, is forgotten.
func (m *Memo) see(x store.ID) bool {
	if m.sure(x) {
		return true
	}
	k, _ := m.Of(x)
	same := true
	for _, y := range k {
		same = m.see(y) && same
	}
	if m.wasOther(x, k) {
		same = false
		m.prune()
	}
	m.note(x, k)
	return same
}

// note notes the four that a square has.
func (m *Memo) note(x store.ID, k store.Kids) {
	if int(x) >= len(m.seen) {
		m.seen = append(m.seen, make([]sight, m.Len()-len(m.seen))...)
	}
	m.seen[x] = sight{k, m.call}
}

// sure tells whether what a square is was seen in this call, in which none is removed; a cell is always the same.
func (m *Memo) sure(x store.ID) bool {
	return x <= store.Alive || int(x) < len(m.seen) && m.seen[x].call == m.call
}

// wasOther tells whether a square was seen that had another four.
func (m *Memo) wasOther(x store.ID, k store.Kids) bool {
	return int(x) < len(m.seen) && m.seen[x].call > 0 && m.seen[x].kids != k
}

// prune forgets the squares that aren't what they were, and what was found of them, or as them; of the others it is sure.
func (m *Memo) prune() {
	m.seen = m.seen[:min(len(m.seen), m.Len())]
	// What a square is made of has lower numbers.
	for x := range m.seen {
		if m.same(store.ID(x)) {
			m.seen[x].call = m.call
		} else {
			m.seen[x] = sight{}
		}
	}
	maps.DeleteFunc(m.found, func(of step, y store.ID) bool {
		return !m.sure(of.x) || !m.sure(y)
	})
}

// same tells whether a square was seen and has the same four, of which the memo is sure.
func (m *Memo) same(x store.ID) bool {
	k, is := m.Of(x)
	if !is || m.seen[x].call == 0 || m.seen[x].kids != k {
		return false
	}
	for _, y := range k {
		if !m.sure(y) {
			return false
		}
	}
	return true
}
