package evolve

import (
	"maps"

	"belvedere/store"
)

// seenAs is the number under which a square was seen.
func (m *Memo) seenAs(x store.ID) store.ID {
	if old, told := m.told[x]; told {
		return old
	}
	return x
}

// settle goes over to the numbers that Change told. What was found is kept if the squares that have these numbers now are what those were of which, and as which, it was found.
func (m *Memo) settle() {
	r := renamed{Store: m.Store, seen: m.seen, now: make([]store.ID, len(m.seen))}
	maps.DeleteFunc(m.found, func(of step, y store.ID) bool {
		return !r.is(m.told[of.x], of.x) || !r.is(m.told[y], y)
	})
	m.seen, m.told = nil, nil
	for of, y := range m.found {
		m.see(of.x)
		m.see(y)
	}
}

// renamed is squares that were seen, and the numbers that they have now, as far as they were found out.
type renamed struct {
	*store.Store
	seen []sight
	now  []store.ID // Dead: not found out
}

// is tells whether a square that was seen has a number now.
func (r renamed) is(old, x store.ID) bool {
	if old <= store.Alive {
		return old == x
	}
	if now := r.now[old]; now != store.Dead {
		return now == x
	}
	k, is := r.Of(x)
	if !is {
		return false
	}
	for i, y := range k {
		if !r.is(r.seen[old].kids[i], y) {
			return false
		}
	}
	r.now[old] = x
	return true
}
