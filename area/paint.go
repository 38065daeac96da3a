package area

import (
	"belvedere/grid"
	"belvedere/quad"
	"belvedere/store"
)

// change is what is done to a square: the points of a rectangle get the painter's cell, and then some cells are alive.
type change struct {
	rect  grid.Rect
	cells []grid.Point
}

// moved is a change of other points.
func (c change) moved(by grid.Point) change {
	return change{rect: moved(c.rect, by), cells: movedCells(c.cells, by)}
}

// quarters is what is done to the four of a square of a level, where points are seen from its first cell, and then from that of each.
func (c change) quarters(level int) [4]change {
	var four [4]change
	for i := range four {
		four[i].rect = quarter(c.rect, level, i)
	}
	bit, rest := level-1, side(level-1)-1
	for _, q := range c.cells {
		i := q.X>>bit&1 + q.Y>>bit&1*2
		four[i].cells = append(four[i].cells, grid.Point{X: q.X & rest, Y: q.Y & rest})
	}
	return four
}

// painter fills with a cell. The square Dead stands, at each level, for one without living cells, which may not be there: so that no square is made but those of the plane that is returned.
type painter struct {
	store  *store.Store
	cell   store.ID
	filled map[part]store.ID
}

// painted is the plane after a change, with the lowest square that has all of a rectangle.
func painted(p quad.Plane, r grid.Rect, cell store.ID, c change) (quad.Plane, error) {
	a := &painter{store: p.Store, cell: cell, filled: make(map[part]store.ID)}
	own := p.Level(p.Root)
	level := own
	for span(level).And(r) != r {
		level++
	}
	k, _ := p.Of(p.Root)
	for i, d := range c.moved(minus(span(level).From)).quarters(level) {
		x, e := a.inner(k[i], i, own-1, level-1, d)
		if e != nil {
			return quad.Plane{}, e
		}
		k[i] = x
	}
	root, e := p.Make(k)
	if e != nil {
		return quad.Plane{}, e
	}
	return quad.Plane{Store: p.Store, Root: root}, nil
}

// inner is, after a change, the square of a level that is one of a plane's four, and has another square, of a level of its own, in the corner at the plane's middle.
func (a *painter) inner(x store.ID, at, own, level int, c change) (store.ID, error) {
	if level == own {
		return a.paint(x, level, c)
	}
	var k store.Kids
	for i, d := range c.quarters(level) {
		var e error
		// The middle is across from where the square itself is.
		if i == 3-at {
			k[i], e = a.inner(x, at, own, level-1, d)
		} else {
			k[i], e = a.paint(store.Dead, level-1, d)
		}
		if e != nil {
			return 0, e
		}
	}
	return a.store.Make(k)
}

// paint is a square after a change.
func (a *painter) paint(x store.ID, level int, c change) (store.ID, error) {
	if len(c.cells) == 0 {
		return a.fill(part{square: x, level: level, rect: c.rect})
	}
	if level == 0 {
		return store.Alive, nil
	}
	k := a.four(x)
	for i, d := range c.quarters(level) {
		y, e := a.paint(k[i], level-1, d)
		if e != nil {
			return 0, e
		}
		k[i] = y
	}
	return a.store.Make(k)
}

// fill is a square where the points of a part are filled. A great rectangle has more squares at its sides than can be gone through one by one, but few that differ: each of these is filled once.
func (a *painter) fill(t part) (store.ID, error) {
	if t.rect.Empty() {
		return a.real(t.square, t.level)
	}
	if t.level == 0 {
		return a.cell, nil
	}
	if t.whole() {
		// What was there doesn't matter any more.
		t.square = store.Dead
	}
	if x, there := a.filled[t]; there {
		return x, nil
	}
	k := a.four(t.square)
	for i, x := range k {
		y, e := a.fill(part{square: x, level: t.level - 1, rect: quarter(t.rect, t.level, i)})
		if e != nil {
			return 0, e
		}
		k[i] = y
	}
	x, e := a.store.Make(k)
	if e != nil {
		return 0, e
	}
	a.filled[t] = x
	return x, nil
}

// four is a square's four; of Dead, four such ones.
func (a *painter) four(x store.ID) store.Kids {
	if k, there := a.store.Of(x); there {
		return k
	}
	return store.Kids{store.Dead, store.Dead, store.Dead, store.Dead}
}

// real is a square that is there, also for Dead.
func (a *painter) real(x store.ID, level int) (store.ID, error) {
	if x == store.Dead {
		return a.store.Empty(level)
	}
	return x, nil
}
