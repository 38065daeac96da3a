package area

import (
	"cmp"
	"math"
	"slices"

	"belvedere/api"
	"belvedere/grid"
	"belvedere/quad"
	"belvedere/store"
)

// finder finds living cells; it keeps how many each part has, and the rectangle of each square: there may be far more places than squares.
type finder struct {
	store  *store.Store
	counts map[part]uint64
	boxes  map[store.ID]grid.Rect
}

// find is a finder in a store, which has found nothing yet.
func find(s *store.Store) *finder {
	return &finder{store: s, counts: make(map[part]uint64), boxes: make(map[store.ID]grid.Rect)}
}

// Cells is the living cells of a rectangle, row by row; ErrArg, if there is no plane, or most is below 0; ErrLimit, if they are more than most.
func Cells(p quad.Plane, r grid.Rect, most int) ([]grid.Point, error) {
	if !isPlane(p) || most < 0 {
		return nil, api.ErrArg
	}
	f, level := find(p.Store), p.Level(p.Root)
	all := span(level)
	t := part{square: p.Root, level: level, rect: moved(r.And(all), minus(all.From))}
	if f.count(t) > uint64(most) {
		return nil, api.ErrLimit
	}
	l := f.cells(nil, t, all.From)
	slices.SortFunc(l, byRows)
	return l, nil
}

// byRows is the order of cells.
func byRows(p, q grid.Point) int {
	return cmp.Or(cmp.Compare(p.Y, q.Y), cmp.Compare(p.X, q.X))
}

// count is how many living cells a part has; if there are more, the greatest number.
func (f *finder) count(t part) uint64 {
	if t.rect.Empty() || f.store.Count(t.square) == 0 {
		return 0
	}
	if t.whole() {
		return f.store.Count(t.square)
	}
	if n, there := f.counts[t]; there {
		return n
	}
	var n uint64
	for _, q := range f.four(t) {
		n += min(f.count(q), math.MaxUint64-n)
	}
	f.counts[t] = n
	return n
}

// four is the parts that a part has of its square's four.
func (f *finder) four(t part) [4]part {
	var four [4]part
	k, _ := f.store.Of(t.square)
	for i, x := range k {
		four[i] = part{square: x, level: t.level - 1, rect: quarter(t.rect, t.level, i)}
	}
	return four
}

// cells is a list with the living cells of a part behind it, where the first cell of its square has a place.
func (f *finder) cells(l []grid.Point, t part, from grid.Point) []grid.Point {
	if f.count(t) == 0 {
		return l
	}
	if t.level == 0 {
		return append(l, from)
	}
	for i, q := range f.four(t) {
		l = f.cells(l, q, plus(from, first(t.level, i)))
	}
	return l
}

// Box is the least rectangle that has all living cells; false: there are none.
func Box(p quad.Plane) (grid.Rect, bool) {
	if !isPlane(p) || p.Count(p.Root) == 0 {
		return grid.Rect{}, false
	}
	box := find(p.Store).box(p.Root)
	return moved(box, span(p.Level(p.Root)).From), true
}

// box is the least rectangle of a square's living cells, seen from its first cell.
func (f *finder) box(x store.ID) grid.Rect {
	level := f.store.Level(x)
	if f.store.Count(x) == 0 {
		return grid.Rect{}
	}
	if level == 0 {
		return grid.Rect{To: grid.Point{X: 1, Y: 1}}
	}
	if box, there := f.boxes[x]; there {
		return box
	}
	var box grid.Rect
	k, _ := f.store.Of(x)
	for i, y := range k {
		box = box.Or(moved(f.box(y), first(level, i)))
	}
	f.boxes[x] = box
	return box
}
