package area

import (
	"belvedere/grid"
	"belvedere/quad"
	"belvedere/store"
)

// least is the lowest level of a plane's square.
const least = 3

// isPlane tells whether a plane's square is there, and isn't too small.
func isPlane(p quad.Plane) bool {
	return p.Level(p.Root) >= least
}

// part is some points of a square, of which only those of a rectangle matter; the rectangle is seen from the square's first cell, so that squares that are the same have the same parts wherever they are.
type part struct {
	square store.ID
	level  int
	rect   grid.Rect
}

// whole tells whether all points of the square matter.
func (t part) whole() bool {
	return t.rect == grid.Rect{To: grid.Point{X: side(t.level), Y: side(t.level)}}
}

// side is how many cells wide, and high, a square of a level is.
func side(level int) int64 {
	return int64(1) << level
}

// first is where, in a square of a level, the first cell of one of its four is.
func first(level, i int) grid.Point {
	half := side(level - 1)
	return grid.Point{X: half * int64(i%2), Y: half * int64(i/2)}
}

// quarter is the points of a rectangle in one of the four of a square of a level, seen from the first cell of that one.
func quarter(r grid.Rect, level, i int) grid.Rect {
	from, half := first(level, i), side(level-1)
	four := moved(grid.Rect{To: grid.Point{X: half, Y: half}}, from)
	return moved(r.And(four), minus(from))
}

// span is the points of the square of a plane of a level.
func span(level int) grid.Rect {
	half := side(level - 1)
	return grid.Rect{From: grid.Point{X: -half, Y: -half}, To: grid.Point{X: half, Y: half}}
}

// moved is a rectangle that is moved.
func moved(r grid.Rect, by grid.Point) grid.Rect {
	return grid.Rect{From: plus(r.From, by), To: plus(r.To, by)}
}

// movedCells is cells that are moved.
func movedCells(l []grid.Point, by grid.Point) []grid.Point {
	out := make([]grid.Point, len(l))
	for i, c := range l {
		out[i] = plus(c, by)
	}
	return out
}

// plus is a point moved by another one; unlike Shift it takes points as they are seen from a square's first cell, which may be as far as 2^62.
func plus(p, by grid.Point) grid.Point {
	return grid.Point{X: p.X + by.X, Y: p.Y + by.Y}
}

// minus is a point on the other side of 0, 0.
func minus(p grid.Point) grid.Point {
	return grid.Point{X: -p.X, Y: -p.Y}
}
