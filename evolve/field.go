package evolve

import "belvedere/store"

// field is squares of one level, in as many rows as each has squares.
type field struct {
	side int
	at   [4][4]store.ID
}

// way goes from four squares of a field to the one of a smaller field that is where they meet.
type way func(k store.Kids) (store.ID, error)

// shrink goes one way after the other, each time from a field to one with a row less; it is the only square of the last one.
func (f field) shrink(ways ...way) (store.ID, error) {
	for _, to := range ways {
		var e error
		if f, e = f.smaller(to); e != nil {
			return 0, e
		}
	}
	return f.at[0][0], nil
}

// smaller is the field of what each four squares that meet become.
func (f field) smaller(to way) (field, error) {
	less := field{side: f.side - 1}
	for y := range less.side {
		for x := range less.side {
			var e error
			if less.at[y][x], e = to(f.four(x, y)); e != nil {
				return field{}, e
			}
		}
	}
	return less, nil
}

// four are the squares that meet on the right of, and below one.
func (f field) four(x, y int) store.Kids {
	return store.Kids{f.at[y][x], f.at[y][x+1], f.at[y+1][x], f.at[y+1][x+1]}
}
