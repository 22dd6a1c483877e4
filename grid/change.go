package grid

import (
	"slices"

	"lyceum/api"
	"lyceum/cell"
)

// Put is g with these cells from a place on rightwards.
func Put(g api.Grid, x, y int, cells ...api.Cell) api.Grid {
	if !Check(g) {
		return g
	}
	return changed(g, y, 1, func(_ int, row []api.Cell) {
		lay(row, x, cells)
		mend(row)
	})
}

// Fill is g with c in all places of a rectangle.
func Fill(g api.Grid, r api.Rect, c api.Cell) api.Grid {
	if !Check(g) || !isPlain(c) {
		return g
	}
	x, w := part(r.X, r.W, g.W)
	return changed(g, r.Y, r.H, func(_ int, row []api.Cell) {
		spread(row[x:x+w], c)
		mend(row)
	})
}

// Scroll is g with its rows from top on, below end, n rows further up, among themselves.
func Scroll(g api.Grid, top, end, n int, c api.Cell) api.Grid {
	if !Check(g) || !isPlain(c) {
		return g
	}
	top, end = within(top, g.H), within(end, g.H)
	return changed(g, top, end-top, func(at int, row []api.Cell) {
		// Where at and n are more than an int holds, what it goes round to is no row either.
		if from := at + n; top <= from && from < end {
			copy(row, line(g, from))
			return
		}
		spread(row, c)
	})
}

// Shift is g with the cells of a row from x on n places further to the right, among themselves.
func Shift(g api.Grid, x, y, n int, c api.Cell) api.Grid {
	if !Check(g) || !isPlain(c) {
		return g
	}
	x = within(x, g.W)
	return changed(g, y, 1, func(at int, row []api.Cell) {
		free, old := row[x:], line(g, at)[x:]
		spread(free, c)
		lay(free, n, old)
		mend(row)
	})
}

// Blit is g with the cells of another grid from a place on.
func Blit(g, from api.Grid, x, y int) api.Grid {
	if !Check(g) || !Check(from) {
		return g
	}
	return changed(g, y, from.H, func(at int, row []api.Cell) {
		lay(row, x, line(from, at-y))
		mend(row)
	})
}

// Resize is a grid of another size with g in its upper left corner, and c beside; g, if there is none of that size.
func Resize(g api.Grid, w, h int, c api.Cell) api.Grid {
	if !Check(g) || !isPlain(c) || !sizeMayBe(w, h) {
		return g
	}
	return Blit(full(w, h, c), g, 0, 0)
}

// changed is g with those of n rows from y on that it has changed by do. It has cells of its own: do finds in g what stood there ahead of all changes.
func changed(g api.Grid, y, n int, do func(at int, row []api.Cell)) api.Grid {
	g.Cells = slices.Clone(g.Cells)
	for at, row := range rows(g, y, n) {
		do(at, row)
	}
	return g
}

// lay puts cells into a row from x on, as many as lie in it.
func lay(row []api.Cell, x int, cells []api.Cell) {
	if first, count := part(x, len(cells), len(row)); count > 0 {
		copy(row[first:first+count], cells[first-x:])
	}
}

// mend makes a row right.
func mend(row []api.Cell) { copy(row, cell.Mend(row)) }

// spread makes each cell of a row c.
func spread(row []api.Cell, c api.Cell) {
	for i := range row {
		row[i] = c
	}
}

// isPlain tells whether a cell may be, and stands alone.
func isPlain(c api.Cell) bool {
	return c.Attr&(api.Wide|api.Tail) == 0 && cell.Check(c)
}

// within is n brought into 0 to most.
func within(n, most int) int { return max(0, min(n, most)) }
