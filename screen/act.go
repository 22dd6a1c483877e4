package screen

import (
	"slices"

	"lyceum/api"
	"lyceum/cell"
	"lyceum/grid"
)

// Do does acts, one by one.
func (s *Screen) Do(l ...api.Act) {
	if s.isNone() {
		return
	}
	for _, a := range l {
		switch {
		case a.Kind == api.Print:
			s.print(a.R)
		case s.obeyed(a):
			s.waits = false
		default:
			s.set(a)
		}
	}
}

// print draws a character, in the next row if there is no room for it in this one.
func (s *Screen) print(r rune) {
	cells := cell.Make(r, s.pen)
	n := len(cells)
	if n == 0 || n > s.w {
		return
	}
	switch {
	case s.waits, s.x+n > s.w && s.wraps:
		s.x = 0
		s.goDown()
	case s.x+n > s.w:
		s.x = s.w - n
	}
	s.put(cells)
	s.x += n
	s.waits = s.x == s.w && s.wraps
	s.x = min(s.x, s.w-1)
}

// put lays cells where the cursor is. Their row is taken as a grid of its own: to go over all the others for each character would be slow.
func (s *Screen) put(cells []api.Cell) {
	row := s.grids[s.which].Cells[s.y*s.w : (s.y+1)*s.w]
	copy(row, grid.Put(api.Grid{W: s.w, H: 1, Cells: row}, s.x, 0, cells...).Cells)
}

// goDown goes to the next row; at the region's end its rows go up instead.
func (s *Screen) goDown() {
	if s.y == s.end-1 {
		s.scroll(1)
		return
	}
	s.y = min(s.y+1, s.h-1)
}

// goUp goes to the row above; at the region's top its rows go down instead.
func (s *Screen) goUp() {
	if s.y == s.top {
		s.scroll(-1)
		return
	}
	s.y = max(s.y-1, 0)
}

// scroll moves the region's rows up by n (down, if n is below 0). Only here rows go that are kept.
func (s *Screen) scroll(n int) {
	if s.top == 0 && s.which == usual {
		s.keep(min(n, s.end))
	}
	s.scrollFrom(s.top, n)
}

// scrollFrom moves the rows from top on, up to the region's end.
func (s *Screen) scrollFrom(top, n int) {
	g := &s.grids[s.which]
	*g = grid.Scroll(*g, top, s.end, n, s.free())
}

// keep keeps the uppermost n rows, which are about to go.
func (s *Screen) keep(n int) {
	for y := range n {
		s.gone = append(s.gone, grid.Row(s.grids[usual], y))
	}
	if over := len(s.gone) - mostGone; over > 0 {
		s.gone = slices.Delete(s.gone, 0, over)
	}
}

// clear makes the places of a rectangle free.
func (s *Screen) clear(r api.Rect) {
	g := &s.grids[s.which]
	*g = grid.Fill(*g, r, s.free())
}

// free is what a free place is filled with.
func (s *Screen) free() api.Cell {
	c := cell.Blank()
	c.Bg = s.pen.Bg
	return c
}

// save saves where the grid that is shown is drawn in, and with which pen.
func (s *Screen) save() { s.saved[s.which] = s.spot }

// restore takes back what was saved of the grid that is shown.
func (s *Screen) restore() { s.spot = s.saved[s.which] }
