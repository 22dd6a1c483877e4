package screen

import (
	"lyceum/api"
	"lyceum/escape"
	"lyceum/grid"
)

// obeyed does an act behind which no wrap waits, and tells whether it was such a one.
func (s *Screen) obeyed(a api.Act) bool {
	switch {
	case a.Kind == api.Ctl:
		return s.obeyedControl(a.R)
	case a.Mid != 0:
		return false
	case a.Kind == api.Esc:
		return s.obeyedEscape(a.R)
	case a.Kind == api.Csi && a.Private == 0:
		return s.obeyedMove(a) || s.obeyedErase(a) || s.obeyedShift(a) || s.obeyedPlace(a)
	}
	return false
}

// obeyedControl does a control character.
func (s *Screen) obeyedControl(r rune) bool {
	switch r {
	case 8:
		s.x = max(s.x-1, 0)
	case 9:
		s.goToTab()
	case 10, 11, 12:
		s.goDown()
	case 13:
		s.x = 0
	default:
		return false
	}
	return true
}

// goToTab goes to the next tab of the row, or to its end.
func (s *Screen) goToTab() {
	s.x = min(s.x+1, s.w-1)
	for s.x < s.w-1 && !s.tabs[s.x] {
		s.x++
	}
}

// obeyedEscape does an escape sequence.
func (s *Screen) obeyedEscape(r rune) bool {
	switch r {
	case 'E':
		s.x = 0
		fallthrough
	case 'D':
		s.goDown()
	case 'M':
		s.goUp()
	case '8':
		s.restore()
	case 'c':
		s.renew()
	default:
		return false
	}
	return true
}

// renew makes the screen a new one, but for the rows that are gone: they are still to be told.
func (s *Screen) renew() {
	gone := s.gone
	*s = *New(s.w, s.h)
	s.gone = gone
}

// obeyedMove does a control sequence that moves the cursor.
func (s *Screen) obeyedMove(a api.Act) bool {
	n := escape.Num(a, 0, 1)
	switch a.R {
	case 'F':
		s.x = 0
		fallthrough
	case 'A':
		s.moveDown(-n)
	case 'E':
		s.x = 0
		fallthrough
	case 'B':
		s.moveDown(n)
	case 'D':
		n = -n
		fallthrough
	case 'C':
		s.x = within(s.x+n, 0, s.w-1)
	case 'G', '`':
		s.x = min(n, s.w) - 1
	case 'H', 'f':
		s.x = min(escape.Num(a, 1, 1), s.w) - 1
		fallthrough
	case 'd':
		s.y = min(n, s.h) - 1
	default:
		return false
	}
	return true
}

// moveDown goes down by n rows (up, if n is below 0), but not over the edge of the region, or of the grid, that lies ahead.
func (s *Screen) moveDown(n int) {
	least, most := 0, s.h-1
	if s.y >= s.top {
		least = s.top
	}
	if s.y < s.end {
		most = s.end - 1
	}
	s.y = within(s.y+n, least, most)
}

// obeyedErase does a control sequence that makes places free.
func (s *Screen) obeyedErase(a api.Act) bool {
	switch a.R {
	case 'J':
		s.clearRows(escape.Num(a, 0, 0))
		fallthrough
	case 'K':
		s.clearRow(escape.Num(a, 0, 0))
	case 'X':
		s.clear(api.Rect{X: s.x, Y: s.y, W: escape.Num(a, 0, 1), H: 1})
	default:
		return false
	}
	return true
}

// clearRows makes the rows below the cursor's free (0), those above it (1), or both (2).
func (s *Screen) clearRows(which int) {
	if which == 0 || which == 2 {
		s.clear(api.Rect{Y: s.y + 1, W: s.w, H: s.h})
	}
	if which == 1 || which == 2 {
		s.clear(api.Rect{W: s.w, H: s.y})
	}
}

// clearRow makes the cursor's place and those behind it in its row free (0), it and those ahead of it (1), or both (2).
func (s *Screen) clearRow(which int) {
	if which == 0 || which == 2 {
		s.clear(api.Rect{X: s.x, Y: s.y, W: s.w, H: 1})
	}
	if which == 1 || which == 2 {
		s.clear(api.Rect{Y: s.y, W: s.x + 1, H: 1})
	}
}

// obeyedShift does a control sequence that moves rows, or cells of a row.
func (s *Screen) obeyedShift(a api.Act) bool {
	n := escape.Num(a, 0, 1)
	switch a.R {
	case 'L':
		n = -n
		fallthrough
	case 'M':
		if s.top <= s.y && s.y < s.end {
			s.scrollFrom(s.y, n)
			s.x = 0
		}
	case 'P':
		n = -n
		fallthrough
	case '@':
		g := &s.grids[s.which]
		*g = grid.Shift(*g, s.x, s.y, n, s.free())
	case 'T':
		n = -n
		fallthrough
	case 'S':
		s.scroll(n)
	default:
		return false
	}
	return true
}

// obeyedPlace does a control sequence that chooses the region, or takes back what was saved.
func (s *Screen) obeyedPlace(a api.Act) bool {
	switch a.R {
	case 'r':
		s.chooseRegion(escape.Num(a, 0, 1)-1, escape.Num(a, 1, 0))
	case 'u':
		s.restore()
	default:
		return false
	}
	return true
}

// chooseRegion makes the rows from top on, below end, the region, if they are two or more.
func (s *Screen) chooseRegion(top, end int) {
	if end == 0 || end > s.h {
		end = s.h
	}
	if top < end-1 {
		s.top, s.end = top, end
		s.x, s.y = 0, 0
	}
}
