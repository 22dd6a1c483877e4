package screen

import (
	"slices"

	"lyceum/api"
	"lyceum/cell"
	"lyceum/grid"
	"lyceum/pen"
	"lyceum/runes"
)

// slowSpot is a place and a pen.
type slowSpot struct {
	x, y int
	pen  api.Cell
}

// slow is a screen in the document's words: place by place, and step by step.
type slow struct {
	w, h   int
	grids  [2][][]api.Cell
	alt    int
	at     slowSpot
	saved  [2]slowSpot
	top    int
	end    int
	tabs   map[int]bool
	wraps  bool
	waits  bool
	hidden bool
	gone   [][]api.Cell
}

func slowNew(w, h int) *slow {
	s := &slow{w: w, h: h, end: h, wraps: true, tabs: map[int]bool{}}
	for i := range s.grids {
		s.grids[i] = slowBlank(w, h)
	}
	for x := 1; x <= 199; x++ {
		s.tabs[x] = x%8 == 0
	}
	return s
}

func slowBlank(w, h int) [][]api.Cell {
	var rows [][]api.Cell
	for range h {
		rows = append(rows, slices.Repeat([]api.Cell{{R: ' '}}, w))
	}
	return rows
}

func (s *slow) grid() api.Grid {
	return api.Grid{W: s.w, H: s.h, Cells: slices.Concat(s.grids[s.alt]...)}
}

func (s *slow) rows() [][]api.Cell { return s.grids[s.alt] }

func (s *slow) free() api.Cell { return api.Cell{R: ' ', Bg: s.at.pen.Bg} }

func (s *slow) freeRow() []api.Cell { return slices.Repeat([]api.Cell{s.free()}, s.w) }

func (s *slow) mend() {
	for y, row := range s.rows() {
		s.rows()[y] = cell.Mend(row)
	}
}

// up moves the rows from top on, below the region's end, up by one.
func (s *slow) up(top int, counts bool) {
	rows := s.rows()
	if counts && s.alt == 0 && top == 0 {
		s.gone = append(s.gone, rows[0])
		s.gone = s.gone[max(0, len(s.gone)-500):]
	}
	for y := top; y < s.end-1; y++ {
		rows[y] = rows[y+1]
	}
	rows[s.end-1] = s.freeRow()
}

// down moves the rows from top on, below the region's end, down by one.
func (s *slow) down(top int) {
	rows := s.rows()
	for y := s.end - 1; y > top; y-- {
		rows[y] = rows[y-1]
	}
	rows[top] = s.freeRow()
}

func (s *slow) goDown() {
	if s.at.y == s.end-1 {
		s.up(s.top, true)
	} else if s.at.y < s.h-1 {
		s.at.y++
	}
}

func (s *slow) goUp() {
	if s.at.y == s.top {
		s.down(s.top)
	} else if s.at.y > 0 {
		s.at.y--
	}
}

// fill makes all the places free for which where holds.
func (s *slow) fill(where func(x, y int) bool) {
	for y, row := range s.rows() {
		for x := range row {
			if where(x, y) {
				row[x] = s.free()
			}
		}
	}
	s.mend()
}

// num is what the document calls Num, of an act that may be.
func num(a api.Act, i, least int) int {
	if i < a.N && a.Nums[i] > least {
		return a.Nums[i]
	}
	return least
}

func (s *slow) do(a api.Act) {
	plain := a.Mid == 0 && a.Private == 0
	switch {
	case a.Kind == api.Print:
		s.print(a.R)
	case a.Kind == api.Ctl:
		s.control(a.R)
	case a.Kind == api.Esc && a.Mid == 0:
		s.escape(a.R)
	case a.Kind == api.Csi && plain && a.R == 'm':
		s.at.pen = pen.Apply(s.at.pen, a)
	case a.Kind == api.Csi && plain:
		s.move(a)
		s.change(a)
		s.rest(a)
	case a.Kind == api.Csi && a.Mid == 0 && a.Private == '?' && (a.R == 'h' || a.R == 'l'):
		for _, n := range a.Nums[:a.N] {
			s.mode(n, a.R == 'h')
		}
	}
}

func (s *slow) print(r rune) {
	n := runes.Width(r)
	if n == 0 || n > s.w {
		return
	}
	if s.waits {
		s.at.x = 0
		s.goDown()
	}
	if s.at.x+n > s.w {
		if s.wraps {
			s.at.x = 0
			s.goDown()
		} else {
			s.at.x = s.w - n
		}
	}
	row := s.rows()[s.at.y]
	copy(row[s.at.x:], cell.Make(r, s.at.pen))
	s.rows()[s.at.y] = cell.Mend(row)
	s.waits = false
	s.at.x += n
	if s.at.x == s.w {
		s.at.x--
		s.waits = s.wraps
	}
}

func (s *slow) control(r rune) {
	switch r {
	case 8:
		if s.at.x > 0 {
			s.at.x--
		}
	case 9:
		next := s.w - 1
		for x := s.w - 1; x > s.at.x; x-- {
			if s.tabs[x] {
				next = x
			}
		}
		s.at.x = next
	case 10, 11, 12:
		s.goDown()
	case 13:
		s.at.x = 0
	default:
		return
	}
	s.waits = false
}

func (s *slow) escape(r rune) {
	switch r {
	case '7':
		s.saved[s.alt] = s.at
		return
	case 'H':
		s.tabs[s.at.x] = true
		return
	case 'D':
		s.goDown()
	case 'E':
		s.at.x = 0
		s.goDown()
	case 'M':
		s.goUp()
	case '8':
		s.at = s.saved[s.alt]
	case 'c':
		gone := s.gone
		*s = *slowNew(s.w, s.h)
		s.gone = gone
	default:
		return
	}
	s.waits = false
}

// step goes one row up or down, if the region and the grid let it.
func (s *slow) step(by int) {
	switch {
	case by < 0 && (s.at.y == s.top || s.at.y == 0):
	case by > 0 && (s.at.y == s.end-1 || s.at.y == s.h-1):
	default:
		s.at.y += by
	}
}

func (s *slow) move(a api.Act) {
	n := num(a, 0, 1)
	for range n {
		switch a.R {
		case 'A', 'F':
			s.step(-1)
		case 'B', 'E':
			s.step(1)
		case 'C':
			s.at.x = min(s.at.x+1, s.w-1)
		case 'D':
			s.at.x = max(s.at.x-1, 0)
		}
	}
	switch a.R {
	case 'E', 'F':
		s.at.x = 0
	case 'G', '`':
		s.at.x = min(n-1, s.w-1)
	case 'd':
		s.at.y = min(n-1, s.h-1)
	case 'H', 'f':
		s.at.y = min(n-1, s.h-1)
		s.at.x = min(num(a, 1, 1)-1, s.w-1)
	}
}

func (s *slow) change(a api.Act) {
	cx, cy, which := s.at.x, s.at.y, num(a, 0, 0)
	n := num(a, 0, 1)
	switch a.R {
	case 'J', 'K':
		s.fill(func(x, y int) bool {
			if y != cy {
				return a.R == 'J' && (which == 2 || which == 0 && y > cy || which == 1 && y < cy)
			}
			return which == 2 || which == 0 && x >= cx || which == 1 && x <= cx
		})
	case 'X':
		s.fill(func(x, y int) bool { return y == cy && x >= cx && x < cx+n })
	case '@', 'P':
		row := s.rows()[cy]
		for range n {
			if a.R == '@' {
				row = slices.Insert(row[:s.w-1], cx, s.free())
			} else {
				row = append(slices.Delete(row, cx, cx+1), s.free())
			}
		}
		s.rows()[cy] = row
		s.mend()
	case 'L', 'M':
		if cy < s.top || cy >= s.end {
			return
		}
		for range n {
			if a.R == 'L' {
				s.down(cy)
			} else {
				s.up(cy, false)
			}
		}
		s.at.x = 0
	}
}

func (s *slow) rest(a api.Act) {
	n := num(a, 0, 1)
	switch a.R {
	case 'S':
		for range min(n, s.end-s.top) {
			s.up(s.top, true)
		}
	case 'T':
		for range n {
			s.down(s.top)
		}
	case 'r':
		end := num(a, 1, 0)
		if end == 0 || end > s.h {
			end = s.h
		}
		if n-1 < end-1 {
			s.top, s.end = n-1, end
			s.at.x, s.at.y = 0, 0
		}
	case 'u':
		s.at = s.saved[s.alt]
	case 'g':
		switch num(a, 0, 0) {
		case 0:
			s.tabs[s.at.x] = false
		case 3:
			s.tabs = map[int]bool{}
		}
		return
	case 's':
		s.saved[s.alt] = s.at
		return
	}
	for _, r := range "ABCDEFG`dHfJKLM@PXSTru" {
		if a.R == r {
			s.waits = false
		}
	}
}

func (s *slow) mode(n int, on bool) {
	switch {
	case n == 7:
		s.wraps = on
		if !on {
			s.waits = false
		}
	case n == 25:
		s.hidden = !on
	case n != 47 && n != 1047 && n != 1049:
	case on && s.alt == 0:
		s.saved[0] = s.at
		s.alt = 1
		s.grids[1] = slowBlank(s.w, s.h)
		s.waits = false
	case !on && s.alt == 1:
		s.alt = 0
		s.at = s.saved[0]
		s.waits = false
	}
}

// resize gives both grids another size, that may be.
func (s *slow) resize(w, h int) {
	for i, old := range s.grids {
		g := api.Grid{W: s.w, H: s.h, Cells: slices.Concat(old...)}
		s.grids[i] = slices.Collect(slices.Chunk(grid.Resize(g, w, h, api.Cell{R: ' '}).Cells, w))
	}
	for _, p := range []*slowSpot{&s.at, &s.saved[0], &s.saved[1]} {
		p.x, p.y = min(p.x, w-1), min(p.y, h-1)
	}
	s.w, s.h, s.top, s.end, s.waits = w, h, 0, h, false
}
