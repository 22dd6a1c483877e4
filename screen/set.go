package screen

import (
	"lyceum/api"
	"lyceum/escape"
	"lyceum/grid"
	"lyceum/pen"
)

// set does an act behind which a wrap that waits goes on waiting; of all that mean nothing, nothing.
func (s *Screen) set(a api.Act) {
	switch {
	case a.Mid != 0:
	case a.Kind == api.Esc:
		s.setByEscape(a.R)
	case a.Kind == api.Csi && a.Private == 0:
		s.setBySequence(a)
	case a.Kind == api.Csi && a.Private == '?':
		s.setModes(a)
	}
}

// setByEscape does an escape sequence.
func (s *Screen) setByEscape(r rune) {
	switch r {
	case '7':
		s.save()
	case 'H':
		s.tabs[s.x] = true
	}
}

// setBySequence does a control sequence.
func (s *Screen) setBySequence(a api.Act) {
	switch a.R {
	case 'm':
		s.pen = pen.Apply(s.pen, a)
	case 'g':
		s.clearTabs(escape.Num(a, 0, 0))
	case 's':
		s.save()
	}
}

// clearTabs takes away the tab where the cursor is (0), or all of them (3).
func (s *Screen) clearTabs(which int) {
	switch which {
	case 0:
		s.tabs[s.x] = false
	case 3:
		s.tabs = [len(s.tabs)]bool{}
	}
}

// setModes turns on, or off, what an act's numbers stand for.
func (s *Screen) setModes(a api.Act) {
	if a.R != 'h' && a.R != 'l' {
		return
	}
	for i := range min(a.N, len(a.Nums)) {
		s.setMode(a.Nums[i], a.R == 'h')
	}
}

// setMode turns one of these on, or off.
func (s *Screen) setMode(n int, on bool) {
	switch n {
	case 7:
		s.wraps = on
		s.waits = s.waits && on
	case 25:
		s.shown = on
	case 47, 1047, 1049:
		s.show(on)
	}
}

// show shows the other grid, or the usual one, if it is not the one that is shown.
func (s *Screen) show(alt bool) {
	switch {
	case alt && s.which == usual:
		s.save()
		s.which = other
		s.grids[other] = grid.New(s.w, s.h)
	case !alt && s.which == other:
		s.which = usual
		s.restore()
	default:
		return
	}
	s.waits = false
}
