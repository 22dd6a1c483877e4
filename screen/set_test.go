package screen

import (
	"fmt"
	"testing"

	"lyceum/api"
	"lyceum/cell"
)

// P9.4 (set)

func TestAWrapGoesOnWaitingBehindThese(t *testing.T) {
	for _, s := range []string{
		"", "\x1b7", "\x1bH", "\x1b[m", "\x1b[1;31m", "\x1b[g", "\x1b[0g", "\x1b[3g", "\x1b[1g", "\x1b[s",
		"\x1b[?7h", "\x1b[?25h", "\x1b[?25l", "\x1b[?47l", "\x1b[?1047l", "\x1b[?1049l", "\x1b[?h", "\x1b[?l", "\x1b[?1h", "\x1b[?1048l", "\x1b[?2004h",
		"\x1b[7l", "\x1b[47h", "\x1b[1049h", "\x1b[>7l", "\x1b[>1049h", "\x1b[?7 l", "\x1b[?1049$h", "\x1b[?7m", "\x1b[?7x",
		"\x1b[ A", "\x1b[?A", "\x1b[?J", "\x1b[>K", "\x1b[ @", "\x1b[?r", "\x1b[?u", "\x1b[?H", "\x1b(D", "\x1b(E", "\x1b#8", "\x1b(c", "\x1b(7", "\x1b(H",
		"\x1b=", "\x1b>", "\x1bN", "\x1bZ", "\x1b[c", "\x1b[n", "\x1b[I", "\x1b[Z", "\x1b[a", "\x1b[b", "\x1b[e", "\x1b[t", "\x1b[q", "\x1b[~", "\x1b[p",
		"\x00", "\x07", "\x0e", "\x0f", "\x01", "\x1f",
	} {
		scr := of(4, 3, "abcd"+s)
		wantLines(t, fmt.Sprintf("at %q", s), scr, "abcd||", 3, 0)
		scr.Do(acts("\x1b[mx")...)
		wantLines(t, fmt.Sprintf("behind %q", s), scr, "abcd|x|", 1, 1)
	}
}

func TestEscapesOfAPrivateToo(t *testing.T) {
	// An escape has no Private: of what one has, nothing hangs on it.
	s := of(4, 3, "ab")
	s.Do(api.Act{Kind: api.Esc, R: 'E', Private: '?'})
	wantLines(t, "E", s, "ab||", 0, 1)
}

func TestThePen(t *testing.T) {
	s := of(4, 3, "\x1b[1;31m")
	if want := (api.Cell{Fg: 1, Attr: api.Bold}); s.Pen() != want {
		t.Errorf("%v, want %v", s.Pen(), want)
	}
	s.Do(acts("\x1b[?m\x1b[ m\x1b[>0m\x1b[44m")...)
	if want := (api.Cell{Fg: 1, Bg: 4, Attr: api.Bold}); s.Pen() != want {
		t.Errorf("%v, want %v", s.Pen(), want)
	}
	s.Do(acts("\x1b[m")...)
	if s.Pen() != (api.Cell{}) {
		t.Errorf("%v, want none", s.Pen())
	}
}

func TestWraps(t *testing.T) {
	wantKnown(t, []known{
		{"\x1b[?7labcdef", "abcf||", 3, 0},
		{"\x1b[?7l\x1b[?7habcdef", "abcd|ef|", 2, 1},
		{"abcd\x1b[?7lef", "abcf||", 3, 0},
		{"abcd\x1b[?7l\x1b[?7hef", "abce|f|", 1, 1},
		{"abcd\x1b[?7hef", "abcd|ef|", 2, 1},
		{"\x1b[7labcdef", "abcd|ef|", 2, 1},
		{"\x1b[?7 labcdef", "abcd|ef|", 2, 1},
		{"\x1b[>7labcdef", "abcd|ef|", 2, 1},
		{"\x1b[?7habc\x1b[?6;7;8lde", "abce||", 3, 0},
	})
}

func TestTheCursorIsShown(t *testing.T) {
	for _, k := range []struct {
		s    string
		want bool
	}{
		{"", true}, {"\x1b[?25l", false}, {"\x1b[?25l\x1b[?25h", true}, {"\x1b[?25h", true}, {"\x1b[?7;25l", false}, {"\x1b[?25;7l", false},
		{"\x1b[25l", true}, {"\x1b[>25l", true}, {"\x1b[?25 l", true}, {"\x1b[?24l\x1b[?26l\x1b[?l", true}, {"\x1b[?25m\x1b[?25s", true},
		{"\x1b[?1;2;3;4;5;6;8;25l", false}, {"\x1b[?1;2;3;4;5;6;8;9;25l", true},
	} {
		if _, _, shown := of(4, 3, k.s).Cursor(); shown != k.want {
			t.Errorf("%q: %t, want %t", k.s, shown, k.want)
		}
	}
}

func TestNumbersBeyondThoseThatThereAre(t *testing.T) {
	s := New(4, 3)
	for _, n := range []int{0, -1, -9} {
		s.Do(api.Act{Kind: api.Csi, R: 'l', Private: '?', N: n, Nums: [8]int{25, 25, 25, 25, 25, 25, 25, 25}})
	}
	s.Do(api.Act{Kind: api.Csi, R: 'l', Private: '?', N: 2, Nums: [8]int{1, 2, 25}})
	if _, _, shown := s.Cursor(); !shown {
		t.Error("a number that the act has not is obeyed")
	}
	s.Do(api.Act{Kind: api.Csi, R: 'l', Private: '?', N: 99, Nums: [8]int{1, 2, 3, 4, 5, 6, 8, 25}})
	if _, _, shown := s.Cursor(); shown {
		t.Error("an act's last number is not obeyed")
	}
}

func TestTheOtherGrid(t *testing.T) {
	for _, n := range []string{"47", "1047", "1049", "1;1049", "47;1049", "1049;1047;47"} {
		h, l := "\x1b[?"+n+"h", "\x1b[?"+n+"l"
		s := of(4, 3, "ab\x1b[1;41m"+h)
		if !s.Alt() {
			t.Errorf("%s: the usual grid is shown", n)
		}
		wantLines(t, n+" on", s, "||", 2, 0)
		wantCell(t, n+" on", s, 3, 2, cell.Blank())
		if want := (api.Cell{Bg: 1, Attr: api.Bold}); s.Pen() != want {
			t.Errorf("%s: the pen is %v, want %v", n, s.Pen(), want)
		}
		s.Do(acts("xy\r\nz\x1b[m" + h)...)
		wantLines(t, n+" on again", s, "  xy|z|", 1, 1)
		s.Do(acts(l)...)
		wantLines(t, n+" off", s, "ab||", 2, 0)
		if want := (api.Cell{Bg: 1, Attr: api.Bold}); s.Pen() != want || s.Alt() {
			t.Errorf("%s: the pen is %v, want %v", n, s.Pen(), want)
		}
		s.Do(acts("\x1b[3;3H" + l)...)
		wantLines(t, n+" off again", s, "ab||", 2, 2)
		s.Do(acts(h)...)
		wantLines(t, n+" on, and blank anew", s, "||", 2, 2)
	}
}

func TestTheOtherGridByOthers(t *testing.T) {
	for _, s := range []string{"\x1b[47h", "\x1b[1049h", "\x1b[>1049h", "\x1b[?1049 h", "\x1b[?1048h", "\x1b[?1046h", "\x1b[?h", "\x1b[?1049l", "\x1b[?1049m"} {
		if of(4, 3, s).Alt() {
			t.Errorf("%q: the other grid is shown", s)
		}
	}
	for _, s := range []string{"\x1b[47l", "\x1b[1049l", "\x1b[>1049l", "\x1b[?1049 l", "\x1b[?1048l", "\x1b[?l", "\x1b[?1049h"} {
		if !of(4, 3, "\x1b[?1049h"+s).Alt() {
			t.Errorf("%q: the usual grid is shown", s)
		}
	}
	if of(4, 3, "\x1b[?1049;1049h\x1b[?47;7l").Alt() || !of(4, 3, "\x1b[?47h").Alt() {
		t.Error("numbers are not obeyed in order")
	}
}

func TestAWrapAndTheOtherGrid(t *testing.T) {
	wantKnown(t, []known{
		// None waits behind a change of what is shown.
		{"abcd\x1b[?1049hx", "   x||", 3, 0},
		{"abcd\x1b[?1049h\x1b[?1049lx", "abcx||", 3, 0},
		{"abc\x1b[?1049hd\x1b[?1049lx", "abcx||", 3, 0},
		// One goes on waiting, where nothing is changed.
		{"abcd\x1b[?1049lx", "abcd|x|", 1, 1},
		{"\x1b[?1049habcd\x1b[?1049hx", "abcd|x|", 1, 1},
	})
}

func TestSavedOfEachGrid(t *testing.T) {
	// Of the usual grid 1, 1 is saved, and then, by what shows the other one, 2, 1; of the other one 3, 2.
	s := of(4, 3, "\x1b[2;2H\x1b7\x1b[2;3H\x1b[?47h\x1b[3;4H\x1b[32m\x1b[s\x1b[H")
	s.Do(acts("\x1b[u")...)
	wantLines(t, "of the other grid", s, "||", 3, 2)
	if s.Pen() != (api.Cell{Fg: 2}) {
		t.Errorf("the pen is %v", s.Pen())
	}
	s.Do(acts("\x1b[?47l")...)
	wantLines(t, "of the usual grid", s, "||", 2, 1)
	if s.Pen() != (api.Cell{}) {
		t.Errorf("the pen is %v", s.Pen())
	}
	s.Do(acts("\x1b[H\x1b[u")...)
	wantLines(t, "of the usual grid, again", s, "||", 2, 1)
	s.Do(acts("\x1b[H\x1b[?47h\x1b[u")...)
	wantLines(t, "of the other grid, again", s, "||", 3, 2)
}
