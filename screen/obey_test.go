package screen

import (
	"fmt"
	"strings"
	"testing"

	"lyceum/api"
	"lyceum/cell"
)

// P9.3 (obeyed)

func TestControlCharacters(t *testing.T) {
	wantKnown(t, []known{
		{"ab\bx", "ax||", 2, 0},
		{"\bx", "x||", 1, 0},
		{"abcd\bx", "abxd||", 3, 0},
		{"a\nb\vc\fd", " b|  c|   d", 3, 2},
		{"ab\rx", "xb||", 1, 0},
		{"abcd\rx", "xbcd||", 1, 0},
		{"abcd\ne", "abcd|   e|", 3, 1},
		{"a\tb", "a  b||", 3, 0},
		{"abcd\te", "abce||", 3, 0},
		{"a\x00\x07\x0e\x0fb", "ab||", 2, 0},
		{"abcd\x00\x07\x0e\x0fe", "abcd|e|", 1, 1},
	})
}

func TestTabs(t *testing.T) {
	for _, k := range []struct {
		w    int
		s    string
		want int
	}{
		{20, "\t", 8}, {20, "1234567\t", 8}, {20, "12345678\t", 16}, {20, "\t\t\t", 19}, {20, "\t\t\t\t", 19},
		{9, "\t", 8}, {8, "\t", 7}, {16, "\t\t", 15}, {17, "\t\t", 16}, {1, "\t", 0},
		{200, strings.Repeat("\t", 24), 192}, {200, strings.Repeat("\t", 25), 199}, {200, strings.Repeat("\t", 30), 199},
		{20, "123\x1bH\r\t", 3}, {20, "123\x1bH\r\t\t", 8}, {20, "\x1bH\t", 8},
		{20, "\t\x1b[g\r\t", 16}, {20, "\t\x1b[0g\r\t", 16}, {20, "\t\b\x1b[g\r\t", 8},
		{20, "\x1b[3g\t", 19}, {20, "\x1b[3g12\x1bH\r\t", 2}, {20, "\x1b[3g12\x1bH\r\t\t", 19},
		{20, "\x1b[1g\x1b[2g\x1b[4g\t", 8}, {20, "\t\x1b[1g\x1b[2g\x1b[5g\r\t", 8},
		{20, "\t\x1b[?g\x1b[ g\x1b[>3g\r\t", 8}, {20, "12\x1b(H\r\t", 8}, {20, "\x1b[3g\x1bc\t", 8},
		{200, "\x1b[200G\x1bH\r\x1b[3g\t", 199},
	} {
		if x, y, _ := of(k.w, 2, k.s).Cursor(); x != k.want || y != 0 {
			t.Errorf("%d wide, %q: %d, %d, want %d", k.w, k.s, x, y, k.want)
		}
	}
}

func TestEscapes(t *testing.T) {
	wantKnown(t, []known{
		{"ab\x1bDc", "ab|  c|", 3, 1},
		{"ab\x1bEc", "ab|c|", 1, 1},
		{"1\r\n2\r\n3\x1bD", "2|3|", 1, 2},
		{"1\r\n2\r\n3\x1bE", "2|3|", 0, 2},
		{"1\r\n2\r\n3\x1bMx", "1|2x|3", 2, 1},
		{"1\r\n2\r\n3\x1bM\x1bM\x1bMx", " x|1|2", 2, 0},
		{"ab\x1b7\r\ncd\x1b8x", "abx|cd|", 3, 0},
		{"ab\x1b8x", "xb||", 1, 0},
		{"abcd\x1bcx", "x||", 1, 0},
		{"ab\x1b(D\x1b(E\x1b(M\x1b(c\x1b(8c", "abc||", 3, 0},
		{"abcd\x1b(D\x1b(E\x1b(M\x1b(c\x1b(8\x1b(7e", "abcd|e|", 1, 1},
		{"abcd\x1b=\x1bZ\x1bde", "abcd|e|", 1, 1},
	})
}

func TestEscapesInARegion(t *testing.T) {
	const before = "1\r\n2\r\n3\r\n4\r\n5\x1b[2;4r"
	for _, k := range []known{
		{"\x1b[4Hx\x1bD", "1|3|x||5", 1, 3},
		{"\x1b[5Hx\x1bD", "1|2|3|4|x", 1, 4},
		{"\x1b[3Hx\x1bD", "1|2|x|4|5", 1, 3},
		{"\x1b[1Hx\x1bD", "x|2|3|4|5", 1, 1},
		{"\x1b[2Hx\x1bM", "1||x|3|5", 1, 1},
		{"\x1b[1Hx\x1bM", "x|2|3|4|5", 1, 0},
		{"\x1b[5Hx\x1bM", "1|2|3|4|x", 1, 3},
	} {
		wantLines(t, fmt.Sprintf("%q", k.s), of(4, 5, before+k.s), k.lines, k.x, k.y)
	}
}

func TestRenewed(t *testing.T) {
	s := of(20, 3, "1\r\n2\r\n3\n\x1b[3;5H\x1b[1;31;42m\x1b7\x1b[?7;25l\x1b[3g\x1b[2;3r\x1b[?1049h\x1b[2;2H\x1b7x\x1bc")
	x, y, shown := s.Cursor()
	if x != 0 || y != 0 || !shown || s.Pen() != (api.Cell{}) || s.Alt() {
		t.Errorf("%d, %d, %t, %v, %t", x, y, shown, s.Pen(), s.Alt())
	}
	wantLines(t, "blank", s, "||", 0, 0)
	wantCell(t, "a blank", s, 3, 2, cell.Blank())
	s.Do(acts("ab\x1b8c")...)
	wantLines(t, "nothing is saved", s, "cb||", 1, 0)
	s.Do(acts("\r\t")...)
	wantLines(t, "tabs", s, "cb||", 8, 0)
	s.Do(acts("\x1b[20Gyz")...)
	wantLines(t, "it wraps", s, "cb"+strings.Repeat(" ", 17)+"y|z|", 1, 1)
	s.Do(acts("\x1b[3H\n")...)
	wantLines(t, "the region", s, "z||", 0, 2)
	s.Do(acts("\x1b[?47h\x1b[31mq\x1b8")...)
	if s.Pen() != (api.Cell{}) {
		t.Error("something is saved of the other grid")
	}
	wantLines(t, "nothing is saved of the other grid", s, "||q", 0, 0)
	wantGone(t, "what is gone stays", s, "1|cb"+strings.Repeat(" ", 17)+"y")
}

func TestMoves(t *testing.T) {
	const before = "\x1b[4;5H"
	for _, k := range []struct {
		s    string
		x, y int
	}{
		{"\x1b[A", 4, 2}, {"\x1b[0A", 4, 2}, {"\x1b[1A", 4, 2}, {"\x1b[2A", 4, 1}, {"\x1b[3A", 4, 0}, {"\x1b[4A", 4, 0}, {"\x1b[9999A", 4, 0},
		{"\x1b[B", 4, 4}, {"\x1b[0B", 4, 4}, {"\x1b[2B", 4, 5}, {"\x1b[3B", 4, 6}, {"\x1b[4B", 4, 6}, {"\x1b[9999B", 4, 6},
		{"\x1b[C", 5, 3}, {"\x1b[0C", 5, 3}, {"\x1b[4C", 8, 3}, {"\x1b[5C", 8, 3}, {"\x1b[9999C", 8, 3},
		{"\x1b[D", 3, 3}, {"\x1b[0D", 3, 3}, {"\x1b[4D", 0, 3}, {"\x1b[5D", 0, 3}, {"\x1b[9999D", 0, 3},
		{"\x1b[E", 0, 4}, {"\x1b[2E", 0, 5}, {"\x1b[9999E", 0, 6},
		{"\x1b[F", 0, 2}, {"\x1b[2F", 0, 1}, {"\x1b[9999F", 0, 0},
		{"\x1b[G", 0, 3}, {"\x1b[0G", 0, 3}, {"\x1b[1G", 0, 3}, {"\x1b[9G", 8, 3}, {"\x1b[10G", 8, 3}, {"\x1b[9999G", 8, 3},
		{"\x1b[`", 0, 3}, {"\x1b[0`", 0, 3}, {"\x1b[7`", 6, 3}, {"\x1b[9999`", 8, 3},
		{"\x1b[d", 4, 0}, {"\x1b[0d", 4, 0}, {"\x1b[7d", 4, 6}, {"\x1b[8d", 4, 6}, {"\x1b[9999d", 4, 6},
		{"\x1b[H", 0, 0}, {"\x1b[2H", 0, 1}, {"\x1b[;3H", 2, 0}, {"\x1b[0;0H", 0, 0}, {"\x1b[2;3H", 2, 1}, {"\x1b[7;9H", 8, 6}, {"\x1b[8;10H", 8, 6}, {"\x1b[9999;9999H", 8, 6},
		{"\x1b[f", 0, 0}, {"\x1b[2f", 0, 1}, {"\x1b[;3f", 2, 0}, {"\x1b[2;3f", 2, 1}, {"\x1b[9999;9999f", 8, 6},
		{"\x1b[?A\x1b[>B\x1b[ C\x1b[=D\x1b[?2H\x1b[ 2d\x1b[$G", 4, 3},
	} {
		if x, y, _ := of(9, 7, before+k.s).Cursor(); x != k.x || y != k.y {
			t.Errorf("%q: %d, %d, want %d, %d", k.s, x, y, k.x, k.y)
		}
	}
}

func TestMovesInARegion(t *testing.T) {
	// The region is the rows 2, 3 and 4 of 7.
	for _, k := range []struct {
		s string
		y int
	}{
		{"\x1b[4;5H\x1b[9A", 2}, {"\x1b[3;5H\x1b[9A", 2}, {"\x1b[2;5H\x1b[9A", 0}, {"\x1b[2;5H\x1b[A", 0}, {"\x1b[7;5H\x1b[9A", 2}, {"\x1b[7;5H\x1b[A", 5},
		{"\x1b[4;5H\x1b[9B", 4}, {"\x1b[5;5H\x1b[9B", 4}, {"\x1b[6;5H\x1b[9B", 6}, {"\x1b[6;5H\x1b[B", 6}, {"\x1b[1;5H\x1b[9B", 4}, {"\x1b[1;5H\x1b[B", 1},
		{"\x1b[4;5H\x1b[9F", 2}, {"\x1b[2;5H\x1b[9F", 0}, {"\x1b[4;5H\x1b[9E", 4}, {"\x1b[6;5H\x1b[9E", 6},
		{"\x1b[4;5H\x1b[1d", 0}, {"\x1b[4;5H\x1b[9d", 6}, {"\x1b[4;5H\x1b[H", 0},
	} {
		if _, y, _ := of(9, 7, "\x1b[3;5r"+k.s).Cursor(); y != k.y {
			t.Errorf("%q: row %d, want %d", k.s, y, k.y)
		}
	}
}

func TestErased(t *testing.T) {
	const before = "abcdefghijkl\x1b[2;2H"
	wantKnown(t, []known{
		{before + "\x1b[J", "abcd|e|", 1, 1},
		{before + "\x1b[0J", "abcd|e|", 1, 1},
		{before + "\x1b[1J", "|  gh|ijkl", 1, 1},
		{before + "\x1b[2J", "||", 1, 1},
		{before + "\x1b[3J\x1b[4J\x1b[9999J", "abcd|efgh|ijkl", 1, 1},
		{before + "\x1b[0;2J", "abcd|e|", 1, 1},
		{before + "\x1b[K", "abcd|e|ijkl", 1, 1},
		{before + "\x1b[0K", "abcd|e|ijkl", 1, 1},
		{before + "\x1b[1K", "abcd|  gh|ijkl", 1, 1},
		{before + "\x1b[2K", "abcd||ijkl", 1, 1},
		{before + "\x1b[3K\x1b[4K\x1b[9999K", "abcd|efgh|ijkl", 1, 1},
		{before + "\x1b[X", "abcd|e gh|ijkl", 1, 1},
		{before + "\x1b[0X", "abcd|e gh|ijkl", 1, 1},
		{before + "\x1b[2X", "abcd|e  h|ijkl", 1, 1},
		{before + "\x1b[3X", "abcd|e|ijkl", 1, 1},
		{before + "\x1b[9999X", "abcd|e|ijkl", 1, 1},
		{before + "\x1b[?J\x1b[?2J\x1b[ 2J\x1b[>2K\x1b[?X", "abcd|efgh|ijkl", 1, 1},
		{"abcdefghijkl\x1b[H\x1b[1J", " bcd|efgh|ijkl", 0, 0},
		{"abcdefghijkl\x1b[H\x1b[J", "||", 0, 0},
		{"abcdefghijkl\x1b[3;4H\x1b[1J", "||", 3, 2},
		{"abcdefghijkl\x1b[3;4H\x1b[J", "abcd|efgh|ijk", 3, 2},
		{"a\u4e00b\x1b[2G\x1b[1K", "   b||", 1, 0},
		{"a\u4e00b\x1b[3G\x1b[K", "a||", 2, 0},
		{"a\u4e00b\x1b[3G\x1b[X", "a  b||", 2, 0},
		// The region holds nothing back.
		{"\x1b[1;2rabcdefghxxxx\x1b[3Hijkl\x1b[2;2H\x1b[2J", "||", 1, 1},
	})
}

// wantFree holds which cells of a screen of 3, 3, that was full of a, are free places of the colour 2; others are a, as they were.
func wantFree(t *testing.T, s string, free string) {
	t.Helper()
	scr := of(3, 3, "\x1b[31;44maaaaaaaaa\x1b[2;2H\x1b[1;32;42m"+s)
	for i, c := range strings.ReplaceAll(free, "|", "") {
		want := api.Cell{R: 'a', Fg: 1, Bg: 4}
		if c == '.' {
			want = api.Cell{R: ' ', Bg: 2}
		}
		wantCell(t, fmt.Sprintf("%q", s), scr, i%3, i/3, want)
	}
}

func TestFreePlacesHaveThePensBg(t *testing.T) {
	wantFree(t, "\x1b[J", "aaa|a..|...")
	wantFree(t, "\x1b[1J", "...|..a|aaa")
	wantFree(t, "\x1b[2J", "...|...|...")
	wantFree(t, "\x1b[K", "aaa|a..|aaa")
	wantFree(t, "\x1b[1K", "aaa|..a|aaa")
	wantFree(t, "\x1b[2K", "aaa|...|aaa")
	wantFree(t, "\x1b[X", "aaa|a.a|aaa")
	wantFree(t, "\x1b[L", "aaa|...|aaa")
	wantFree(t, "\x1b[M", "aaa|aaa|...")
	wantFree(t, "\x1b[@", "aaa|a.a|aaa")
	wantFree(t, "\x1b[P", "aaa|aa.|aaa")
	wantFree(t, "\x1b[S", "aaa|aaa|...")
	wantFree(t, "\x1b[T", "...|aaa|aaa")
	wantFree(t, "\x1b[3H\n", "aaa|aaa|...")
	wantFree(t, "\x1b[3H\x1bD", "aaa|aaa|...")
	wantFree(t, "\x1b[H\x1bM", "...|aaa|aaa")
}

func TestShifted(t *testing.T) {
	const before = "abcdefghijkl\x1b[2;2H"
	wantKnown(t, []known{
		{before + "\x1b[L", "abcd||efgh", 0, 1},
		{before + "\x1b[0L", "abcd||efgh", 0, 1},
		{before + "\x1b[2L", "abcd||", 0, 1},
		{before + "\x1b[9999L", "abcd||", 0, 1},
		{before + "\x1b[M", "abcd|ijkl|", 0, 1},
		{before + "\x1b[0M", "abcd|ijkl|", 0, 1},
		{before + "\x1b[2M", "abcd||", 0, 1},
		{before + "\x1b[9999M", "abcd||", 0, 1},
		{before + "\x1b[@", "abcd|e fg|ijkl", 1, 1},
		{before + "\x1b[2@", "abcd|e  f|ijkl", 1, 1},
		{before + "\x1b[3@", "abcd|e|ijkl", 1, 1},
		{before + "\x1b[9999@", "abcd|e|ijkl", 1, 1},
		{before + "\x1b[P", "abcd|egh|ijkl", 1, 1},
		{before + "\x1b[2P", "abcd|eh|ijkl", 1, 1},
		{before + "\x1b[9999P", "abcd|e|ijkl", 1, 1},
		{before + "\x1b[S", "efgh|ijkl|", 1, 1},
		{before + "\x1b[2S", "ijkl||", 1, 1},
		{before + "\x1b[9999S", "||", 1, 1},
		{before + "\x1b[T", "|abcd|efgh", 1, 1},
		{before + "\x1b[2T", "||abcd", 1, 1},
		{before + "\x1b[9999T", "||", 1, 1},
		{before + "\x1b[?L\x1b[ M\x1b[>@\x1b[ P\x1b[?S\x1b[ T", "abcd|efgh|ijkl", 1, 1},
		{"a\u4e00b\x1b[2G\x1b[@", "a \u4e00||", 1, 0},
		{"a\u4e00b\x1b[3G\x1b[@", "a||", 2, 0},
		{"ab\u4e00\x1b[1G\x1b[@", " ab||", 0, 0},
		{"a\u4e00b\x1b[2G\x1b[P", "a b||", 1, 0},
		{"a\u4e00b\x1b[1G\x1b[P", "\u4e00b||", 0, 0},
	})
}

func TestShiftedInARegion(t *testing.T) {
	const before = "1\r\n2\r\n3\r\n4\r\n5\x1b[2;4r"
	for _, k := range []known{
		{"\x1b[3;3H\x1b[L", "1|2||3|5", 0, 2},
		{"\x1b[2;3H\x1b[9L", "1||||5", 0, 1},
		{"\x1b[3;3H\x1b[M", "1|2|4||5", 0, 2},
		{"\x1b[4;3H\x1b[M", "1|2|3||5", 0, 3},
		{"\x1b[2;3H\x1b[2M", "1|4|||5", 0, 1},
		{"\x1b[1;3H\x1b[L", "1|2|3|4|5", 2, 0},
		{"\x1b[1;3H\x1b[M", "1|2|3|4|5", 2, 0},
		{"\x1b[5;3H\x1b[L", "1|2|3|4|5", 2, 4},
		{"\x1b[5;3H\x1b[M", "1|2|3|4|5", 2, 4},
		{"\x1b[3;3H\x1b[S", "1|3|4||5", 2, 2},
		{"\x1b[5;3H\x1b[2S", "1|4|||5", 2, 4},
		{"\x1b[1;3H\x1b[T", "1||2|3|5", 2, 0},
		{"\x1b[3;3H\x1b[9T", "1||||5", 2, 2},
	} {
		wantLines(t, fmt.Sprintf("%q", k.s), of(4, 5, before+k.s), k.lines, k.x, k.y)
	}
}

func TestRegions(t *testing.T) {
	// Of each region of a screen of 4 rows, what a scrolling up leaves; the cursor is at 0, 0, if there is such a region.
	const before = "1\r\n2\r\n3\r\n4\x1b[2;3H"
	for _, k := range []struct {
		s, lines string
		taken    bool
	}{
		{"\x1b[r", "2|3|4|", true}, {"\x1b[0r", "2|3|4|", true}, {"\x1b[1r", "2|3|4|", true}, {"\x1b[;4r", "2|3|4|", true}, {"\x1b[0;0r", "2|3|4|", true},
		{"\x1b[1;9999r", "2|3|4|", true}, {"\x1b[1;5r", "2|3|4|", true}, {"\x1b[2r", "1|3|4|", true}, {"\x1b[2;0r", "1|3|4|", true},
		{"\x1b[2;3r", "1|3||4", true}, {"\x1b[1;2r", "2||3|4", true}, {"\x1b[3;4r", "1|2|4|", true}, {"\x1b[3;9r", "1|2|4|", true},
		{"\x1b[2;2r", "2|3|4|", false}, {"\x1b[1;1r", "2|3|4|", false}, {"\x1b[3;2r", "2|3|4|", false}, {"\x1b[4r", "2|3|4|", false}, {"\x1b[4;4r", "2|3|4|", false},
		{"\x1b[5r", "2|3|4|", false}, {"\x1b[9999;9999r", "2|3|4|", false}, {"\x1b[?2;3r", "2|3|4|", false}, {"\x1b[2;3 r", "2|3|4|", false},
	} {
		x, y := 2, 1
		if k.taken {
			x, y = 0, 0
		}
		wantLines(t, fmt.Sprintf("%q", k.s), of(4, 4, before+k.s+"\x1b[S"), k.lines, x, y)
	}
	wantLines(t, "one row has no other region", of(4, 1, "a\x1b[1;1r"), "a", 1, 0)
	wantLines(t, "a refused region leaves the one that was", of(4, 4, before+"\x1b[2;3r\x1b[3;3r\x1b[S"), "1|3||4", 0, 0)
	wantLines(t, "both grids have one region", of(4, 4, before+"\x1b[2;3r\x1b[?47h\x1b[?47l\x1b[S"), "1|3||4", 0, 0)
}

func TestTakenBack(t *testing.T) {
	wantKnown(t, []known{
		{"ab\x1b[s\r\ncd\x1b[ux", "abx|cd|", 3, 0},
		{"ab\x1b[s\r\ncd\x1b8x", "abx|cd|", 3, 0},
		{"ab\x1b7\r\ncd\x1b[ux", "abx|cd|", 3, 0},
		{"ab\x1b7c\x1b8\x1b8\x1b[uy", "aby||", 3, 0},
		{"ab\x1b[ux", "xb||", 1, 0},
		{"ab\x1b[s\x1b[C\x1b[?u\x1b[ ux", "ab x||", 3, 0},
		{"ab\x1b[s\x1b[C\x1b[?s\x1b[ s\x1b(7\x1b[ux", "abx||", 3, 0},
	})
	s := of(4, 3, "\x1b[1;31;42m\x1b7\x1b[m\x1b[?7;25l\x1b[2;2r\x1b8")
	if want := (api.Cell{Fg: 1, Bg: 2, Attr: api.Bold}); s.Pen() != want {
		t.Errorf("%v, want %v", s.Pen(), want)
	}
	if _, _, shown := s.Cursor(); shown {
		t.Error("whether the cursor is shown was taken back")
	}
	s.Do(acts("\x1b[?47h\x1b[3;3H\x1b[33m\x1b[u")...)
	if s.Pen() != (api.Cell{}) {
		t.Errorf("of the other grid %v was taken back", s.Pen())
	}
	wantLines(t, "of the other grid nothing was saved", s, "||", 0, 0)
}

func TestNoWrapWaitsBehindThese(t *testing.T) {
	for _, s := range []string{
		"\b", "\t", "\n", "\v", "\f", "\r", "\x1bD", "\x1bE", "\x1bM", "\x1b8", "\x1bc",
		"\x1b[A", "\x1b[B", "\x1b[C", "\x1b[D", "\x1b[E", "\x1b[F", "\x1b[G", "\x1b[`", "\x1b[d", "\x1b[H", "\x1b[f",
		"\x1b[J", "\x1b[1J", "\x1b[2J", "\x1b[3J", "\x1b[9J", "\x1b[K", "\x1b[1K", "\x1b[2K", "\x1b[3K", "\x1b[9K",
		"\x1b[L", "\x1b[M", "\x1b[@", "\x1b[P", "\x1b[X", "\x1b[S", "\x1b[T", "\x1b[r", "\x1b[3;3r", "\x1b[9;9r", "\x1b[u",
		"\x1b[?7l", "\x1b[?47h", "\x1b[?1047h", "\x1b[?1049h",
	} {
		// A wrap waits at 3, 1; with the cursor saved there, so that what is taken back is there, too.
		scr := of(4, 3, "\x1b[2H123\x1b74"+s)
		x, y, _ := scr.Cursor()
		scr.Do(acts("x")...)
		wantCell(t, fmt.Sprintf("behind %q", s), scr, x, y, api.Cell{R: 'x'})
		// Below the region L and M do nothing else.
		scr = of(4, 3, "\x1b[1;2r\x1b[3H1234"+s)
		x, y, _ = scr.Cursor()
		scr.Do(acts("x")...)
		wantCell(t, fmt.Sprintf("below the region, behind %q", s), scr, x, y, api.Cell{R: 'x'})
	}
}
