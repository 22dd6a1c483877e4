package screen

import (
	"fmt"
	"math"
	"slices"
	"strings"
	"testing"

	"lyceum/api"
	"lyceum/cell"
	"lyceum/escape"
	"lyceum/grid"
)

// acts are what a text's characters tell.
func acts(s string) []api.Act {
	var p escape.Parser
	return p.Feed([]rune(s)...)
}

// of is a screen of a size to which a text's characters were done.
func of(w, h int, s string) *Screen {
	out := New(w, h)
	out.Do(acts(s)...)
	return out
}

// wantLines holds the grid's lines, parted by a bar, and where the cursor is.
func wantLines(t *testing.T, what string, s *Screen, lines string, x, y int) {
	t.Helper()
	gotX, gotY, _ := s.Cursor()
	if got := strings.Join(grid.Lines(s.Grid()), "|"); got != lines || gotX != x || gotY != y {
		t.Errorf("%s: %q at %d, %d; want %q at %d, %d", what, got, gotX, gotY, lines, x, y)
	}
}

// known is what a text makes of a screen of 4, 3.
type known struct {
	s, lines string
	x, y     int
}

func wantKnown(t *testing.T, l []known) {
	t.Helper()
	for _, k := range l {
		wantLines(t, fmt.Sprintf("%q", k.s), of(4, 3, k.s), k.lines, k.x, k.y)
	}
}

// wantCell holds the cell at a place.
func wantCell(t *testing.T, what string, s *Screen, x, y int, want api.Cell) {
	t.Helper()
	if got := grid.At(s.Grid(), x, y); got != want {
		t.Errorf("%s: at %d, %d is %v, want %v", what, x, y, got, want)
	}
}

// goneOf is the texts of the rows that are gone.
func goneOf(s *Screen) string {
	var l []string
	for _, row := range s.Gone() {
		l = append(l, cell.Text(row))
	}
	return strings.Join(l, "|")
}

func wantGone(t *testing.T, what string, s *Screen, want string) {
	t.Helper()
	if got := goneOf(s); got != want {
		t.Errorf("%s: gone is %q, want %q", what, got, want)
	}
}

// P9.1 (made)

func TestANewOne(t *testing.T) {
	for _, size := range [][2]int{{1, 1}, {4, 3}, {200, 60}, {200, 1}, {1, 60}} {
		s := New(size[0], size[1])
		if !grid.Same(s.Grid(), grid.New(size[0], size[1])) {
			t.Errorf("%v: not blank", size)
		}
		x, y, shown := s.Cursor()
		if x != 0 || y != 0 || !shown || s.Pen() != (api.Cell{}) || s.Alt() || len(s.Gone()) != 0 {
			t.Errorf("%v: %d, %d, %t, %v, %t", size, x, y, shown, s.Pen(), s.Alt())
		}
	}
}

// wrongSizes are those that may not be.
var wrongSizes = [][2]int{{0, 1}, {1, 0}, {0, 0}, {-1, 1}, {1, -1}, {-1, -1}, {201, 1}, {1, 61}, {math.MinInt, 1}, {1, math.MaxInt}, {1 << 32, 1 << 32}, {1<<32 + 1, 1}}

func TestSizesThatMayNotBe(t *testing.T) {
	for _, size := range wrongSizes {
		if s := New(size[0], size[1]); s != nil {
			t.Errorf("%v: %v", size, s.Grid())
		}
		s := of(4, 3, "abcd\x1b[2;3r\x1b[3;2H\x1b7")
		if s.Resize(size[0], size[1]) {
			t.Errorf("%v: resized", size)
		}
		wantLines(t, "a size that may not be", s, "abcd||", 1, 2)
		s.Do(acts("\n\x1b[H\n\n\n\x1b8!")...)
		wantLines(t, "the region behind it", s, "abcd|| !", 2, 2)
	}
}

func TestARefusedSizeLetsAWrapWait(t *testing.T) {
	s := of(4, 3, "abcd")
	s.Resize(0, 3)
	s.Do(acts("e")...)
	wantLines(t, "0, 3", s, "abcd|e|", 1, 1)
}

func TestPenAndCursorAreTold(t *testing.T) {
	s := of(4, 3, "ab\n\x1b[1;4;31;42m\x1b[?25l")
	x, y, shown := s.Cursor()
	if x != 2 || y != 1 || shown {
		t.Errorf("%d, %d, %t", x, y, shown)
	}
	if want := (api.Cell{Fg: 1, Bg: 2, Attr: api.Bold | api.Underline}); s.Pen() != want {
		t.Errorf("%v, want %v", s.Pen(), want)
	}
}

func TestGoneIsToldOnce(t *testing.T) {
	s := of(4, 2, "a\r\nb\r\nc\r\nd")
	wantGone(t, "two rows", s, "a|b")
	wantGone(t, "none since", s, "")
	s.Do(acts("\r\ne")...)
	wantGone(t, "one since", s, "c")
	wide := of(3, 1, "\x1b[1;31m\u4e00x\r\n")
	want := append(cell.Make(0x4e00, api.Cell{Fg: 1, Attr: api.Bold}), api.Cell{R: 'x', Fg: 1, Attr: api.Bold})
	if got := wide.Gone(); len(got) != 1 || !slices.Equal(got[0], want) {
		t.Errorf("%v, want %v", got, want)
	}
}

func TestAtMost500RowsAreGone(t *testing.T) {
	for _, n := range []int{499, 500, 501, 1234} {
		s := New(4, 1)
		for i := range n {
			s.Do(acts(fmt.Sprintf("%d\r\n", i))...)
		}
		got := strings.Split(goneOf(s), "|")
		first := max(0, n-500)
		if len(got) != n-first || got[0] != fmt.Sprint(first) || got[len(got)-1] != fmt.Sprint(n-1) {
			t.Errorf("of %d: %d rows, from %s to %s", n, len(got), got[0], got[len(got)-1])
		}
	}
	s := New(4, 60)
	for range 20 {
		s.Do(acts("x\x1b[60S")...)
	}
	if got := len(s.Gone()); got != 500 {
		t.Errorf("%d rows are gone", got)
	}
}

func TestResize(t *testing.T) {
	s := of(4, 3, "abcd\r\ne\u4e00\r\nfghi")
	if !s.Resize(2, 2) {
		t.Error("not resized")
	}
	wantLines(t, "smaller", s, "ab|e", 1, 1)
	s.Do(acts("x")...)
	wantLines(t, "no wrap waits", s, "ab|ex", 1, 1)
	if !s.Resize(200, 60) || !s.Resize(5, 3) {
		t.Error("not resized")
	}
	wantLines(t, "greater", s, "ab|ex|", 1, 1)
	s.Do(acts("yz")...)
	wantLines(t, "no wrap waits any more", s, "ab|eyz|", 3, 1)
	wantGone(t, "by Resize", s, "")
}

func TestResizeLetsNoWrapWait(t *testing.T) {
	s := of(4, 3, "abcd")
	s.Resize(4, 3)
	s.Do(acts("x")...)
	wantLines(t, "the same size", s, "abcx||", 3, 0)
}

func TestResizeWithBlanks(t *testing.T) {
	s := of(2, 1, "\x1b[1;41mab")
	s.Resize(3, 2)
	for _, at := range [][2]int{{2, 0}, {0, 1}, {2, 1}} {
		wantCell(t, "beside", s, at[0], at[1], cell.Blank())
	}
	if s.Pen() != (api.Cell{Bg: 1, Attr: api.Bold}) {
		t.Errorf("the pen is %v", s.Pen())
	}
}

func TestResizeOfBothGrids(t *testing.T) {
	s := of(4, 3, "abcd\r\nefgh\x1b[?1049h\x1b[Hwxyz\x1b[3;4H\x1b7")
	s.Resize(2, 2)
	wantLines(t, "the other grid", s, "wx|", 1, 1)
	s.Do(acts("\x1b[H\x1b8!")...)
	wantLines(t, "what was saved of the other grid", s, "wx| !", 1, 1)
	s.Do(acts("\x1b[?1049l")...)
	wantLines(t, "the usual grid", s, "ab|ef", 1, 1)
	s = of(4, 3, "\x1b[3;4H\x1b7\x1b[?1049h")
	s.Resize(3, 2)
	s.Do(acts("\x1b[?1049l?")...)
	wantLines(t, "what was saved of the usual grid", s, "|  ?", 2, 1)
}

func TestResizeMakesTheRegionAllRows(t *testing.T) {
	s := of(4, 3, "1\r\n2\r\n3\x1b[2;3r")
	s.Resize(4, 4)
	s.Do(acts("\x1b[4Ha\n")...)
	wantLines(t, "higher", s, "2|3|a|", 1, 3)
	wantGone(t, "higher", s, "1")
	s.Resize(4, 2)
	s.Do(acts("\x1b[2H\n")...)
	wantLines(t, "lower", s, "3|", 0, 1)
}

func TestResizeLeavesTheTabs(t *testing.T) {
	s := of(4, 1, "\x1b[3G\x1bH")
	s.Resize(40, 1)
	for _, want := range []int{2, 8, 16, 24, 32, 39} {
		if want == 2 {
			s.Do(acts("\r")...)
		}
		s.Do(acts("\t")...)
		if x, _, _ := s.Cursor(); x != want {
			t.Errorf("the tab is %d, want %d", x, want)
		}
	}
}

// A nil screen, and one that New did not make.

func TestNoScreen(t *testing.T) {
	for what, s := range map[string]*Screen{"nil": nil, "zero": {}} {
		s.Do(acts("ab\n\t\x1b[S\x1b[2J\x1b[@\x1b[H\x1bc\x1b[?1049h\x1b[m\x1bH\x1b7\x1b8")...)
		s.Do()
		x, y, shown := s.Cursor()
		if x != 0 || y != 0 || shown || s.Pen() != (api.Cell{}) || s.Alt() || len(s.Gone()) != 0 || s.Resize(4, 3) || s.Resize(0, 0) {
			t.Errorf("%s: %d, %d, %t, %v", what, x, y, shown, s.Pen())
		}
		if g := s.Grid(); g.W != 0 || g.H != 0 || len(g.Cells) != 0 {
			t.Errorf("%s: %v", what, g)
		}
	}
}

// R3 (memory)

func TestWhatIsToldIsTheCallers(t *testing.T) {
	s := of(4, 2, "abc\r\nd")
	g := s.Grid()
	clear(g.Cells)
	wantLines(t, "the grid", s, "abc|d", 1, 1)
	s.Do(acts("\r\nefgh\r\ni")...)
	if slices.ContainsFunc(g.Cells, func(c api.Cell) bool { return c != api.Cell{} }) {
		t.Error("a grid that was told is changed by an act")
	}
	gone := s.Gone()
	for _, row := range gone {
		clear(append(row, cell.Blank()))
		clear(row)
	}
	clear(gone)
	s.Do(acts("\r\nj")...)
	wantLines(t, "behind Gone", s, "i|j", 1, 1)
	wantGone(t, "behind Gone", s, "efgh")
}

func TestWhatIsHandedInStays(t *testing.T) {
	l := acts("ab\x1b[1;31mc\n\x1b[2;3H\x1b[?7;25l\x1b[2S")
	was := slices.Clone(l)
	s := New(4, 3)
	s.Do(l...)
	if !slices.Equal(l, was) {
		t.Error("the acts are changed")
	}
	clear(l)
	wantLines(t, "behind it", s, "||", 2, 1)
}
