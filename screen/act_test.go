package screen

import (
	"fmt"
	"math"
	"math/rand"
	"slices"
	"testing"

	"lyceum/api"
	"lyceum/cell"
	"lyceum/grid"
)

// P9.2 (printed)

func TestPrinted(t *testing.T) {
	wantLines(t, "the document's example", of(4, 2, "abcde"), "abcd|e", 1, 1)
	wantKnown(t, []known{
		{"", "||", 0, 0},
		{"ab", "ab||", 2, 0},
		{"abc", "abc||", 3, 0},
		{"abcd", "abcd||", 3, 0},
		{"abcde", "abcd|e|", 1, 1},
		{"abcdefghijkl", "abcd|efgh|ijkl", 3, 2},
		{"abcdefghijklm", "efgh|ijkl|m", 1, 2},
		{"a\u4e00", "a\u4e00||", 3, 0},
		{"ab\u4e00", "ab\u4e00||", 3, 0},
		{"ab\u4e00c", "ab\u4e00|c|", 1, 1},
		{"ab\u4e00\u4e01", "ab\u4e00|\u4e01|", 2, 1},
		{"abc\u4e00", "abc|\u4e00|", 2, 1},
		{"abcd\u4e00", "abcd|\u4e00|", 2, 1},
		{"abcdefghijk\u4e00", "efgh|ijk|\u4e00", 2, 2},
		{"abcd\x1b[H\u4e00", "\u4e00cd||", 2, 0},
		{"\u4e00\u4e01\x1b[2Gx", " x\u4e01||", 2, 0},
		{"\u4e00\u4e01\x1b[2G\u4e02", " \u4e02||", 3, 0},
		{"\u4e00\x1b[Hx", "x||", 1, 0},
	})
}

func TestPrintedWithoutAWrap(t *testing.T) {
	wantKnown(t, []known{
		{"\x1b[?7labcd", "abcd||", 3, 0},
		{"\x1b[?7labcde", "abce||", 3, 0},
		{"\x1b[?7labcd\x1b[?7he", "abce||", 3, 0},
		{"\x1b[?7labc\u4e00", "ab\u4e00||", 3, 0},
		{"\x1b[?7lab\u4e00\u4e01", "ab\u4e01||", 3, 0},
		{"\x1b[?7lab\u4e00x", "ab x||", 3, 0},
		{"\x1b[?7l\x1b[3;4Habc", "||   c", 3, 2},
	})
	wantLines(t, "just as wide", of(2, 2, "\x1b[?7lab\u4e00"), "\u4e00|", 1, 0)
}

func TestCharactersWithoutRoom(t *testing.T) {
	wantKnown(t, []known{
		{"a\u0301b", "ab||", 2, 0},
		{"a\u200b\ufe0fb", "ab||", 2, 0},
		{"abcd\u0301e", "abcd|e|", 1, 1},
	})
	wantLines(t, "1 wide", of(1, 2, "a\u4e00"), "a|", 0, 0)
	wantLines(t, "1 wide, and a wrap goes on waiting", of(1, 2, "a\u4e00b"), "a|b", 0, 1)
	wantLines(t, "1 wide, without a wrap", of(1, 2, "\x1b[?7la\u4e00b"), "b|", 0, 0)
	for _, r := range []rune{0, 7, 10, 0x1b, 0x7f, 0x9f, -1, 0xd800, 0x110000, math.MinInt32, math.MaxInt32} {
		s := of(4, 3, "abcd")
		s.Do(api.Act{Kind: api.Print, R: r})
		wantLines(t, fmt.Sprintf("%x", r), s, "abcd||", 3, 0)
		s.Do(api.Act{Kind: api.Print, R: 'e'})
		wantLines(t, fmt.Sprintf("%x, and a wrap goes on waiting", r), s, "abcd|e|", 1, 1)
	}
}

func TestPrintedWithThePen(t *testing.T) {
	s := of(4, 1, "a\x1b[1;4;31;42mb\u4e00")
	pen := api.Cell{Fg: 1, Bg: 2, Attr: api.Bold | api.Underline}
	want := slices.Concat([]api.Cell{{R: 'a'}}, cell.Make('b', pen), cell.Make(0x4e00, pen))
	if got := s.Grid().Cells; !slices.Equal(got, want) {
		t.Errorf("%v, want %v", got, want)
	}
	s.Do(acts("\x1b[m\x1b[3Gx")...)
	wantCell(t, "what was printed", s, 2, 0, api.Cell{R: 'x'})
	wantCell(t, "the half that was left", s, 3, 0, api.Cell{R: ' ', Fg: 1, Bg: 2})
	s.Do(acts("\x1b[45m\x1b[4Gy\x1b[4Gyz")...)
	wantCell(t, "free places", s, 3, 0, api.Cell{R: ' ', Bg: 5})
}

func TestPrintedWithPrivateAndMid(t *testing.T) {
	s := New(4, 1)
	s.Do(api.Act{Kind: api.Print, R: 'a', Private: '?', Mid: ' ', N: 3})
	wantLines(t, "a", s, "a", 1, 0)
}

func TestAWrapInARegion(t *testing.T) {
	wantKnown(t, []known{
		{"1\r\n2\r\n3\x1b[1;2r\x1b[2;4Hxy", "2  x|y|3", 1, 1},
		{"1\r\n2\r\n3\x1b[1;2r\x1b[3;4Hxy", "1|2|y  x", 1, 2},
		{"1\r\n2\r\n3\x1b[2;3r\x1b[1;4Hxy", "1  x|y|3", 1, 1},
	})
	wantGone(t, "by a wrap", of(2, 1, "abcde"), "ab|cd")
	wantGone(t, "by a wide one's wrap", of(2, 1, "a\u4e00"), "a")
}

// Going down and up, what is gone.

func TestGoneByGoingDownAlone(t *testing.T) {
	for _, k := range []struct{ s, want string }{
		{"1\r\n2\r\n3", ""},
		{"1\r\n2\r\n3\n", "1"},
		{"1\r\n2\r\n3\v\f", "1|2"},
		{"1\r\n2\r\n3\x1bD\x1bE", "1|2"},
		{"1\r\n2\r\n3\x1b[1;2r\x1b[2H\n\n", "1|2"},
		{"1\r\n2\r\n3\x1b[2;3r\x1b[3H\n\n", ""},
		{"1\r\n2\r\n3\x1b[1;2r\x1b[3H\n\n", ""},
		{"1\r\n2\r\n3\x1b[?1049h\n\n\n", ""},
		{"1\r\n2\r\n3\x1b[?1049h\x1b[2S\x1b[?1049l\n", "1"},
		{"1\r\n2\r\n3\x1b[S", "1"},
		{"1\r\n2\r\n3\x1b[2S", "1|2"},
		{"1\r\n2\r\n3\x1b[9999S", "1|2|3"},
		{"1\r\n2\r\n3\x1b[1;2r\x1b[3S", "1|2"},
		{"1\r\n2\r\n3\x1b[2;3r\x1b[3S", ""},
		{"1\r\n2\r\n3\x1b[H\x1b[2M", ""},
		{"1\r\n2\r\n3\x1b[H\x1bM\x1b[2T\x1b[L", ""},
		{"1\r\n2\r\n3\x1b[2J\x1bc", ""},
		{"1\r\n2\r\n3\n\x1bc", "1"},
		{"1\r\n2\r\n3\n\x1b[?1049h\n\x1bc\x1b[3S", "1|||"},
	} {
		wantGone(t, fmt.Sprintf("%q", k.s), of(4, 3, k.s), k.want)
	}
}

// P9.5 (what follows), and all the chapter against a slow reading of it.

// finals are the characters of control sequences that do something, and some that do not.
const finals = "ABCDEFG`dHfJKLM@PXSTrumgshlmrIZnt"

// someNum is a number that may be; mostly a small one.
func someNum(r *rand.Rand) int {
	if r.Intn(8) == 0 {
		return []int{25, 47, 1047, 1049, 199, 200, 201, 9998, 9999}[r.Intn(9)]
	}
	return r.Intn(10)
}

// somePrint is an act that prints.
func somePrint(r *rand.Rand) api.Act {
	return api.Act{Kind: api.Print, R: []rune{'a', 'b', 'c', ' ', 0x4e00, 0x4e01, 0x1f600, 0xe9, 0x301, 0x9f, -1}[r.Intn(11)]}
}

// someAct is an act that may be.
func someAct(r *rand.Rand) api.Act {
	switch r.Intn(12) {
	case 0:
		return api.Act{Kind: api.Ctl, R: rune(r.Intn(32))}
	case 1:
		return api.Act{Kind: api.Ctl, R: rune(8 + r.Intn(6))}
	case 2:
		return api.Act{Kind: api.Esc, R: []rune{'7', '8', 'D', 'E', 'H', 'M', 'D', 'E', 'H', 'M', 'c', '='}[r.Intn(12)], Mid: []byte{0, 0, 0, 0, '('}[r.Intn(5)]}
	case 3:
		a := api.Act{Kind: api.Csi, R: rune("hl"[r.Intn(2)]), Private: '?', N: 1 + r.Intn(3)}
		for i := range a.N {
			a.Nums[i] = []int{7, 25, 47, 1047, 1049, 1, 0, 7, 7}[r.Intn(9)]
		}
		return a
	case 4, 5, 6:
		a := api.Act{Kind: api.Csi, R: rune(finals[r.Intn(len(finals))]), N: r.Intn(4)}
		if r.Intn(10) == 0 {
			a.Private, a.Mid = []byte{0, '?', '>'}[r.Intn(3)], []byte{0, ' ', '$'}[r.Intn(3)]
			a.N = r.Intn(9)
		}
		for i := range a.N {
			a.Nums[i] = someNum(r)
		}
		return a
	}
	return somePrint(r)
}

// wantSlow holds all that a screen tells against a slow one.
func wantSlow(t *testing.T, what string, s *Screen, l *slow) {
	t.Helper()
	x, y, shown := s.Cursor()
	if x != l.at.x || y != l.at.y || shown == l.hidden || s.Pen() != l.at.pen || s.Alt() != (l.alt == 1) {
		t.Fatalf("%s: %d, %d, %t, %v, %t; want %d, %d, %t, %v, %t", what, x, y, shown, s.Pen(), s.Alt(), l.at.x, l.at.y, !l.hidden, l.at.pen, l.alt == 1)
	}
	if g := s.Grid(); !grid.Same(g, l.grid()) || !grid.Check(g) {
		t.Fatalf("%s: %q, want %q", what, grid.Lines(g), grid.Lines(l.grid()))
	}
}

func wantSlowGone(t *testing.T, what string, s *Screen, l *slow) {
	t.Helper()
	if got := s.Gone(); !slices.EqualFunc(got, l.gone, slices.Equal[[]api.Cell]) {
		t.Fatalf("%s: gone are %v, want %v", what, got, l.gone)
	}
	l.gone = nil
}

func TestSomeActs(t *testing.T) {
	r := rand.New(rand.NewSource(1))
	for range 4000 {
		w, h := 1+r.Intn(9), 1+r.Intn(6)
		s, l := New(w, h), slowNew(w, h)
		for i := range 150 {
			if r.Intn(60) == 0 {
				w, h = 1+r.Intn(20), 1+r.Intn(6)
				l.resize(w, h)
				if !s.Resize(w, h) {
					t.Fatal("not resized")
				}
			}
			a := someAct(r)
			s.Do(a)
			l.do(a)
			what := fmt.Sprintf("act %d, %v", i, a)
			wantSlow(t, what, s, l)
			if r.Intn(20) == 0 {
				wantSlowGone(t, what, s, l)
			}
		}
		wantSlowGone(t, "at the end", s, l)
	}
}

func TestSomeActsOfTheGreatestScreen(t *testing.T) {
	r := rand.New(rand.NewSource(2))
	s, l := New(200, 60), slowNew(200, 60)
	for i := range 800 {
		a := someAct(r)
		if a.Kind == api.Print && r.Intn(3) == 0 {
			many := slices.Repeat([]api.Act{a}, r.Intn(400))
			s.Do(many...)
			for _, a := range many {
				l.do(a)
			}
		}
		s.Do(a)
		l.do(a)
		wantSlow(t, fmt.Sprintf("act %d, %v", i, a), s, l)
	}
	wantSlowGone(t, "at the end", s, l)
}

func TestActsOneByOneAndTogether(t *testing.T) {
	r := rand.New(rand.NewSource(3))
	for range 200 {
		var l []api.Act
		for range 100 {
			l = append(l, someAct(r))
		}
		one, all := New(7, 4), New(7, 4)
		all.Do(l...)
		for _, a := range l {
			one.Do(a)
		}
		if !grid.Same(one.Grid(), all.Grid()) || one.Pen() != all.Pen() || goneOf(one) != goneOf(all) {
			t.Fatal("not the same")
		}
	}
}

// wrongNums are numbers that no act has that may be.
var wrongNums = []int{-1, -2, 10000, math.MaxInt, math.MaxInt - 1, math.MinInt, math.MinInt + 1, 1 << 32, -1 << 32, 1<<32 + 2}

// wantRight holds that a screen's grids are right, and its cursor stays in them.
func wantRight(t *testing.T, what string, s *Screen, w, h int) {
	t.Helper()
	x, y, _ := s.Cursor()
	g := s.Grid()
	if !grid.Check(g) || g.W != w || g.H != h || x < 0 || x >= w || y < 0 || y >= h {
		t.Fatalf("%s: %d, %d of %v", what, x, y, g)
	}
}

func TestActsThatMayNotBe(t *testing.T) {
	r := rand.New(rand.NewSource(4))
	for range 2000 {
		w, h := 1+r.Intn(9), 1+r.Intn(6)
		s := New(w, h)
		for range 60 {
			a := someAct(r)
			switch r.Intn(6) {
			case 0:
				a.N = wrongNums[r.Intn(len(wrongNums))]
			case 1:
				a.Kind = []int{0, -1, 5, math.MinInt, math.MaxInt}[r.Intn(5)]
			case 2:
				a.R = []rune{-1, math.MinInt32, math.MaxInt32, 'A' + 0x100, 0xd800}[r.Intn(5)]
			default:
				for i := range a.Nums {
					a.Nums[i] = wrongNums[r.Intn(len(wrongNums))]
				}
				a.N = r.Intn(9)
			}
			s.Do(a)
			wantRight(t, fmt.Sprint(a), s, w, h)
		}
		s.Do(acts("\x1b[?1049l")...)
		wantRight(t, "the usual grid", s, w, h)
	}
}

func TestEachFinalOfNumbersThatMayNotBe(t *testing.T) {
	for final := rune(0x40); final <= 0x7e; final++ {
		for _, n := range wrongNums {
			for _, m := range wrongNums {
				for _, before := range []string{"", "a\u4e00b\x1b[2;2H", "\x1b[2;3r\x1b[3;4H", "\x1b[2;3r\x1b[5;9H"} {
					s := of(9, 5, before)
					s.Do(api.Act{Kind: api.Csi, R: final, N: 2, Nums: [8]int{n, m}})
					s.Do(acts("\n\n\u4e00x\x1bM\x1b8")...)
					wantRight(t, fmt.Sprintf("%c of %d, %d", final, n, m), s, 9, 5)
				}
			}
		}
	}
}

func TestOtherKindsDoNothing(t *testing.T) {
	for _, kind := range []int{0, -1, 5, 6, math.MinInt, math.MaxInt} {
		for r := rune(0); r < 0x80; r++ {
			s := of(4, 3, "abcd")
			s.Do(api.Act{Kind: kind, R: r}, api.Act{Kind: kind, R: r, Private: '?', N: 1, Nums: [8]int{25}})
			wantLines(t, fmt.Sprintf("kind %d, %x", kind, r), s, "abcd||", 3, 0)
			s.Do(acts("e")...)
			wantLines(t, fmt.Sprintf("behind kind %d, %x", kind, r), s, "abcd|e|", 1, 1)
		}
	}
}
