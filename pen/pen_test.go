package pen

import (
	"math"
	"math/rand"
	"slices"
	"strconv"
	"strings"
	"testing"

	"lyceum/api"
	"lyceum/escape"
)

const (
	// looks are all ways of drawing.
	looks = api.Bold | api.Faint | api.Italic | api.Underline | api.Blink | api.Reverse
	// room is how many numbers an act has at most.
	room = 8
)

// old is a pen of which nothing is 0.
var old = api.Cell{R: 'x', Fg: 77, Bg: 88, Attr: 255}

// sgr is the act that gives these numbers to a pen.
func sgr(nums ...int) api.Act {
	a := api.Act{Kind: api.Csi, R: 'm', N: len(nums)}
	copy(a.Nums[:], nums)
	return a
}

// drawnBy is what a text's characters, one act after the other, make of a pen.
func drawnBy(c api.Cell, s string) api.Cell {
	var p escape.Parser
	for _, a := range p.Feed([]rune(s)...) {
		c = Apply(c, a)
	}
	return c
}

// wantApplied holds what an act makes of a blank's pen, and of old.
func wantApplied(t *testing.T, a api.Act, ofNone, ofOld api.Cell) {
	t.Helper()
	if got := Apply(api.Cell{}, a); got != ofNone {
		t.Errorf("%v of none is %v, want %v", a, got, ofNone)
	}
	if got := Apply(old, a); got != ofOld {
		t.Errorf("%v of %v is %v, want %v", a, old, got, ofOld)
	}
}

// P8.1 (applied)

func TestOtherActsLeaveThePen(t *testing.T) {
	right := sgr(1, 31)
	for _, change := range []func(a *api.Act){
		func(a *api.Act) { a.Kind = api.Esc },
		func(a *api.Act) { a.Kind = api.Ctl },
		func(a *api.Act) { a.Kind = api.Print },
		func(a *api.Act) { a.Kind = 0 },
		func(a *api.Act) { a.Kind = 5 },
		func(a *api.Act) { a.Kind = -4 },
		func(a *api.Act) { a.R = 'M' },
		func(a *api.Act) { a.R = 'n' },
		func(a *api.Act) { a.R = 0 },
		func(a *api.Act) { a.R = 'm' + 0x100 },
		func(a *api.Act) { a.Private = '?' },
		func(a *api.Act) { a.Private = 1 },
		func(a *api.Act) { a.Mid = ' ' },
		func(a *api.Act) { a.Mid = 1 },
	} {
		a := right
		change(&a)
		wantApplied(t, a, api.Cell{}, old)
	}
	wantApplied(t, api.Act{}, api.Cell{}, old)
	wantApplied(t, right, api.Cell{Fg: 1, Attr: api.Bold}, api.Cell{R: 'x', Fg: 1, Bg: 88, Attr: 255})
}

func TestNoNumbersAreASingle0(t *testing.T) {
	none := api.Cell{R: 'x'}
	wantApplied(t, sgr(), api.Cell{}, none)
	wantApplied(t, sgr(0), api.Cell{}, none)
	for _, n := range []int{0, -1, math.MinInt} {
		a := sgr(1, 31, 44)
		a.N = n
		wantApplied(t, a, api.Cell{}, none)
	}
}

func TestAtMostEightNumbers(t *testing.T) {
	for _, n := range []int{8, 9, math.MaxInt} {
		a := sgr(0, 1, 2, 3, 4, 5, 7, 31)
		a.N = n
		wantApplied(t, a, api.Cell{Fg: 1, Attr: looks}, api.Cell{R: 'x', Fg: 1, Attr: looks})
	}
	a := sgr(1, 2, 3, 31)
	a.N = 2
	wantApplied(t, a, api.Cell{Attr: api.Bold | api.Faint}, old)
}

// changes is what a number does that stands alone: to Fg and Bg, if they are not below 0, and which ways are on and off.
type changes struct {
	fg, bg  int
	on, off uint8
}

// alone is what each number does, in the order of the chapter; others do nothing.
var alone = map[int]changes{
	0: {fg: 0, bg: 0, off: 255},
	1: {-1, -1, 1, 0}, 2: {-1, -1, 2, 0}, 3: {-1, -1, 4, 0}, 4: {-1, -1, 8, 0}, 5: {-1, -1, 16, 0}, 7: {-1, -1, 32, 0},
	22: {-1, -1, 0, 3}, 23: {-1, -1, 0, 4}, 24: {-1, -1, 0, 8}, 25: {-1, -1, 0, 16}, 27: {-1, -1, 0, 32},
	// The colour 0 is 1.
	30: {1, -1, 0, 0}, 31: {1, -1, 0, 0}, 32: {2, -1, 0, 0}, 33: {3, -1, 0, 0},
	34: {4, -1, 0, 0}, 35: {5, -1, 0, 0}, 36: {6, -1, 0, 0}, 37: {7, -1, 0, 0},
	40: {-1, 1, 0, 0}, 41: {-1, 1, 0, 0}, 42: {-1, 2, 0, 0}, 43: {-1, 3, 0, 0},
	44: {-1, 4, 0, 0}, 45: {-1, 5, 0, 0}, 46: {-1, 6, 0, 0}, 47: {-1, 7, 0, 0},
	90: {8, -1, 0, 0}, 91: {9, -1, 0, 0}, 92: {10, -1, 0, 0}, 93: {11, -1, 0, 0},
	94: {12, -1, 0, 0}, 95: {13, -1, 0, 0}, 96: {14, -1, 0, 0}, 97: {15, -1, 0, 0},
	100: {-1, 8, 0, 0}, 101: {-1, 9, 0, 0}, 102: {-1, 10, 0, 0}, 103: {-1, 11, 0, 0},
	104: {-1, 12, 0, 0}, 105: {-1, 13, 0, 0}, 106: {-1, 14, 0, 0}, 107: {-1, 15, 0, 0},
	39: {0, -1, 0, 0}, 49: {-1, 0, 0, 0},
}

// changed is c as a number alone changes it.
func changed(c api.Cell, n int) api.Cell {
	by, ok := alone[n]
	if !ok {
		return c
	}
	if by.fg >= 0 {
		c.Fg = uint8(by.fg)
	}
	if by.bg >= 0 {
		c.Bg = uint8(by.bg)
	}
	c.Attr = c.Attr&^by.off | by.on
	return c
}

func TestEachNumberAlone(t *testing.T) {
	l := []int{math.MinInt, -256, math.MaxInt, 1 << 32, 1<<32 + 1, 256, 257, 286}
	for n := range api.MaxNum + 50 {
		l = append(l, n-20)
	}
	for _, n := range l {
		wantApplied(t, sgr(n), changed(api.Cell{}, n), changed(old, n))
	}
}

func TestEachWayOfDrawingByItself(t *testing.T) {
	for attr := range 256 {
		for _, n := range []int{0, 1, 2, 3, 4, 5, 6, 7, 8, 21, 22, 23, 24, 25, 26, 27, 28} {
			c := api.Cell{R: 'x', Fg: 3, Attr: uint8(attr)}
			if got, want := Apply(c, sgr(n)), changed(c, n); got != want {
				t.Errorf("%d of %v is %v, want %v", n, c, got, want)
			}
		}
	}
}

func TestManyNumbers(t *testing.T) {
	for _, k := range []struct {
		s    string
		want api.Cell
	}{
		{"\x1b[1;38;5;9;7m", api.Cell{Fg: 9, Attr: api.Bold | api.Reverse}},
		{"\x1b[1m\x1b[m", api.Cell{}},
		{"\x1b[1;;3m", api.Cell{Attr: api.Italic}},
		{"\x1b[1;0;3;31m", api.Cell{Fg: 1, Attr: api.Italic}},
		{"\x1b[;m", api.Cell{}},
		{"\x1b[1;2;4;22m", api.Cell{Attr: api.Underline}},
		{"\x1b[31;42;39m", api.Cell{Bg: 2}},
		{"\x1b[91;102;49m", api.Cell{Fg: 9}},
		{"\x1b[31;32;33m", api.Cell{Fg: 3}},
		{"\x1b[4:31m", api.Cell{Fg: 1, Attr: api.Underline}},
		{"\x1b[1;6;8;9;21;50;3m", api.Cell{Attr: api.Bold | api.Italic}},
		{"\x1b[1m\x1b[?0m\x1b[>0m\x1b[0 m\x1bm\x1b[0M", api.Cell{Attr: api.Bold}},
		{"\x1b[1;2;3;4;5;7;31;42;0m", api.Cell{Fg: 1, Bg: 2, Attr: looks}},
	} {
		if got := drawnBy(api.Cell{}, k.s); got != k.want {
			t.Errorf("%q: %v, want %v", k.s, got, k.want)
		}
	}
}

// wantChosen holds that behind 38 the numbers choose Fg, and behind 48 Bg, if it is not below 0, and what else becomes of Attr.
func wantChosen(t *testing.T, nums []int, colour int, on uint8) {
	t.Helper()
	fg, bg := old, old
	fg.Attr, bg.Attr = on, on
	if colour >= 0 {
		fg.Fg, bg.Bg = uint8(colour), uint8(colour)
	}
	was := old
	was.Attr = 0
	if got := Apply(was, sgr(append([]int{38}, nums...)...)); got != fg {
		t.Errorf("38 and %d: %v, want %v", nums, got, fg)
	}
	if got := Apply(was, sgr(append([]int{48}, nums...)...)); got != bg {
		t.Errorf("48 and %d: %v, want %v", nums, got, bg)
	}
}

func TestChosenByNumber(t *testing.T) {
	for n := range 256 {
		wantChosen(t, []int{5, n}, max(n, 1), 0)
		wantChosen(t, []int{5, n, 4}, max(n, 1), api.Underline)
	}
	for _, n := range []int{256, 257, 300, 511, 512, 9999, -1, -255, -256, math.MinInt, math.MaxInt} {
		wantChosen(t, []int{5, n}, -1, 0)
		wantChosen(t, []int{5, n, 4, 7}, -1, api.Underline|api.Reverse)
	}
	wantChosen(t, []int{5, 5, 1}, 5, api.Bold)
	wantChosen(t, []int{5, 38, 1}, 38, api.Bold)
}

func TestChosenByParts(t *testing.T) {
	wantChosen(t, []int{2, 255, 0, 128}, 198, 0)
	wantChosen(t, []int{2, 255, 0, 128, 7}, 198, api.Reverse)
	wantChosen(t, []int{2, 0, 0, 0, 1, 4}, 16, api.Bold|api.Underline)
	wantChosen(t, []int{2, 300, -7, math.MaxInt, 1}, 201, api.Bold)
	wantChosen(t, []int{2, 1, 2, 3, 4, 5, 7}, 16, api.Underline|api.Blink|api.Reverse)
	wantChosen(t, []int{2, 5, 86, 38, 1}, 28, api.Bold)
}

func TestTooFewBehind38(t *testing.T) {
	for _, nums := range [][]int{{}, {5}, {2}, {2, 1}, {2, 4, 7}, {2, 0, 0}} {
		wantChosen(t, nums, -1, 0)
	}
	for _, k := range []struct {
		s    string
		want api.Cell
	}{
		{"\x1b[1;2;3;4;5;38;5;9m", api.Cell{Fg: 9, Attr: 31}},
		{"\x1b[1;2;3;4;5;7;38;5;9m", api.Cell{Attr: looks}},
		{"\x1b[1;2;3;38;2;255;255;255m", api.Cell{Fg: 231, Attr: 7}},
		{"\x1b[1;2;3;4;38;2;255;255;255m", api.Cell{Attr: 15}},
		{"\x1b[1;2;3;4;5;7;31;38m\x1b[48m", api.Cell{Fg: 1, Attr: looks}},
	} {
		if got := drawnBy(api.Cell{}, k.s); got != k.want {
			t.Errorf("%q: %v, want %v", k.s, got, k.want)
		}
	}
}

func TestOthersBehind38(t *testing.T) {
	for _, how := range []int{0, 1, 3, 4, 6, 7, 31, 38, 48, 255, 9999, -1, -5, math.MinInt, math.MaxInt} {
		wantChosen(t, []int{how}, -1, 0)
		wantChosen(t, []int{how, 1}, -1, 0)
		wantChosen(t, []int{how, 5, 9, 1, 31, 42, 4}, -1, 0)
		wantChosen(t, []int{how, 2, 255, 255, 255, 1, 0}, -1, 0)
	}
	// What stands ahead of it was obeyed, and what is in acts behind it will be.
	want := api.Cell{Fg: 3, Attr: api.Bold | api.Blink}
	if got := drawnBy(api.Cell{}, "\x1b[1;33;38;0;4;7m\x1b[5m"); got != want {
		t.Errorf("%v, want %v", got, want)
	}
}

// groups are some numbers that change a pen in the same way in an act of their own as in one with others.
func groups(r *rand.Rand) [][]int {
	known := []int{0, 1, 2, 3, 4, 5, 7, 22, 23, 24, 25, 27, 39, 49, 30 + r.Intn(8), 40 + r.Intn(8), 90 + r.Intn(8), 100 + r.Intn(8)}
	var l [][]int
	left := r.Intn(room + 1)
	for left > 0 {
		group := []int{known[r.Intn(len(known))]}
		switch r.Intn(6) {
		case 0:
			group = []int{38 + 10*r.Intn(2), 5, r.Intn(400) - 50}
		case 1:
			group = []int{38 + 10*r.Intn(2), 2, r.Intn(400) - 50, r.Intn(400) - 50, r.Intn(400) - 50}
		case 2:
			group = []int{r.Intn(38), 39 + r.Intn(9), 49 + r.Intn(100)}
		}
		group = group[:min(len(group), left)]
		l = append(l, group)
		left -= len(group)
	}
	return l
}

func TestOneActIsManyActs(t *testing.T) {
	r := rand.New(rand.NewSource(8))
	for range 50000 {
		c := api.Cell{R: rune(r.Intn(99)), Fg: uint8(r.Intn(256)), Bg: uint8(r.Intn(256)), Attr: uint8(r.Intn(256))}
		parts := groups(r)
		want := c
		for _, l := range parts {
			want = Apply(want, sgr(l...))
		}
		if len(parts) == 0 {
			want = api.Cell{R: c.R}
		}
		if got := Apply(c, sgr(slices.Concat(parts...)...)); got != want {
			t.Fatalf("%d of %v: %v, want %v", parts, c, got, want)
		}
	}
}

// P8.2 (colours)

// levels are the values at which what is told of them may change, each with which of six it is.
var levels = map[int]int{
	math.MinInt: 0, -256: 0, -43: 0, -1: 0, 0: 0, 1: 0, 42: 0, 43: 1, 85: 1, 86: 2, 128: 2, 129: 3,
	171: 3, 172: 4, 214: 4, 215: 5, 254: 5, 255: 5, 256: 5, 257: 5, 300: 5, 511: 5, 9999: 5, math.MaxInt: 5,
}

func TestColour(t *testing.T) {
	for r, red := range levels {
		for g, green := range levels {
			for b, blue := range levels {
				if got, want := Colour(r, g, b), uint8(16+36*red+6*green+blue); got != want {
					t.Errorf("Colour(%d, %d, %d) is %d, want %d", r, g, b, got, want)
				}
			}
		}
	}
}

func TestKnownColours(t *testing.T) {
	for _, k := range []struct {
		r, g, b int
		want    uint8
	}{{0, 0, 0, 16}, {255, 255, 255, 231}, {255, 0, 0, 196}, {0, 255, 0, 46}, {0, 0, 255, 21}, {255, 0, 128, 198}, {100, 150, 200, 110}} {
		if got := Colour(k.r, k.g, k.b); got != k.want {
			t.Errorf("Colour(%d, %d, %d) is %d, want %d", k.r, k.g, k.b, got, k.want)
		}
	}
}

// P8.3 (set)

func TestSet(t *testing.T) {
	for _, k := range []struct {
		c    api.Cell
		want string
	}{
		{api.Cell{}, "\x1b[0m"},
		{api.Cell{R: 'x'}, "\x1b[0m"},
		{api.Cell{Attr: api.Bold}, "\x1b[0;1m"},
		{api.Cell{Attr: api.Faint}, "\x1b[0;2m"},
		{api.Cell{Attr: api.Italic}, "\x1b[0;3m"},
		{api.Cell{Attr: api.Underline}, "\x1b[0;4m"},
		{api.Cell{Attr: api.Blink}, "\x1b[0;5m"},
		{api.Cell{Attr: api.Reverse}, "\x1b[0;7m"},
		{api.Cell{R: 0x4e00, Attr: api.Wide}, "\x1b[0m"},
		{api.Cell{Attr: api.Tail | api.Italic}, "\x1b[0;3m"},
		{api.Cell{Fg: 1}, "\x1b[0;38;5;1m"},
		{api.Cell{Bg: 1}, "\x1b[0;48;5;1m"},
		{api.Cell{Fg: 10, Bg: 255}, "\x1b[0;38;5;10;48;5;255m"},
		{api.Cell{Fg: 9, Attr: api.Bold | api.Reverse}, "\x1b[0;1;7;38;5;9m"},
		{api.Cell{R: 'x', Fg: 100, Bg: 7, Attr: 255}, "\x1b[0;1;2;3;4;5;7;38;5;100;48;5;7m"},
	} {
		if got := Set(k.c); got != k.want {
			t.Errorf("Set(%v) is %q, want %q", k.c, got, k.want)
		}
	}
}

func TestSetOfAnyPen(t *testing.T) {
	for _, fg := range []int{0, 1, 9, 10, 99, 100, 255} {
		for _, bg := range []int{0, 1, 9, 10, 99, 100, 255} {
			for attr := range 256 {
				l := []string{"0"}
				for i, n := range []string{"1", "2", "3", "4", "5", "7"} {
					if attr>>i&1 == 1 {
						l = append(l, n)
					}
				}
				if fg > 0 {
					l = append(l, "38", "5", strconv.Itoa(fg))
				}
				if bg > 0 {
					l = append(l, "48", "5", strconv.Itoa(bg))
				}
				c := api.Cell{R: 'x', Fg: uint8(fg), Bg: uint8(bg), Attr: uint8(attr)}
				if got, want := Set(c), "\x1b["+strings.Join(l, ";")+"m"; got != want {
					t.Errorf("Set(%v) is %q, want %q", c, got, want)
				}
			}
		}
	}
}

// P8.4 (what follows)

// parted is what Set told, as texts of no more numbers than an act has room for: each number is in one with those that belong to it.
func parted(s string) []string {
	l := strings.Split(strings.TrimSuffix(strings.TrimPrefix(s, "\x1b["), "m"), ";")
	var texts []string
	for len(l) > 0 {
		n := 1
		if l[0] == "38" || l[0] == "48" {
			n = 3
		}
		texts = append(texts, "\x1b["+strings.Join(l[:n], ";")+"m")
		l = l[n:]
	}
	return texts
}

// olds are pens as they may have been.
var olds = []api.Cell{{}, {R: 'x'}, old, {Fg: 255}, {Bg: 1, Attr: looks}, {R: 0x4e00, Fg: 1, Bg: 2, Attr: api.Wide | api.Faint}}

func TestSetSets(t *testing.T) {
	whole := 0
	for _, colour := range []int{0, 1, 8, 254, 255} {
		for attr := range 256 {
			for _, k := range []api.Cell{{Fg: uint8(colour), Bg: 0}, {Bg: uint8(colour)}, {Fg: uint8(colour), Bg: 3}, {Fg: 16, Bg: uint8(colour)}} {
				k.Attr = uint8(attr)
				for _, was := range olds {
					want := api.Cell{R: was.R, Fg: k.Fg, Bg: k.Bg, Attr: k.Attr & looks}
					s := Set(k)
					if got := drawnBy(was, strings.Join(parted(s), "")); got != want {
						t.Errorf("%q of %v: %v, want %v", s, was, got, want)
					}
					// A parser has no room for more numbers: what stands behind them can't be obeyed by one.
					if strings.Count(s, ";") >= room {
						continue
					}
					whole++
					if got := drawnBy(was, s); got != want {
						t.Errorf("%q of %v: %v, want %v", s, was, got, want)
					}
				}
			}
		}
	}
	if whole == 0 {
		t.Error("no text of Set was held as it is")
	}
}

// P1, and R3 (memory)

func TestAnyAct(t *testing.T) {
	r := rand.New(rand.NewSource(1))
	odd := []int{math.MinInt, -1, 0, 2, 5, 38, 48, 255, 256, math.MaxInt}
	for range 50000 {
		a := sgr()
		a.N = odd[r.Intn(len(odd))]
		if r.Intn(2) == 0 {
			a.N = r.Intn(room + 1)
		}
		for i := range a.Nums {
			a.Nums[i] = odd[r.Intn(len(odd))]
		}
		was := a
		first, second := Apply(old, a), Apply(old, a)
		if first != second || a != was || first.R != old.R {
			t.Fatalf("%v: %v, and %v", was, first, second)
		}
	}
	if old != (api.Cell{R: 'x', Fg: 77, Bg: 88, Attr: 255}) {
		t.Errorf("what was handed in has changed: %v", old)
	}
}
