package escape

import (
	"math"
	"math/rand"
	"regexp"
	"slices"
	"strconv"
	"strings"
	"testing"

	"lyceum/api"
)

func printed(r rune) api.Act { return api.Act{Kind: api.Print, R: r} }

func obeyedAt(r rune) api.Act { return api.Act{Kind: api.Ctl, R: r} }

func esc(r rune, mid byte) api.Act { return api.Act{Kind: api.Esc, R: r, Mid: mid} }

func csi(r rune, private, mid byte, nums ...int) api.Act {
	a := api.Act{Kind: api.Csi, R: r, Private: private, Mid: mid, N: len(nums)}
	copy(a.Nums[:], nums)
	return a
}

// told is what a new parser tells of a text's characters.
func told(s string) []api.Act {
	return new(Parser).Feed([]rune(s)...)
}

// slow is a parser that keeps all that came since the last 1b, and reads it anew with each character.
type slow struct {
	open bool
	text string
}

var (
	leftOut  = regexp.MustCompile(`^[PX\]^_]`)
	begun    = regexp.MustCompile(`^[ -/]*$`)
	escaped  = regexp.MustCompile(`^([ -/]*)([0-~])$`)
	control  = regexp.MustCompile(`^\[`)
	finished = regexp.MustCompile(`^\[(.*)([@-~])$`)
	right    = regexp.MustCompile(`^([<=>?]?)([0-9:;]*)([ -/]?)$`)
)

// only is the one byte of a text; 0, if there is none.
func only(s string) byte {
	return (s + "\x00")[0]
}

// numbers are those of a control sequence: at most 8, each at most 9999.
func numbers(s string) []int {
	if s == "" {
		return nil
	}
	var l []int
	for _, digits := range strings.Split(strings.ReplaceAll(s, ":", ";"), ";") {
		digits = strings.TrimLeft(digits, "0")
		n, _ := strconv.Atoi(digits)
		if len(digits) > 4 {
			n = 9999
		}
		l = append(l, n)
	}
	return l[:min(len(l), 8)]
}

func (s *slow) step(r rune) (api.Act, bool) {
	texts := s.open && leftOut.MatchString(s.text)
	switch {
	case r == 0x1b:
		*s = slow{open: true}
		return api.Act{}, false
	case r == 0x18 || r == 0x1a || texts && r == 7:
		*s = slow{}
		return api.Act{}, false
	case r < 0 || r > 0x10ffff || r >= 0x7f && r <= 0x9f || texts:
		return api.Act{}, false
	case r < 0x20:
		return obeyedAt(r), true
	case !s.open:
		return printed(r), true
	}
	s.text += string(r)
	return s.read()
}

// read tells what the text since the last 1b is, if it is at its end.
func (s *slow) read() (api.Act, bool) {
	if begun.MatchString(s.text) || leftOut.MatchString(s.text) {
		return api.Act{}, false
	}
	if control.MatchString(s.text) {
		m := finished.FindStringSubmatch(s.text)
		if m == nil {
			return api.Act{}, false
		}
		*s = slow{}
		p := right.FindStringSubmatch(m[1])
		if p == nil {
			return api.Act{}, false
		}
		return csi(rune(m[2][0]), only(p[1]), only(p[3]), numbers(p[2])...), true
	}
	m := escaped.FindStringSubmatch(s.text)
	*s = slow{}
	if m == nil || len(m[1]) > 1 {
		return api.Act{}, false
	}
	return esc(rune(m[2][0]), only(m[1])), true
}

// follow holds a parser against a slow one, character by character.
func follow(t *testing.T, l []rune) {
	t.Helper()
	var p Parser
	var s slow
	for i, r := range l {
		a, ok := p.Step(r)
		wantA, want := s.step(r)
		if a != wantA || ok != want {
			t.Fatalf("%x: at %d: %v, %t, want %v, %t", l, i, a, ok, wantA, want)
		}
		if p.Idle() == s.open {
			t.Fatalf("%x: at %d: at rest: %t", l, i, p.Idle())
		}
	}
}

// P7.1 (steps)

func TestActs(t *testing.T) {
	for _, k := range []struct {
		s    string
		acts []api.Act
	}{
		{"", nil},
		{"\x1b[2;3H", []api.Act{csi('H', 0, 0, 2, 3)}},
		{"a~\u00a0\u4e00\U0010ffff", []api.Act{printed('a'), printed('~'), printed(0xa0), printed(0x4e00), printed(0x10ffff)}},
		{"\x00\x07\n\x1f", []api.Act{obeyedAt(0), obeyedAt(7), obeyedAt(10), obeyedAt(0x1f)}},
		{"\x7f\u0080\u009b\u009f", nil},
		{"\x1b7\x1bc\x1b0\x1b~", []api.Act{esc('7', 0), esc('c', 0), esc('0', 0), esc('~', 0)}},
		{"\x1b(B\x1b 0\x1b/~", []api.Act{esc('B', '('), esc('0', ' '), esc('~', '/')}},
		{"\x1b()Bx\x1b(()Bx", []api.Act{printed('x'), printed('x')}},
		{"\x1b([\x1b(]\x1b(P\x1b(X\x1b(^\x1b(_", []api.Act{esc('[', '('), esc(']', '('), esc('P', '('), esc('X', '('), esc('^', '('), esc('_', '(')}},
		{"\x1b\u00a0x\x1b(\u4e00x", []api.Act{printed('x'), printed('x')}},
		{"\x1b\x7f\u0085c", []api.Act{esc('c', 0)}},
		{"\x1b\n(\rB", []api.Act{obeyedAt(10), obeyedAt(13), esc('B', '(')}},
		{"\x1b(\x1bB\x1b[1\x1b[A", []api.Act{esc('B', 0), csi('A', 0, 0)}},
		{"\x1b[m\x1b[@\x1b[~", []api.Act{csi('m', 0, 0), csi('@', 0, 0), csi('~', 0, 0)}},
		{"\x1b[0m\x1b[;m\x1b[:m", []api.Act{csi('m', 0, 0, 0), csi('m', 0, 0, 0, 0), csi('m', 0, 0, 0, 0)}},
		{"\x1b[1;m\x1b[;1m\x1b[4:3m", []api.Act{csi('m', 0, 0, 1, 0), csi('m', 0, 0, 0, 1), csi('m', 0, 0, 4, 3)}},
		{"\x1b[9998m\x1b[9999m\x1b[10000m\x1b[00000000000000000000012m", []api.Act{csi('m', 0, 0, 9998), csi('m', 0, 0, 9999), csi('m', 0, 0, 9999), csi('m', 0, 0, 12)}},
		{"\x1b[1;2;3;4;5;6;7;8m", []api.Act{csi('m', 0, 0, 1, 2, 3, 4, 5, 6, 7, 8)}},
		{"\x1b[1;2;3;4;5;6;7;;m", []api.Act{csi('m', 0, 0, 1, 2, 3, 4, 5, 6, 7, 0)}},
		{"\x1b[1;2;3;4;5;6;7;8;9m\x1b[1;2;3;4;5;6;7;8;9;10;11m", []api.Act{csi('m', 0, 0, 1, 2, 3, 4, 5, 6, 7, 8), csi('m', 0, 0, 1, 2, 3, 4, 5, 6, 7, 8)}},
		{"\x1b[?25h\x1b[<m\x1b[=c\x1b[>1c", []api.Act{csi('h', '?', 0, 25), csi('m', '<', 0), csi('c', '=', 0), csi('c', '>', 0, 1)}},
		{"\x1b[2 q\x1b[!p\x1b[?1$p\x1b[/h", []api.Act{csi('q', 0, ' ', 2), csi('p', 0, '!'), csi('p', '?', '$', 1), csi('h', 0, '/')}},
		{"\x1b[??hx\x1b[0?hx\x1b[;?hx\x1b[ ?hx", []api.Act{printed('x'), printed('x'), printed('x'), printed('x')}},
		{"\x1b[  qx\x1b[ 1qx\x1b[ ;qx\x1b[ :qx", []api.Act{printed('x'), printed('x'), printed('x'), printed('x')}},
		{"\x1b[1\u00a01m\x1b[\u4e00;? 1~x", []api.Act{printed('x')}},
		{"\x1b[1\x7f\u009f2m", []api.Act{csi('m', 0, 0, 12)}},
		{"\x1b[1\n2m\x1b[??\n2\r?mx", []api.Act{obeyedAt(10), csi('m', 0, 0, 12), obeyedAt(10), obeyedAt(13), printed('x')}},
		{"\x1b[??\x18m\x1b[\x1am\x1b\x18c", []api.Act{printed('m'), printed('m'), printed('c')}},
		{"\x1bPa\n[m\u4e00\x07x", []api.Act{printed('x')}},
		{"\x1bXa\x18x\x1b]a\x1ax\x1b^\x1bcx\x1b_b\x1b\\", []api.Act{printed('x'), printed('x'), esc('c', 0), printed('x'), esc('\\', 0)}},
		{"\x1bQ\x1bY\x1b\\\x1b`", []api.Act{esc('Q', 0), esc('Y', 0), esc('\\', 0), esc('`', 0)}},
	} {
		if got := told(k.s); !slices.Equal(got, k.acts) {
			t.Errorf("%q: %v, want %v", k.s, got, k.acts)
		}
		follow(t, []rune(k.s))
	}
}

func TestNoCharacters(t *testing.T) {
	for _, before := range []string{"", "\x1b", "\x1b(", "\x1b[1", "\x1b[??", "\x1b]"} {
		var p Parser
		p.Feed([]rune(before)...)
		was := p
		for _, r := range []rune{math.MinInt32, -0xe5, -1, 0x110000, math.MaxInt32} {
			if a, ok := p.Step(r); ok || a != (api.Act{}) || p != was {
				t.Errorf("%q, %x: %v, %t", before, r, a, ok)
			}
		}
	}
}

// each state, by characters that bring a parser to it.
var befores = []string{
	"", "x", "\x1b", "\x1b(", "\x1b()", "\x1b()*", "\x1b[", "\x1b[0", "\x1b[7", "\x1b[;", "\x1b[12;34", "\x1b[?", "\x1b[?5", "\x1b[>;",
	"\x1b[1;2;3;4;5;6;7;8", "\x1b[1;2;3;4;5;6;7;8;", "\x1b[1;2;3;4;5;6;7;8;9;10", "\x1b[9999", "\x1b[ ", "\x1b[5 ", "\x1b[?$", "\x1b[??", "\x1b[1 2", "\x1b[\u4e00",
	"\x1bP", "\x1bX", "\x1b]", "\x1b^", "\x1b_", "\x1b]0;t",
}

func TestEachCharacterInEachState(t *testing.T) {
	edges := []rune{-1, 0xd7ff, 0xd800, 0xdfff, 0xe000, 0xfffd, 0x10ffff, 0x110000, math.MaxInt32, math.MinInt32}
	for r := range rune(0x180) {
		edges = append(edges, r)
	}
	behind := []string{"", "x", "(0", "[", "1;2m", "?7h", " q", "\a;", "\x18;1m"}
	for _, before := range befores {
		for _, r := range edges {
			for _, s := range behind {
				follow(t, append(append([]rune(before), r), []rune(s)...))
			}
		}
	}
}

func TestAnyCharacters(t *testing.T) {
	r := rand.New(rand.NewSource(7))
	often := []rune("\x1b\x1b\x1b[[[[0123456789;;;;::?<=> !/(mHhABPX]^_\\\x07\x18\x1a\n\x00\x1f\x7f\u0080\u009f\u00a0\u4e00")
	for range 20000 {
		l := []rune("\x1b[")[:r.Intn(3)]
		for range r.Intn(40) {
			switch c := rune(r.Intn(0x100)); r.Intn(8) {
			case 0:
				l = append(l, c)
			default:
				l = append(l, often[r.Intn(len(often))])
			}
		}
		follow(t, l)
	}
}

func TestFeedIsSteps(t *testing.T) {
	l := []rune("a\x1b[2;3\nHb\x1b()c\x1b]x\x07\x1b#8\x1b[1")
	var whole, parts, single Parser
	acts := whole.Feed(l...)
	var want []api.Act
	for _, r := range l {
		if a, ok := single.Step(r); ok {
			want = append(want, a)
		}
	}
	got := parts.Feed(l[:4]...)
	got = append(got, parts.Feed()...)
	got = append(got, parts.Feed(l[4:]...)...)
	if !slices.Equal(acts, want) || !slices.Equal(got, want) {
		t.Errorf("whole %v, parts %v, steps %v", acts, got, want)
	}
	if whole != single || parts != single {
		t.Errorf("the parsers differ: %v, %v, %v", whole, parts, single)
	}
}

func TestIdleAndReset(t *testing.T) {
	for i, s := range befores {
		var p Parser
		p.Feed([]rune(s)...)
		if p.Idle() != (i < 2) {
			t.Errorf("%q: at rest: %t", s, p.Idle())
		}
		p.Reset()
		if !p.Idle() || p != (Parser{}) {
			t.Errorf("%q: it is not new: %v", s, p)
		}
	}
	var p Parser
	if !p.Idle() {
		t.Error("a zero one is not at rest")
	}
	for _, s := range []string{"\x1bc", "\x1b()c", "\x1b(\u00a0", "\x1b\u00a0", "\x1b[1m", "\x1b[??m", "\x1b]\x07", "\x1b\x18", "\x1b[\x1a"} {
		p.Feed([]rune(s)...)
		if !p.Idle() {
			t.Errorf("%q: it is not at rest", s)
		}
	}
}

func TestManyNumbers(t *testing.T) {
	many := strings.Repeat("3;", 100000)
	want := []api.Act{csi('m', 0, 0, 3, 3, 3, 3, 3, 3, 3, 3)}
	if got := told("\x1b[" + many + "5m"); !slices.Equal(got, want) {
		t.Errorf("%v, want %v", got, want)
	}
	if got := told("\x1b[" + strings.Repeat("9", 100000) + "m"); !slices.Equal(got, []api.Act{csi('m', 0, 0, 9999)}) {
		t.Errorf("%v", got)
	}
}

// P7.2 (numbers)

func TestNum(t *testing.T) {
	a := csi('m', 0, 0, 0, 1, 5, 9999)
	for _, k := range []struct{ i, least, want int }{
		{0, 0, 0}, {0, 1, 1}, {1, 1, 1}, {1, 0, 1}, {1, 2, 2}, {2, 1, 5}, {2, 5, 5}, {2, 6, 6}, {3, 1, 9999},
		{4, 0, 0}, {4, 7, 7}, {4, -7, -7}, {7, 3, 3}, {8, 3, 3}, {-1, 3, 3}, {math.MinInt, 3, 3}, {math.MaxInt, 3, 3},
		{0, -1, 0}, {0, math.MinInt, 0}, {2, math.MaxInt, math.MaxInt}, {5, math.MinInt, math.MinInt},
	} {
		if got := Num(a, k.i, k.least); got != k.want {
			t.Errorf("Num(%v, %d, %d) is %d, want %d", a.Nums, k.i, k.least, got, k.want)
		}
	}
}

func TestNumOfAnyAct(t *testing.T) {
	for _, n := range []int{math.MinInt, -1, 0, 1, 7, 8, 9, math.MaxInt} {
		a := api.Act{N: n, Nums: [8]int{10, -11, 12, 13, math.MinInt, math.MaxInt, 16, 17}}
		for i := -2; i < 11; i++ {
			want := 1
			if i >= 0 && i < 8 && i < n && a.Nums[i] > 1 {
				want = a.Nums[i]
			}
			if got := Num(a, i, 1); got != want {
				t.Errorf("N %d, i %d: %d, want %d", n, i, got, want)
			}
		}
	}
}

// P7.3 (what follows)

func TestBehind18(t *testing.T) {
	after := []rune("x\x1b[1;2m\x1b[?5h\x1b(Bq\x1b]t\x07y7;8m")
	want := new(Parser).Feed(after...)
	for _, s := range befores {
		var p Parser
		p.Feed([]rune(s)...)
		if a, ok := p.Step(0x18); ok || a != (api.Act{}) {
			t.Errorf("%q: behind it 18 tells %v, %t", s, a, ok)
		}
		if p != (Parser{}) {
			t.Errorf("%q: behind 18: %v", s, p)
		}
		if got := p.Feed(after...); !slices.Equal(got, want) {
			t.Errorf("%q: %v, want %v", s, got, want)
		}
	}
}

func TestNilParser(t *testing.T) {
	var p *Parser
	for _, r := range []rune{'x', 0x1b, 0x18, 7, -1} {
		if a, ok := p.Step(r); ok || a != (api.Act{}) {
			t.Errorf("%x: %v, %t", r, a, ok)
		}
	}
	p.Reset()
	if l := p.Feed('a', 'b'); len(l) > 0 || !p.Idle() {
		t.Errorf("%v, at rest: %t", l, p.Idle())
	}
}

// R3 (memory)

func TestMemory(t *testing.T) {
	l := []rune("a\x1b[2;3Hb")
	was := slices.Clone(l)
	var p Parser
	acts := p.Feed(l...)
	if !slices.Equal(l, was) {
		t.Error("what was handed in has changed")
	}
	acts[0], acts[1].Nums[0] = api.Act{}, 77
	copyOf := p
	p.Feed([]rune("\x1b[5")...)
	if !copyOf.Idle() {
		t.Error("two parsers share what they keep")
	}
	if again := p.Feed([]rune("\x18a\x1b[2;3Hb")...); again[0] != printed('a') || again[1] != csi('H', 0, 0, 2, 3) {
		t.Errorf("what was told is not the caller's: %v", again)
	}
}
