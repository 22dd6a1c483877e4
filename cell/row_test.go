package cell

import (
	"math"
	"math/rand"
	"slices"
	"strings"
	"testing"

	"lyceum/api"
	"lyceum/fault"
	"lyceum/nums"
)

// slowBytes is a right row as bytes, in the document's words: a cell after the other.
func slowBytes(row []api.Cell) string {
	var firsts []api.Cell
	for _, c := range row {
		if c.Attr < api.Tail {
			firsts = append(firsts, c)
		}
	}
	s := ""
	for i := 0; i < len(firsts); {
		end := i
		for end < len(firsts) && firsts[end] == firsts[i] {
			end++
		}
		c := firsts[i]
		s += nums.Put(end-i-1) + nums.Put(int(c.R)) + nums.Put(int(c.Fg), int(c.Bg)) + nums.Put(int(c.Attr))
		i = end
	}
	return s
}

// times is n times a character.
func times(n int, r rune, pen api.Cell) []api.Cell {
	var row []api.Cell
	for range n {
		row = append(row, Make(r, pen)...)
	}
	return row
}

// run is the bytes of a run.
func run(n int, r rune, fg, bg, attr int) string { return nums.Put(n-1, int(r), fg, bg, attr) }

func wantBytes(t *testing.T, what, got, want string) {
	t.Helper()
	if got != want {
		t.Errorf("%s: %x, want %x", what, got, want)
	}
}

// wantRead holds that n cells of s are read as want, and that r stands behind them.
func wantRead(t *testing.T, what, s string, n int, want []api.Cell) {
	t.Helper()
	r := nums.Of(s)
	wantCells(t, what, Read(r, n), want)
	if err := r.End(); err != nil {
		t.Errorf("%s: %s", what, fault.Text(err))
	}
}

// wantFailed holds that n cells of s are not read: with that code, at that place.
func wantFailed(t *testing.T, what, s string, n int, code api.Errno, place int) {
	t.Helper()
	r := nums.Of(s)
	got := Read(r, n)
	at, _ := fault.Place(r.Err())
	if got != nil || fault.Code(r.Err()) != code || at != place {
		t.Errorf("%s: %v, %s; want %d at %d", what, got, fault.Text(r.Err()), code, place)
	}
}

// P5.2 (bytes)

func TestBytesOfKnownRows(t *testing.T) {
	wantBytes(t, "the document's example", Bytes(times(3, ' ', api.Cell{})), "\x04\x40\x00\x00\x00")
	wantBytes(t, "none", Bytes(nil), "")
	wantBytes(t, "one", Bytes(times(1, narrow, api.Cell{Fg: 1, Bg: 255, Attr: 63})), "\x00\xc2\x01\x02\xfe\x03\x7e")
	wantBytes(t, "pairs", Bytes(times(2, broad, api.Cell{Attr: api.Bold})), "\x02\x80\xb8\x02\x00\x00\x82\x01")
	row := slices.Concat(times(2, 'a', api.Cell{}), times(1, 'b', api.Cell{}), times(1, 'a', api.Cell{}))
	wantBytes(t, "runs that come again", Bytes(row), run(2, 'a', 0, 0, 0)+run(1, 'b', 0, 0, 0)+run(1, 'a', 0, 0, 0))
	row = nil
	for _, pen := range []api.Cell{{}, {Fg: 1}, {Bg: 1}, {Attr: 1}} {
		row = append(row, times(2, 'a', pen)...)
	}
	wantBytes(t, "alike but for one thing", Bytes(row), run(2, 'a', 0, 0, 0)+run(2, 'a', 1, 0, 0)+run(2, 'a', 0, 1, 0)+run(2, 'a', 0, 0, 1))
}

func TestBytesOfLongRunsAreOneRun(t *testing.T) {
	for _, n := range []int{4095, 4096, 4097, 5000, 100000} {
		wantBytes(t, "long", Bytes(times(n, ' ', api.Cell{})), run(n, ' ', 0, 0, 0))
	}
}

func TestBytesOfRowsThatAreNotRight(t *testing.T) {
	w := Make(broad, api.Cell{})
	for _, row := range [][]api.Cell{
		{{}}, w[:1], w[1:], {w[1], w[0]}, {w[0], w[1], w[1]}, {Blank(), {R: narrow, Attr: api.Wide}},
		append(times(3, 'a', api.Cell{}), w[0]),
	} {
		wantBytes(t, "not right", Bytes(row), "")
	}
}

func TestReadOfKnownBytes(t *testing.T) {
	wantRead(t, "the document's example", "\x04\x40\x00\x00\x00", 3, times(3, ' ', api.Cell{}))
	wantRead(t, "none", "", 0, nil)
	wantRead(t, "pairs", run(2, broad, 1, 2, 64|api.Bold), 4, times(2, broad, api.Cell{Fg: 1, Bg: 2, Attr: api.Bold}))
	wantRead(t, "the most", run(4096, 'a', 255, 255, 63), 4096, times(4096, 'a', api.Cell{Fg: 255, Bg: 255, Attr: 63}))
	wantRead(t, "the most pairs", run(2048, broad, 0, 0, 64), 4096, times(2048, broad, api.Cell{}))
	wantRead(t, "the greatest character", run(1, 0x10ffff, 0, 0, 0), 1, times(1, 0x10ffff, api.Cell{}))
}

func TestReadLeavesWhatIsBehind(t *testing.T) {
	r := nums.Of(nums.Put(7) + run(2, 'a', 0, 0, 0) + run(1, 'a', 0, 0, 0) + run(1, 'b', 0, 0, 0) + nums.Put(9))
	r.Num(7, 7)
	wantCells(t, "none of it", Read(r, 0), nil)
	if r.At() != 1 {
		t.Errorf("behind none it stands at %d", r.At())
	}
	wantCells(t, "the first run", Read(r, 2), times(2, 'a', api.Cell{}))
	// The run ahead was not of the same row.
	wantCells(t, "the other ones", Read(r, 2), append(Make('a', api.Cell{}), Make('b', api.Cell{})...))
	if r.Num(0, 9) != 9 || r.End() != nil {
		t.Errorf("what is behind was gone over")
	}
}

func TestReadOfHowMany(t *testing.T) {
	s := run(4096, 'a', 0, 0, 0)
	for _, n := range []int{-1, 4097, math.MinInt, math.MaxInt} {
		wantFailed(t, "too few or many", s, n, api.ErrArg, 0)
		wantFailed(t, "too few or many of nothing", "", n, api.ErrArg, 0)
	}
}

func TestReadOfNumbersThatAreNone(t *testing.T) {
	good := run(1, 'a', 0, 0, 0)
	size := len(good)
	wantFailed(t, "too short at once", "", 1, api.ErrShort, 0)
	for i := range size {
		// The character a has two bytes.
		at := i
		if i == 2 {
			at = 1
		}
		wantFailed(t, "too short", good[:i], 1, api.ErrShort, at)
	}
	wantFailed(t, "too short behind a run", good, 2, api.ErrShort, size)
	wantFailed(t, "no cells", nums.Put(-1, 'a', 0, 0, 0), 1, api.ErrOver, 0)
	wantFailed(t, "too great a run", nums.Put(4096, 'a', 0, 0, 0), 4096, api.ErrOver, 0)
	wantFailed(t, "below all characters", nums.Put(0, -1, 0, 0, 0), 1, api.ErrOver, 1)
	wantFailed(t, "above all characters", nums.Put(0, 0x110000, 0, 0, 0), 1, api.ErrOver, 1)
	for i := range 3 {
		for _, n := range []int{-1, 256} {
			l := []int{0, ' ', 0, 0, 0}
			l[2+i] = n
			wantFailed(t, "no byte", nums.Put(l...), 1, api.ErrOver, 2+i)
		}
	}
	wantFailed(t, "ill formed", "\x80\x00", 1, api.ErrForm, 0)
}

func TestReadOfRunsThatMayNotBe(t *testing.T) {
	a, b := run(1, 'a', 0, 0, 0), run(1, 'b', 0, 0, 0)
	for _, k := range []struct {
		what, ahead, run string
		n                int
	}{
		{"more than asked for", "", run(2, 'a', 0, 0, 0), 1},
		{"the most, and one", "", run(4096, 'a', 0, 0, 0), 4095},
		{"more behind one", a, run(2, 'b', 0, 0, 0), 2},
		{"half a pair", "", run(1, broad, 0, 0, 64), 1},
		{"half a pair behind one", a, run(1, broad, 0, 0, 64), 2},
		{"half of the last pair", "", run(2, broad, 0, 0, 64), 3},
		{"pairs beyond all", "", run(2049, broad, 0, 0, 64), 4096},
		{"no width", "", run(1, none, 0, 0, 0), 1},
		{"the zero cell", "", run(1, 0, 0, 0, 0), 1},
		{"the zero cell behind one", a, run(1, 0, 0, 0, 0), 2},
		{"half a character", "", run(1, 0xd800, 0, 0, 0), 1},
		{"narrow and Wide", "", run(1, 'a', 0, 0, 64), 2},
		{"broad and not Wide", "", run(1, broad, 0, 0, 0), 1},
		{"a Tail", "", run(1, 0, 0, 0, 128), 1},
		{"a Tail behind a Wide one", run(1, broad, 0, 0, 64), run(1, 0, 0, 0, 128), 3},
		{"a Tail of a character", "", run(1, 'a', 0, 0, 128), 1},
		{"Wide and a Tail", "", run(1, broad, 0, 0, 192), 2},
		{"the same run", a, a, 2},
		{"the same run again", a + b, b, 4},
		{"the same pairs", run(1, broad, 1, 2, 64), run(1, broad, 1, 2, 64), 4},
	} {
		wantFailed(t, k.what, k.ahead+k.run, k.n, api.ErrForm, len(k.ahead+k.run))
		wantFailed(t, k.what+", and something behind", k.ahead+k.run+b, k.n, api.ErrForm, len(k.ahead+k.run))
	}
}

func TestReadOfARowThatFailed(t *testing.T) {
	for _, n := range []int{0, 1, -1, 4097} {
		r := nums.Of(run(1, 'a', 0, 0, 0))
		r.Fail(api.ErrKind)
		if got := Read(r, n); got != nil || fault.Code(r.Err()) != api.ErrKind || r.At() != 0 {
			t.Errorf("%v, %s", got, fault.Text(r.Err()))
		}
		if got := Read(nil, n); got != nil {
			t.Errorf("of a nil row: %v", got)
		}
		r = new(nums.Row)
		if got := Read(r, n); got != nil || (r.Err() == nil) != (n == 0) {
			t.Errorf("of a zero row: %v", got)
		}
	}
}

func TestReadDoesNotGoOnBehindAFailure(t *testing.T) {
	s := run(2, 'a', 0, 0, 0) + run(1, 'b', 0, 0, 0)
	r := nums.Of(s)
	Read(r, 1)
	if got := Read(r, 1); got != nil || r.At() != len(run(2, 'a', 0, 0, 0)) {
		t.Errorf("%v, at %d", got, r.At())
	}
}

// P5.3 (texts)

func TestTextOfKnownRows(t *testing.T) {
	w := Make(broad, api.Cell{Fg: 3})
	a := Make('a', api.Cell{Attr: 63})
	blanks := times(2, ' ', api.Cell{})
	for _, k := range []struct {
		row  []api.Cell
		want string
	}{
		{nil, ""},
		{blanks, ""},
		{a, "a"},
		{slices.Concat(blanks, a, blanks, a, blanks), "  a  a"},
		{slices.Concat(w, a, w), "\u4e00a\u4e00"},
		{slices.Concat(w, blanks), "\u4e00"},
		{slices.Concat(a, times(2, ' ', api.Cell{Bg: 4, Attr: api.Reverse})), "a"},
		{times(1, 0xe9, api.Cell{}), "\xc3\xa9"},
		{times(1, 0xa0, api.Cell{}), "\xc2\xa0"},
		{times(1, 0x3000, api.Cell{}), "\u3000"},
		{times(1, 0x10ffff, api.Cell{}), "\U0010ffff"},
		{[]api.Cell{{}}, "?"},
		{[]api.Cell{a[0], {R: none}, {R: -1}, {R: 0xd800}, {R: broad}, {R: 'b', Attr: api.Wide}, a[0]}, "a?????a"},
		{[]api.Cell{{R: ' ', Attr: api.Wide}, {R: ' ', Attr: api.Tail}, {R: 'x', Attr: api.Tail}, {Attr: 192}}, "????"},
		// A Tail has no character of its own, wherever it stands; a Wide one has one without its Tail, too.
		{[]api.Cell{w[1], a[0], w[1], w[1], w[0]}, "a\u4e00"},
		{[]api.Cell{a[0], Blank(), w[1], Blank()}, "a"},
		{[]api.Cell{Blank(), {}, Blank()}, " ?"},
	} {
		if got := Text(k.row); got != k.want {
			t.Errorf("Text of %v: %q, want %q", k.row, got, k.want)
		}
	}
}

func TestTextOfSomeRows(t *testing.T) {
	r := rand.New(rand.NewSource(1))
	for range 20000 {
		row := someRow(r)
		ahead := slices.Clone(row)
		want := ""
		for _, c := range row {
			switch {
			case !slowCheck(c):
				want += "?"
			case c.Attr < api.Tail:
				want += string(c.R)
			}
		}
		if got := Text(row); got != strings.TrimRight(want, " ") {
			t.Errorf("Text of %v: %q, want %q", row, got, want)
		}
		wantCells(t, "what was handed in", row, ahead)
	}
}

// P5.4 (what follows)

func TestWhatWasWrittenIsRead(t *testing.T) {
	r := rand.New(rand.NewSource(1))
	for range 20000 {
		row := rightRow(r, 1+r.Intn(200))
		ahead := slices.Clone(row)
		s := Bytes(row)
		wantBytes(t, "bytes", s, slowBytes(row))
		wantRead(t, "read", s, len(row), row)
		wantCells(t, "what was handed in", row, ahead)
	}
}

func TestSomeMendedRowsAreRead(t *testing.T) {
	r := rand.New(rand.NewSource(2))
	for range 20000 {
		row := someRow(r)
		if !slowRight(row) {
			wantBytes(t, "not right", Bytes(row), "")
		}
		mended := Mend(row)
		wantRead(t, "mended", Bytes(mended), len(row), mended)
	}
}

// TestWhatIsReadIsWritten holds that a row has just one way to stand in bytes.
func TestWhatIsReadIsWritten(t *testing.T) {
	r := rand.New(rand.NewSource(3))
	some := 0
	for range 100000 {
		var s string
		for range 1 + r.Intn(3) {
			s += nums.Put(r.Intn(3), []int{'a', 'b', broad, 0, none}[r.Intn(5)], 0, r.Intn(2), []int{0, 0, 1, 64, 65, 128}[r.Intn(6)])
		}
		row := nums.Of(s)
		got := Read(row, r.Intn(6))
		if row.Err() != nil {
			if got != nil {
				t.Errorf("%x failed, and told %v", s, got)
			}
			continue
		}
		some++
		if !Right(got) || Bytes(got) != s[:row.At()] {
			t.Errorf("%x was read as %v, which is %x", s, got, Bytes(got))
		}
	}
	if some < 1000 {
		t.Errorf("just %d were read", some)
	}
}

// R3 (memory)

func TestWhatIsReadIsTheCallers(t *testing.T) {
	s := run(2, broad, 0, 0, 64)
	one := Read(nums.Of(s), 4)
	clear(one)
	wantRead(t, "read again", s, 4, times(2, broad, api.Cell{}))
}
