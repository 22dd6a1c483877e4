package cell

import (
	"math"
	"math/rand"
	"slices"
	"testing"

	"lyceum/api"
	"lyceum/runes"
)

// Characters of each width.
const (
	none   = 0x300
	narrow = 'a'
	broad  = 0x4e00
)

// kinds are characters at which the width changes, and such as are none.
var kinds = []rune{math.MinInt32, -1, 0, 0x1f, 0x20, 0x21, narrow, 0x7e, 0x7f, 0x9f, 0xa0, 0x2ff, none, 0x36f, 0x370, 0x10ff, 0x1100, 0x115f, 0x1160, 0x3000, broad, 0xd7ff, 0xd800, 0xdfff, 0xe000, 0xfffd, 0x1f600, 0x20000, 0x3fffd, 0x3fffe, 0x10ffff, 0x110000, math.MaxInt32}

// slowCheck is "a cell may be" in the document's words.
func slowCheck(c api.Cell) bool {
	width := runes.Width(c.R)
	wide, tail := c.Attr/64%2 == 1, c.Attr/128 == 1
	return width == 1 && !wide && !tail || width == 2 && wide && !tail || tail && !wide && c.R == 0
}

// slowTail tells whether b is a Tail of the same colours and ways of drawing as the Wide cell a.
func slowTail(a, b api.Cell) bool {
	return slowCheck(b) && b.Attr/128 == 1 && a.Fg == b.Fg && a.Bg == b.Bg && a.Attr%64 == b.Attr%64
}

// slowOwner tells whether the cell at i is a Wide one that may be, with its Tail behind it.
func slowOwner(row []api.Cell, i int) bool {
	return i >= 0 && i+1 < len(row) && slowCheck(row[i]) && row[i].Attr/64%2 == 1 && slowTail(row[i], row[i+1])
}

// slowRight is "a row is right" in the document's words.
func slowRight(row []api.Cell) bool {
	for i, c := range row {
		wide, tail := c.Attr/64%2 == 1, c.Attr/128 == 1
		if !slowCheck(c) || wide && !slowOwner(row, i) || tail && !slowOwner(row, i-1) {
			return false
		}
	}
	return true
}

// slowMend is what is mended, in the document's words.
func slowMend(row []api.Cell) []api.Cell {
	var mended []api.Cell
	for i, c := range row {
		plain := slowCheck(c) && c.Attr < 64
		if plain || slowOwner(row, i) || slowOwner(row, i-1) {
			mended = append(mended, c)
		} else {
			mended = append(mended, api.Cell{R: ' ', Fg: c.Fg, Bg: c.Bg})
		}
	}
	return mended
}

// someCell is a cell that is often one that may be.
func someCell(r *rand.Rand) api.Cell {
	c := api.Cell{R: []rune{' ', ' ', narrow, 'b', broad, 0, none, -1}[r.Intn(8)], Fg: uint8(r.Intn(2)), Attr: uint8(r.Intn(2) * api.Bold)}
	switch {
	case r.Intn(8) == 0:
		c.Attr |= []uint8{api.Wide, api.Tail, api.Wide | api.Tail}[r.Intn(3)]
	case c.R == broad:
		c.Attr |= api.Wide
	case c.R == 0:
		c.Attr |= api.Tail
	}
	return c
}

// someRow is a row that is often almost right.
func someRow(r *rand.Rand) []api.Cell {
	var row []api.Cell
	for range r.Intn(8) {
		c := someCell(r)
		row = append(row, c)
		if c.Attr&api.Wide != 0 && r.Intn(4) > 0 {
			row = append(row, api.Cell{Fg: c.Fg, Bg: c.Bg, Attr: c.Attr&63 | api.Tail})
		}
		for len(row) > 0 && r.Intn(3) == 0 {
			row = append(row, row[len(row)-1])
		}
	}
	return row
}

// rightRow is a row that is right, and has runs.
func rightRow(r *rand.Rand, most int) []api.Cell {
	var row []api.Cell
	for range r.Intn(6) {
		pen := api.Cell{Fg: uint8(r.Intn(2) * 255), Bg: uint8(r.Intn(2) * 200), Attr: uint8(r.Intn(256))}
		one := Make([]rune{' ', narrow, 0xff, broad, 0x10ffff, 0x20000}[r.Intn(6)], pen)
		for range 1 + r.Intn(most) {
			row = append(row, one...)
		}
	}
	return row
}

func wantCells(t *testing.T, what string, got, want []api.Cell) {
	t.Helper()
	if !slices.Equal(got, want) {
		t.Errorf("%s: %v, want %v", what, got, want)
	}
}

// P5.1 (cells)

func TestBlank(t *testing.T) {
	if got := Blank(); got != (api.Cell{R: 0x20}) {
		t.Errorf("a blank is %v", got)
	}
}

func TestCheckOfAllWaysOfDrawing(t *testing.T) {
	for _, r := range kinds {
		for attr := range 256 {
			for _, colour := range []uint8{0, 1, 255} {
				c := api.Cell{R: r, Fg: colour, Bg: colour, Attr: uint8(attr)}
				if got := Check(c); got != slowCheck(c) {
					t.Errorf("Check of %v: %t", c, got)
				}
			}
		}
	}
}

func TestCheckOfKnownCells(t *testing.T) {
	for _, k := range []struct {
		c    api.Cell
		want bool
	}{
		{api.Cell{}, false},
		{Blank(), true},
		{api.Cell{R: narrow, Fg: 9, Bg: 255, Attr: 63}, true},
		{api.Cell{R: narrow, Attr: api.Wide}, false},
		{api.Cell{R: narrow, Attr: api.Tail}, false},
		{api.Cell{R: broad}, false},
		{api.Cell{R: broad, Attr: api.Wide | api.Bold}, true},
		{api.Cell{R: broad, Attr: api.Tail}, false},
		{api.Cell{R: broad, Attr: api.Wide | api.Tail}, false},
		{api.Cell{Attr: api.Tail | api.Bold}, true},
		{api.Cell{Attr: api.Wide | api.Tail}, false},
		{api.Cell{Attr: api.Wide}, false},
		{api.Cell{R: none}, false},
		{api.Cell{R: none, Attr: api.Wide}, false},
		{api.Cell{R: 1, Attr: api.Tail}, false},
	} {
		if got := Check(k.c); got != k.want {
			t.Errorf("Check of %v: %t", k.c, got)
		}
	}
}

func TestRightOfKnownRows(t *testing.T) {
	w := api.Cell{R: broad, Fg: 1, Bg: 2, Attr: api.Wide | api.Bold}
	tl := api.Cell{Fg: 1, Bg: 2, Attr: api.Tail | api.Bold}
	a := api.Cell{R: narrow}
	for _, k := range []struct {
		row  []api.Cell
		want bool
	}{
		{nil, true},
		{[]api.Cell{}, true},
		{[]api.Cell{a}, true},
		{[]api.Cell{w, tl}, true},
		{[]api.Cell{a, w, tl, w, tl, a}, true},
		{[]api.Cell{w}, false},
		{[]api.Cell{tl}, false},
		{[]api.Cell{a, tl}, false},
		{[]api.Cell{w, a, tl}, false},
		{[]api.Cell{w, tl, tl}, false},
		{[]api.Cell{w, w, tl}, false},
		{[]api.Cell{w, w, tl, tl}, false},
		{[]api.Cell{tl, w}, false},
		{[]api.Cell{w, {Fg: 3, Bg: 2, Attr: api.Tail | api.Bold}}, false},
		{[]api.Cell{w, {Fg: 1, Bg: 3, Attr: api.Tail | api.Bold}}, false},
		{[]api.Cell{w, {Fg: 1, Bg: 2, Attr: api.Tail}}, false},
		{[]api.Cell{w, {R: narrow, Fg: 1, Bg: 2, Attr: api.Tail | api.Bold}}, false},
		{[]api.Cell{w, {Fg: 1, Bg: 2, Attr: api.Tail | api.Wide | api.Bold}}, false},
		{[]api.Cell{a, {}}, false},
		{[]api.Cell{{R: narrow, Attr: api.Wide}, {Attr: api.Tail}}, false},
	} {
		if got := Right(k.row); got != k.want || slowRight(k.row) != k.want {
			t.Errorf("Right of %v: %t", k.row, got)
		}
	}
}

func TestMakeOfAllWidths(t *testing.T) {
	for _, pen := range []api.Cell{{}, {R: 'p', Fg: 3, Bg: 4, Attr: 255}, {Fg: 255, Attr: api.Italic | api.Tail}, {Bg: 255, Attr: api.Wide}} {
		ways := pen.Attr & 63
		wantCells(t, "narrow", Make(narrow, pen), []api.Cell{{R: narrow, Fg: pen.Fg, Bg: pen.Bg, Attr: ways}})
		wantCells(t, "broad", Make(broad, pen), []api.Cell{{R: broad, Fg: pen.Fg, Bg: pen.Bg, Attr: ways | api.Wide}, {Fg: pen.Fg, Bg: pen.Bg, Attr: ways | api.Tail}})
		for _, r := range kinds {
			if got := Make(r, pen); len(got) != runes.Width(r) || !slowRight(got) {
				t.Errorf("Make of %x: %v", r, got)
			}
		}
	}
}

func TestMendOfKnownRows(t *testing.T) {
	w := api.Cell{R: broad, Fg: 1, Bg: 2, Attr: api.Wide | api.Bold}
	tl := api.Cell{Fg: 1, Bg: 2, Attr: api.Tail | api.Bold}
	gone := api.Cell{R: ' ', Fg: 1, Bg: 2}
	a := api.Cell{R: narrow, Bg: 9, Attr: api.Reverse}
	wantCells(t, "none", Mend(nil), nil)
	wantCells(t, "right", Mend([]api.Cell{a, w, tl, a}), []api.Cell{a, w, tl, a})
	wantCells(t, "a Wide one at the end", Mend([]api.Cell{a, w}), []api.Cell{a, gone})
	wantCells(t, "a Tail at the beginning", Mend([]api.Cell{tl, a}), []api.Cell{gone, a})
	wantCells(t, "two Wide ones", Mend([]api.Cell{w, w, tl}), []api.Cell{gone, w, tl})
	wantCells(t, "two Tails", Mend([]api.Cell{w, tl, tl}), []api.Cell{w, tl, gone})
	wantCells(t, "another's Tail", Mend([]api.Cell{w, {Fg: 7, Attr: api.Tail}}), []api.Cell{gone, {R: ' ', Fg: 7}})
	wantCells(t, "a broken Tail", Mend([]api.Cell{w, {R: 7, Fg: 1, Bg: 2, Attr: api.Tail | api.Bold}}), []api.Cell{gone, gone})
	wantCells(t, "a Wide one that may not be", Mend([]api.Cell{{R: narrow, Fg: 5, Attr: api.Wide}, {Fg: 5, Attr: api.Tail}}), []api.Cell{{R: ' ', Fg: 5}, {R: ' ', Fg: 5}})
	wantCells(t, "zero", Mend([]api.Cell{{}, {R: none, Fg: 8, Attr: 63}}), []api.Cell{{R: ' '}, {R: ' ', Fg: 8}})
}

// P5.4 (what follows)

func TestSomeRowsAreMended(t *testing.T) {
	r := rand.New(rand.NewSource(1))
	for range 100000 {
		row := someRow(r)
		ahead := slices.Clone(row)
		if got := Right(row); got != slowRight(row) {
			t.Errorf("Right of %v: %t", row, got)
		}
		got := Mend(row)
		wantCells(t, "mended", got, slowMend(row))
		if !Right(got) {
			t.Errorf("%v is mended, and not right", row)
		}
		if Right(row) {
			wantCells(t, "a right one", got, row)
		}
		wantCells(t, "what was handed in", row, ahead)
	}
}

func TestMendAnswersNewMemory(t *testing.T) {
	row := Make(broad, Blank())
	got := Mend(row)
	got[0] = Blank()
	wantCells(t, "what was handed in", row, Make(broad, Blank()))
	one := Make(broad, Blank())
	one[1] = Blank()
	wantCells(t, "another one", Make(broad, Blank()), row)
}
