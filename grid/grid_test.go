package grid

import (
	"math"
	"math/rand"
	"slices"
	"testing"

	"lyceum/api"
	"lyceum/cell"
)

// broad is a character that is 2 wide.
const broad = 0x4e00

// text is the cells of a text's characters.
func text(s string, pen api.Cell) []api.Cell {
	var row []api.Cell
	for _, r := range s {
		row = append(row, cell.Make(r, pen)...)
	}
	return row
}

// of is the grid whose rows are these texts, each as wide as the first one.
func of(lines ...string) api.Grid {
	g := api.Grid{W: len(text(lines[0], api.Cell{})), H: len(lines)}
	for _, s := range lines {
		g.Cells = append(g.Cells, text(s, api.Cell{})...)
	}
	return g
}

// someCell is a cell that is often one that may be.
func someCell(r *rand.Rand) api.Cell {
	c := api.Cell{R: []rune{' ', 'a', 'b', 'c', broad, 0, 0x300, -1}[r.Intn(8)], Fg: uint8(r.Intn(2)), Bg: uint8(r.Intn(2)), Attr: uint8(r.Intn(2))}
	switch {
	case r.Intn(8) == 0:
		c.Attr |= []uint8{api.Wide, api.Tail, api.Wide | api.Tail}[r.Intn(3)]
	case c.R == broad:
		c.Attr |= api.Wide
	case c.R == 0:
		c.Attr |= api.Tail
	}
	return c
}

// someRow is a right row of w cells, in which many characters are wide.
func someRow(r *rand.Rand, w int) []api.Cell {
	var row []api.Cell
	if r.Intn(4) == 0 {
		row = append(row, cell.Blank())
	}
	for len(row) < w {
		pen := api.Cell{Fg: uint8(r.Intn(2)), Bg: uint8(r.Intn(3)), Attr: uint8(r.Intn(2))}
		row = append(row, cell.Make([]rune{' ', 'x', 'y', broad, broad, 0x20000}[r.Intn(6)], pen)...)
	}
	return cell.Mend(row[:w])
}

// someGrid is a right grid, a small one.
func someGrid(r *rand.Rand) api.Grid {
	g := api.Grid{W: 1 + r.Intn(7), H: 1 + r.Intn(5)}
	for range g.H {
		g.Cells = append(g.Cells, someRow(r, g.W)...)
	}
	return g
}

// twin is a grid with the same cells, that shares none.
func twin(g api.Grid) api.Grid {
	return api.Grid{W: g.W, H: g.H, Cells: slices.Clone(g.Cells)}
}

// someNumber is a number that is often near to a small grid, and else far beyond it.
func someNumber(r *rand.Rand) int {
	if r.Intn(8) > 0 {
		return r.Intn(14) - 6
	}
	far := []int{math.MinInt, math.MinInt + 1, math.MinInt32, -300, 60, 200, math.MaxInt32, math.MaxInt - 1, math.MaxInt}
	return far[r.Intn(len(far))]
}

// cells is n times a cell.
func cells(n int, c api.Cell) []api.Cell {
	var row []api.Cell
	for range n {
		row = append(row, c)
	}
	return row
}

// wrongGrids are grids that are not right, each for one reason.
func wrongGrids() map[string]api.Grid {
	b := cell.Blank()
	wide := text("\u4e00", api.Cell{})
	return map[string]api.Grid{
		"the zero one":                  {},
		"no columns":                    {W: 0, H: 1},
		"no rows":                       {W: 1, H: 0},
		"less than no columns":          {W: -1, H: -1, Cells: cells(1, b)},
		"less than no rows":             {W: 2, H: -2, Cells: cells(4, b)},
		"too many columns":              {W: 201, H: 1, Cells: cells(201, b)},
		"too many rows":                 {W: 1, H: 61, Cells: cells(61, b)},
		"no cells":                      {W: 1, H: 1},
		"one cell less":                 {W: 3, H: 2, Cells: cells(5, b)},
		"one cell more":                 {W: 3, H: 2, Cells: cells(7, b)},
		"a cell that may not be":        {W: 2, H: 2, Cells: append(cells(3, b), api.Cell{})},
		"half a wide character":         {W: 2, H: 1, Cells: []api.Cell{b, wide[0]}},
		"the other half":                {W: 2, H: 1, Cells: []api.Cell{wide[1], b}},
		"a character in two rows":       {W: 3, H: 2, Cells: []api.Cell{b, b, wide[0], wide[1], b, b}},
		"a Tail of other colours":       {W: 2, H: 1, Cells: []api.Cell{wide[0], {Fg: 1, Attr: api.Tail}}},
		"no cells of many":              {W: math.MaxInt, H: math.MaxInt},
		"as many as go round to none":   {W: 1 << 32, H: 1 << 32},
		"as many as go round to few":    {W: 1<<62 + 1, H: 4, Cells: cells(4, b)},
		"as many as go round below all": {W: math.MaxInt, H: 2, Cells: cells(4, b)},
		"the lowest":                    {W: math.MinInt, H: math.MinInt, Cells: cells(4, b)},
	}
}

func wantCells(t *testing.T, what string, got, want []api.Cell) {
	t.Helper()
	if !slices.Equal(got, want) {
		t.Errorf("%s: %v, want %v", what, got, want)
	}
}

func wantGrid(t *testing.T, what string, got, want api.Grid) {
	t.Helper()
	if got.W != want.W || got.H != want.H || !slices.Equal(got.Cells, want.Cells) {
		t.Errorf("%s: %v, want %v", what, got, want)
	}
}

func wantLines(t *testing.T, what string, g api.Grid, want ...string) {
	t.Helper()
	if got := Lines(g); !slices.Equal(got, want) {
		t.Errorf("%s: %q, want %q", what, got, want)
	}
	if !Check(g) {
		t.Errorf("%s: not right", what)
	}
}

// P6.1 (told)

func TestNewOfAllSizes(t *testing.T) {
	for w := -2; w <= 203; w++ {
		for h := -2; h <= 63; h++ {
			got := New(w, h)
			if w < 1 || w > 200 || h < 1 || h > 60 {
				if got.W != 0 || got.H != 0 || got.Cells != nil {
					t.Errorf("New(%d, %d): %d, %d and %d cells", w, h, got.W, got.H, len(got.Cells))
				}
				continue
			}
			blank := func(c api.Cell) bool { return c != api.Cell{R: 0x20} }
			if got.W != w || got.H != h || len(got.Cells) != w*h || slices.ContainsFunc(got.Cells, blank) {
				t.Errorf("New(%d, %d): %d, %d and %d cells", w, h, got.W, got.H, len(got.Cells))
			}
		}
	}
}

func TestNewOfSizesFarBeyond(t *testing.T) {
	for _, n := range []int{math.MinInt, math.MinInt + 1, -1 << 32, 1 << 32, 1 << 62, math.MaxInt} {
		for _, m := range []int{1, 4, n} {
			wantGrid(t, "too wide", New(n, m), api.Grid{})
			wantGrid(t, "too high", New(m, n), api.Grid{})
		}
	}
}

func TestCheckOfRightGrids(t *testing.T) {
	r := rand.New(rand.NewSource(1))
	for range 2000 {
		if g := someGrid(r); !Check(g) {
			t.Errorf("%v is not right", g)
		}
	}
	for _, size := range [][2]int{{1, 1}, {200, 1}, {1, 60}, {200, 60}} {
		g := api.Grid{W: size[0], H: size[1], Cells: cells(size[0]*size[1], cell.Blank())}
		if !Check(g) {
			t.Errorf("one of %v is not right", size)
		}
		g.Cells[len(g.Cells)-1] = api.Cell{}
		if Check(g) {
			t.Errorf("one of %v is right, and its last cell may not be", size)
		}
	}
}

func TestCheckOfWrongGrids(t *testing.T) {
	for what, g := range wrongGrids() {
		if Check(g) {
			t.Errorf("%s: right", what)
		}
	}
}

func TestCheckOfEachRow(t *testing.T) {
	for y := range 60 {
		g := New(3, 60)
		g.Cells[3*y+2] = api.Cell{R: broad, Attr: api.Wide}
		if Check(g) {
			t.Errorf("the row %d is not right, and the grid is", y)
		}
	}
}

func TestSameOfTwins(t *testing.T) {
	r := rand.New(rand.NewSource(1))
	for range 2000 {
		g := someGrid(r)
		if !Same(g, g) || !Same(g, twin(g)) {
			t.Errorf("%v is not the same as its twin", g)
		}
		other := twin(g)
		c := &other.Cells[r.Intn(len(g.Cells))]
		switch r.Intn(4) {
		case 0:
			c.R++
		case 1:
			c.Fg++
		case 2:
			c.Bg++
		case 3:
			c.Attr ^= 1 << r.Intn(8)
		}
		if Same(g, other) || Same(other, g) {
			t.Errorf("%v is the same as %v", g, other)
		}
	}
}

func TestSameOfOtherSizes(t *testing.T) {
	l := cells(6, cell.Blank())
	for _, k := range []struct {
		what string
		a, b api.Grid
		want bool
	}{
		{"turned", api.Grid{W: 2, H: 3, Cells: l}, api.Grid{W: 3, H: 2, Cells: l}, false},
		{"other W", api.Grid{W: 2, H: 3, Cells: l}, api.Grid{W: 1, H: 3, Cells: l}, false},
		{"other H", api.Grid{W: 2, H: 3, Cells: l}, api.Grid{W: 2, H: 2, Cells: l}, false},
		{"fewer cells", api.Grid{W: 2, H: 3, Cells: l}, api.Grid{W: 2, H: 3, Cells: l[:5]}, false},
		{"cells behind the last row", api.Grid{W: 2, H: 2, Cells: l}, api.Grid{W: 2, H: 2, Cells: l[:4]}, false},
		{"zero", api.Grid{}, api.Grid{}, true},
		{"nil and empty", api.Grid{W: 1}, api.Grid{W: 1, Cells: []api.Cell{}}, true},
		{"none of many", api.Grid{W: math.MaxInt, H: -1}, api.Grid{W: math.MaxInt, H: -1}, true},
	} {
		if Same(k.a, k.b) != k.want || Same(k.b, k.a) != k.want {
			t.Errorf("%s: %t", k.what, !k.want)
		}
	}
	for what, g := range wrongGrids() {
		if !Same(g, twin(g)) {
			t.Errorf("%s: not the same as its twin", what)
		}
	}
}

func TestRowsAndPlacesOfAKnownGrid(t *testing.T) {
	g := of("ab", "\u4e00", " c")
	wantCells(t, "row 0", Row(g, 0), text("ab", api.Cell{}))
	wantCells(t, "row 1", Row(g, 1), text("\u4e00", api.Cell{}))
	wantCells(t, "row 2", Row(g, 2), text(" c", api.Cell{}))
	wantLines(t, "lines", g, "ab", "\u4e00", " c")
	for i, want := range g.Cells {
		if got := At(g, i%2, i/2); got != want {
			t.Errorf("At %d, %d: %v, want %v", i%2, i/2, got, want)
		}
	}
	for _, n := range []int{math.MinInt, -2, -1, 3, 4, math.MaxInt} {
		wantCells(t, "no row", Row(g, n), nil)
		for y := range 3 {
			if At(g, n, y) != (api.Cell{}) || At(g, 2, y) != (api.Cell{}) {
				t.Errorf("something lies beside row %d", y)
			}
		}
		if At(g, 0, n) != (api.Cell{}) || At(g, 1, n) != (api.Cell{}) || At(g, n, n) != (api.Cell{}) {
			t.Errorf("something lies in row %d", n)
		}
	}
}

func TestLinesTellEachRow(t *testing.T) {
	wantLines(t, "blanks", New(4, 3), "", "", "")
	g := of("?? ")
	g.Cells[1] = api.Cell{}
	if got := Lines(g); !slices.Equal(got, []string{"??"}) {
		t.Errorf("of a cell that may not be: %q", got)
	}
}

func TestGridsWithoutRows(t *testing.T) {
	for _, what := range []string{
		"the zero one", "no columns", "no rows", "less than no columns", "less than no rows", "no cells", "one cell less",
		"no cells of many", "as many as go round to none", "as many as go round to few", "as many as go round below all", "the lowest",
	} {
		g, found := wrongGrids()[what]
		if !found {
			t.Fatalf("%s: there is none", what)
		}
		if got := Lines(g); len(got) != 0 {
			t.Errorf("%s: the lines %q", what, got)
		}
		for _, n := range []int{math.MinInt, -1, 0, 1, 2, math.MaxInt} {
			wantCells(t, what, Row(g, n), nil)
			if At(g, 0, n) != (api.Cell{}) || At(g, n, 0) != (api.Cell{}) || At(g, 1, n) != (api.Cell{}) {
				t.Errorf("%s: something lies at %d", what, n)
			}
		}
	}
}

func TestRowsOfOtherWrongGrids(t *testing.T) {
	far := api.Cell{R: 'f'}
	wide := append(cells(200, cell.Blank()), far)
	g := api.Grid{W: 201, H: 1, Cells: wide}
	wantCells(t, "too wide", Row(g, 0), wide)
	if At(g, 200, 0) != far || len(Lines(g)) != 1 {
		t.Error("too wide: its last cell is not told")
	}
	high := append(cells(120, cell.Blank()), cell.Blank(), far)
	g = api.Grid{W: 2, H: 61, Cells: high}
	wantCells(t, "too high", Row(g, 60), high[120:])
	if At(g, 1, 60) != far || len(Lines(g)) != 61 || Lines(g)[60] != " f" {
		t.Error("too high: its last cell is not told")
	}
	g = api.Grid{W: 2, H: 2, Cells: high[115:]}
	wantCells(t, "more cells", Row(g, 1), high[117:119])
	wantCells(t, "behind its rows", Row(g, 2), nil)
	if len(Lines(g)) != 2 || At(g, 0, 2) != (api.Cell{}) {
		t.Error("more cells: they are told")
	}
	g = api.Grid{W: 2, H: 2, Cells: []api.Cell{far, {R: broad, Attr: api.Wide}, {Attr: api.Tail}, {}}}
	wantCells(t, "wrong rows", Row(g, 1), g.Cells[2:])
	if got := Lines(g); !slices.Equal(got, []string{"f\u4e00", "?"}) || At(g, 0, 1) != g.Cells[2] {
		t.Errorf("wrong rows: %q", got)
	}
}

// R3 (memory)

func TestARowIsTheCallers(t *testing.T) {
	g := of("abc", "def")
	for y := range 2 {
		row := Row(g, y)
		clear(row)
		_ = append(row, api.Cell{R: 'z'})
	}
	wantLines(t, "behind what was done to its rows", g, "abc", "def")
	other := New(3, 2)
	clear(other.Cells)
	wantLines(t, "a new one", New(3, 2), "", "")
}
