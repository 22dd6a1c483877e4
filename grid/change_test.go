package grid

import (
	"math"
	"math/rand"
	"slices"
	"testing"

	"lyceum/api"
	"lyceum/cell"
)

// dot is a cell that stands beside no other one by chance.
var dot = api.Cell{R: '.', Fg: 7, Attr: api.Underline}

// mended is a grid whose rows are mended, one by one.
func mended(g api.Grid) api.Grid {
	out := api.Grid{W: g.W, H: g.H}
	for y := range g.H {
		out.Cells = append(out.Cells, cell.Mend(g.Cells[y*g.W:y*g.W+g.W])...)
	}
	return out
}

// lies tells whether the place p is the i-th one from began on.
func lies(p, began, i int) bool { return began <= math.MaxInt-i && began+i == p }

// slowBlit lays rows of cells at x, y on, in the document's words: place by place.
func slowBlit(g api.Grid, rows [][]api.Cell, x, y int) api.Grid {
	g = twin(g)
	for p := range g.Cells {
		for j, row := range rows {
			for i, c := range row {
				if lies(p%g.W, x, i) && lies(p/g.W, y, j) {
					g.Cells[p] = c
				}
			}
		}
	}
	return mended(g)
}

// slowRows is a grid's rows.
func slowRows(g api.Grid) [][]api.Cell { return slices.Collect(slices.Chunk(g.Cells, g.W)) }

// inRect tells whether a place lies in a rectangle.
func inRect(x, y int, r api.Rect) bool {
	if x < r.X || y < r.Y || r.W < 1 || r.H < 1 {
		return false
	}
	return uint64(x)-uint64(r.X) < uint64(r.W) && uint64(y)-uint64(r.Y) < uint64(r.H)
}

// slowFill is what is filled, in the document's words.
func slowFill(g api.Grid, r api.Rect, c api.Cell) api.Grid {
	g = twin(g)
	for p := range g.Cells {
		if inRect(p%g.W, p/g.W, r) {
			g.Cells[p] = c
		}
	}
	return mended(g)
}

// slowMove moves the elements of l to the front by n (to the back, if n is below 0), one step after the other; free stands where nothing came.
func slowMove[T any](l []T, n int, free T) []T {
	l = slices.Clone(l)
	for i := range len(l) {
		switch {
		case n > i:
			l = append(l[1:], free)
		case n < -i:
			l = slices.Insert(l[:len(l)-1], 0, free)
		}
	}
	return l
}

// brought is n brought into 0 to most.
func brought(n, most int) int {
	switch {
	case n < 0:
		return 0
	case n > most:
		return most
	}
	return n
}

// slowScroll is what is scrolled, in the document's words.
func slowScroll(g api.Grid, top, end, n int, c api.Cell) api.Grid {
	top, end = brought(top, g.H), brought(end, g.H)
	rows := slowRows(g)
	if top < end {
		moved := slowMove(rows[top:end], n, cells(g.W, c))
		rows = slices.Concat(rows[:top], moved, rows[end:])
	}
	return api.Grid{W: g.W, H: g.H, Cells: slices.Concat(rows...)}
}

// slowShift is what is shifted, in the document's words.
func slowShift(g api.Grid, x, y, n int, c api.Cell) api.Grid {
	g = twin(g)
	for at, row := range slowRows(g) {
		if at == y {
			from := row[brought(x, g.W):]
			// To the right is to the back; the lowest number goes round nowhere.
			copy(from, slowMove(from, -max(n, -math.MaxInt), c))
		}
	}
	return mended(g)
}

// slowResize is a grid of another size, in the document's words.
func slowResize(g api.Grid, w, h int, c api.Cell) api.Grid {
	out := api.Grid{W: w, H: h}
	for y := range h {
		for x := range w {
			if x < g.W && y < g.H {
				out.Cells = append(out.Cells, g.Cells[y*g.W+x])
			} else {
				out.Cells = append(out.Cells, c)
			}
		}
	}
	return mended(out)
}

// somePlain is a cell that may be, and is no half of a wide character.
func somePlain(r *rand.Rand) api.Cell {
	return api.Cell{R: []rune{' ', '.', 0xe9}[r.Intn(3)], Fg: uint8(r.Intn(2)), Bg: uint8(r.Intn(256)), Attr: uint8(r.Intn(64))}
}

// wrongCells are cells with which nothing is changed.
func wrongCells() []api.Cell {
	return []api.Cell{
		{}, {R: broad, Attr: api.Wide}, {Attr: api.Tail}, {R: broad}, {R: 'a', Attr: api.Wide}, {R: 'a', Attr: api.Tail},
		{R: 'a', Attr: api.Wide | api.Tail}, {Attr: api.Wide | api.Tail}, {R: 0x1f}, {R: 0x300}, {R: -1}, {R: 0xd800}, {R: 0x110000},
	}
}

// wantBeside holds that g was right and got is, and that what is not of the change stayed, but for halves of wide characters.
func wantBeside(t *testing.T, what string, g, got api.Grid, changed func(x, y int) bool) {
	t.Helper()
	if !Check(got) {
		t.Errorf("%s: %v of %v is not right", what, got, g)
	}
	for p, was := range g.Cells {
		x, y := p%g.W, p/g.W
		if changed(x, y) || At(got, x, y) == was {
			continue
		}
		half := was.Attr&(api.Wide|api.Tail) != 0
		if !half || At(got, x, y) != (api.Cell{R: ' ', Fg: was.Fg, Bg: was.Bg}) {
			t.Errorf("%s: %d, %d of %v has become %v", what, x, y, g, At(got, x, y))
		}
	}
}

// P6.2 (changed), by known grids

func TestPutIntoAKnownGrid(t *testing.T) {
	g := of("abcd", "x\u4e00y", "efgh")
	q := text("qr", api.Cell{})
	wantLines(t, "at the beginning", Put(g, 0, 0, q...), "qrcd", "x\u4e00y", "efgh")
	wantLines(t, "at the end", Put(g, 2, 2, q...), "abcd", "x\u4e00y", "efqr")
	wantLines(t, "beyond the end", Put(g, 3, 0, q...), "abcq", "x\u4e00y", "efgh")
	wantLines(t, "behind the end", Put(g, 4, 0, q...), "abcd", "x\u4e00y", "efgh")
	wantLines(t, "from ahead of the beginning", Put(g, -1, 0, q...), "rbcd", "x\u4e00y", "efgh")
	wantLines(t, "ahead of the beginning", Put(g, -2, 0, q...), "abcd", "x\u4e00y", "efgh")
	wantLines(t, "from ahead, beyond the end", Put(g, -1, 2, text("0123456", api.Cell{})...), "abcd", "x\u4e00y", "1234")
	wantLines(t, "above", Put(g, 0, -1, q...), "abcd", "x\u4e00y", "efgh")
	wantLines(t, "below", Put(g, 0, 3, q...), "abcd", "x\u4e00y", "efgh")
	wantLines(t, "nothing", Put(g, 0, 0), "abcd", "x\u4e00y", "efgh")
	wantLines(t, "on one half", Put(g, 0, 1, q...), "abcd", "qr y", "efgh")
	wantLines(t, "on the other half", Put(g, 2, 1, q...), "abcd", "x qr", "efgh")
	wide := text("\u4e00", api.Cell{})
	wantLines(t, "a wide one", Put(g, 1, 0, wide...), "a\u4e00d", "x\u4e00y", "efgh")
	wantLines(t, "half a wide one at the end", Put(g, 3, 0, wide...), "abc", "x\u4e00y", "efgh")
	wantLines(t, "half a wide one at the beginning", Put(g, -1, 0, wide...), " bcd", "x\u4e00y", "efgh")
	wantLines(t, "just a first half", Put(g, 1, 0, wide[0]), "a cd", "x\u4e00y", "efgh")
	wantLines(t, "just another half", Put(g, 1, 0, wide[1]), "a cd", "x\u4e00y", "efgh")
	wantLines(t, "halves that fit one another", Put(g, 1, 1, wide[0]), "abcd", "x\u4e00y", "efgh")
	wantLines(t, "what may not be", Put(g, 1, 0, api.Cell{}, api.Cell{R: 'q', Attr: api.Wide}), "a  d", "x\u4e00y", "efgh")
}

func TestPutMendsWithTheColoursThatWere(t *testing.T) {
	g := New(4, 1)
	g = Put(g, 0, 0, text("\u4e00\u4e01", api.Cell{Fg: 3, Bg: 4, Attr: api.Bold})...)
	blank := api.Cell{R: ' ', Fg: 3, Bg: 4}
	wantCells(t, "both neighbours", Put(g, 1, 0, dot, dot).Cells, []api.Cell{blank, dot, dot, blank})
	half := api.Cell{R: broad, Fg: 5, Bg: 6, Attr: api.Wide | api.Bold}
	wantCells(t, "what was put", Put(g, 3, 0, half).Cells, []api.Cell{g.Cells[0], g.Cells[1], blank, {R: ' ', Fg: 5, Bg: 6}})
}

func TestFillAKnownGrid(t *testing.T) {
	g := of("abcd", "x\u4e00y", "efgh")
	for _, k := range []struct {
		what string
		r    api.Rect
		want []string
	}{
		{"all", api.Rect{W: 4, H: 3}, []string{"....", "....", "...."}},
		{"one place", api.Rect{X: 1, Y: 2, W: 1, H: 1}, []string{"abcd", "x\u4e00y", "e.gh"}},
		{"one half", api.Rect{X: 0, Y: 0, W: 2, H: 2}, []string{"..cd", ".. y", "efgh"}},
		{"the other half", api.Rect{X: 2, Y: 1, W: 1, H: 2}, []string{"abcd", "x .y", "ef.h"}},
		{"beyond all", api.Rect{X: -5, Y: -5, W: 100, H: 100}, []string{"....", "....", "...."}},
		{"from ahead", api.Rect{X: -1, Y: -1, W: 2, H: 2}, []string{".bcd", "x\u4e00y", "efgh"}},
		{"beyond the end", api.Rect{X: 3, Y: 2, W: 2, H: 2}, []string{"abcd", "x\u4e00y", "efg."}},
		{"ahead of all", api.Rect{X: -2, Y: 0, W: 2, H: 3}, []string{"abcd", "x\u4e00y", "efgh"}},
		{"above all", api.Rect{X: 0, Y: -2, W: 4, H: 2}, []string{"abcd", "x\u4e00y", "efgh"}},
		{"behind all", api.Rect{X: 4, Y: 0, W: 1, H: 3}, []string{"abcd", "x\u4e00y", "efgh"}},
		{"below all", api.Rect{X: 0, Y: 3, W: 4, H: 1}, []string{"abcd", "x\u4e00y", "efgh"}},
		{"of no width", api.Rect{W: 0, H: 3}, []string{"abcd", "x\u4e00y", "efgh"}},
		{"of no height", api.Rect{W: 4, H: 0}, []string{"abcd", "x\u4e00y", "efgh"}},
		{"below no width", api.Rect{X: 2, W: -2, H: 3}, []string{"abcd", "x\u4e00y", "efgh"}},
		{"below no height", api.Rect{Y: 2, W: 4, H: -2}, []string{"abcd", "x\u4e00y", "efgh"}},
		{"the greatest", api.Rect{X: 1, Y: 1, W: math.MaxInt, H: math.MaxInt}, []string{"abcd", "x...", "e..."}},
		{"from far ahead", api.Rect{X: math.MinInt, Y: math.MinInt, W: math.MaxInt, H: math.MaxInt}, []string{"abcd", "x\u4e00y", "efgh"}},
		{"from far ahead, just to it", api.Rect{X: -math.MaxInt + 1, Y: -math.MaxInt + 1, W: math.MaxInt, H: math.MaxInt}, []string{".bcd", "x\u4e00y", "efgh"}},
		{"far behind", api.Rect{X: math.MaxInt, Y: math.MaxInt, W: math.MaxInt, H: math.MaxInt}, []string{"abcd", "x\u4e00y", "efgh"}},
	} {
		wantLines(t, k.what, Fill(g, k.r, dot), k.want...)
	}
	wantCells(t, "with what", Fill(of("a"), api.Rect{W: 1, H: 1}, dot).Cells, []api.Cell{dot})
}

func TestScrollAKnownGrid(t *testing.T) {
	g := of("a", "b", "c", "d")
	for _, k := range []struct {
		what        string
		top, end, n int
		want        []string
	}{
		{"up by one", 0, 4, 1, []string{"b", "c", "d", "."}},
		{"down by one", 0, 4, -1, []string{".", "a", "b", "c"}},
		{"by none", 0, 4, 0, []string{"a", "b", "c", "d"}},
		{"up, of a region", 1, 3, 1, []string{"a", "c", ".", "d"}},
		{"down, of a region", 1, 3, -1, []string{"a", ".", "b", "d"}},
		{"up by all but one", 0, 4, 3, []string{"d", ".", ".", "."}},
		{"up by all", 0, 4, 4, []string{".", ".", ".", "."}},
		{"down by all of a region", 1, 3, -2, []string{"a", ".", ".", "d"}},
		{"up by more", 1, 3, 3, []string{"a", ".", ".", "d"}},
		{"the most", 0, 2, math.MaxInt, []string{".", ".", "c", "d"}},
		{"the least", 2, 4, math.MinInt, []string{"a", "b", ".", "."}},
		{"beyond both ends", -3, 9, 1, []string{"b", "c", "d", "."}},
		{"beyond both ends by far", math.MinInt, math.MaxInt, -1, []string{".", "a", "b", "c"}},
		{"of no rows", 2, 2, 1, []string{"a", "b", "c", "d"}},
		{"of less than none", 3, 1, 1, []string{"a", "b", "c", "d"}},
		{"above all", -3, 0, 1, []string{"a", "b", "c", "d"}},
		{"below all", 4, 9, 1, []string{"a", "b", "c", "d"}},
		{"far outside", math.MaxInt, math.MinInt, 1, []string{"a", "b", "c", "d"}},
	} {
		wantLines(t, k.what, Scroll(g, k.top, k.end, k.n, dot), k.want...)
	}
	wantCells(t, "with what", Scroll(of("a\u4e00"), 0, 1, 1, dot).Cells, cells(3, dot))
}

func TestShiftAKnownGrid(t *testing.T) {
	wantLines(t, "the document's example", Shift(of("abc"), 1, 0, 1, cell.Blank()), "a b")
	g := of("abcdef", "u\u4e00v\u4e01", "ghijkl")
	for _, k := range []struct {
		what    string
		x, y, n int
		want    []string
	}{
		{"to the right", 2, 0, 2, []string{"ab..cd", "u\u4e00v\u4e01", "ghijkl"}},
		{"to the left", 2, 0, -2, []string{"abef..", "u\u4e00v\u4e01", "ghijkl"}},
		{"by none", 2, 0, 0, []string{"abcdef", "u\u4e00v\u4e01", "ghijkl"}},
		{"of all", 0, 2, 1, []string{"abcdef", "u\u4e00v\u4e01", ".ghijk"}},
		{"from ahead", -3, 2, 1, []string{"abcdef", "u\u4e00v\u4e01", ".ghijk"}},
		{"from far ahead", math.MinInt, 2, -1, []string{"abcdef", "u\u4e00v\u4e01", "hijkl."}},
		{"of the last place", 5, 0, 1, []string{"abcde.", "u\u4e00v\u4e01", "ghijkl"}},
		{"of no place", 6, 0, 1, []string{"abcdef", "u\u4e00v\u4e01", "ghijkl"}},
		{"far behind", math.MaxInt, 0, 1, []string{"abcdef", "u\u4e00v\u4e01", "ghijkl"}},
		{"by as many as there are", 2, 0, 4, []string{"ab....", "u\u4e00v\u4e01", "ghijkl"}},
		{"by one less", 2, 0, 3, []string{"ab...c", "u\u4e00v\u4e01", "ghijkl"}},
		{"the most", 2, 0, math.MaxInt, []string{"ab....", "u\u4e00v\u4e01", "ghijkl"}},
		{"the least", 2, 0, math.MinInt, []string{"ab....", "u\u4e00v\u4e01", "ghijkl"}},
		{"above all", 0, -1, 1, []string{"abcdef", "u\u4e00v\u4e01", "ghijkl"}},
		{"below all", 0, 3, 1, []string{"abcdef", "u\u4e00v\u4e01", "ghijkl"}},
		{"within a wide one", 2, 1, 1, []string{"abcdef", "u . v", "ghijkl"}},
		{"a wide one out of it", 0, 1, 1, []string{"abcdef", ".u\u4e00v", "ghijkl"}},
		{"a wide one ahead of it", 0, 1, -2, []string{"abcdef", " v\u4e01..", "ghijkl"}},
	} {
		wantLines(t, k.what, Shift(g, k.x, k.y, k.n, dot), k.want...)
	}
	wantCells(t, "with what", Shift(of("ab"), 0, 0, 1, dot).Cells, []api.Cell{dot, {R: 'a'}})
}

func TestBlitIntoAKnownGrid(t *testing.T) {
	g := of("abcd", "x\u4e00y", "efgh")
	from := of("01", "23")
	wide := of("\u4e8c")
	wantLines(t, "at the beginning", Blit(g, from, 0, 0), "01cd", "23 y", "efgh")
	wantLines(t, "within", Blit(g, from, 2, 1), "abcd", "x 01", "ef23")
	wantLines(t, "beyond the end", Blit(g, from, 3, 2), "abcd", "x\u4e00y", "efg0")
	wantLines(t, "from ahead", Blit(g, from, -1, -1), "3bcd", "x\u4e00y", "efgh")
	wantLines(t, "greater than it", Blit(from, g, -1, -1), "\u4e00", "fg")
	wantLines(t, "half a wide one at the end", Blit(g, wide, 3, 0), "abc", "x\u4e00y", "efgh")
	wantLines(t, "half a wide one at the beginning", Blit(g, wide, -1, 2), "abcd", "x\u4e00y", " fgh")
	wantLines(t, "a wide one on another", Blit(g, wide, 0, 1), "abcd", "\u4e8c y", "efgh")
	for _, n := range []int{math.MinInt, math.MinInt + 1, -2, 4, math.MaxInt - 1, math.MaxInt} {
		wantGrid(t, "beside", Blit(g, from, n, 0), g)
		wantGrid(t, "below or above", Blit(g, from, 0, n), g)
		wantGrid(t, "outside", Blit(g, from, n, n), g)
	}
	wantGrid(t, "below", Blit(g, from, 0, 3), g)
}

func TestResizeAKnownGrid(t *testing.T) {
	g := of("a\u4e00", "bcd")
	wantLines(t, "the same size", Resize(g, 3, 2, dot), "a\u4e00", "bcd")
	wantLines(t, "wider", Resize(g, 5, 2, dot), "a\u4e00..", "bcd..")
	wantLines(t, "higher", Resize(g, 3, 4, dot), "a\u4e00", "bcd", "...", "...")
	wantLines(t, "wider and higher", Resize(g, 4, 3, dot), "a\u4e00.", "bcd.", "....")
	wantLines(t, "narrower", Resize(g, 2, 2, dot), "a", "bc")
	wantLines(t, "lower", Resize(g, 3, 1, dot), "a\u4e00")
	wantLines(t, "narrower and higher", Resize(g, 1, 3, dot), "a", "b", ".")
	wantCells(t, "with what", Resize(of("a"), 2, 1, dot).Cells, []api.Cell{{R: 'a'}, dot})
	big := Resize(g, 200, 60, dot)
	if !Check(big) || big.W != 200 || big.H != 60 || At(big, 199, 59) != dot || At(big, 0, 0) != (api.Cell{R: 'a'}) {
		t.Error("the greatest one is none")
	}
	wantGrid(t, "back again", Resize(big, 3, 2, dot), g)
	for _, size := range [][2]int{{0, 1}, {1, 0}, {0, 0}, {-1, -1}, {201, 1}, {1, 61}, {math.MinInt, 1}, {1, math.MaxInt}, {1 << 32, 1 << 32}, {math.MaxInt, math.MaxInt}} {
		wantGrid(t, "a size that may not be", Resize(g, size[0], size[1], dot), g)
	}
}

// P6.2 (changed) and P6.3 (what follows), by many grids

func TestSomePuts(t *testing.T) {
	r := rand.New(rand.NewSource(1))
	for range 50000 {
		g, x, y := someGrid(r), someNumber(r), someNumber(r)
		var l []api.Cell
		for range r.Intn(6) {
			l = append(l, someCell(r))
		}
		if r.Intn(2) == 0 {
			l = someRow(r, 1+r.Intn(9))
		}
		got := Put(g, x, y, l...)
		wantGrid(t, "Put", got, slowBlit(g, [][]api.Cell{l}, x, y))
		wantBeside(t, "Put", g, got, func(px, py int) bool {
			return inRect(px, py, api.Rect{X: x, Y: y, W: len(l), H: 1})
		})
	}
}

func TestSomeFills(t *testing.T) {
	r := rand.New(rand.NewSource(2))
	for range 50000 {
		g, c := someGrid(r), somePlain(r)
		rect := api.Rect{X: someNumber(r), Y: someNumber(r), W: someNumber(r), H: someNumber(r)}
		got := Fill(g, rect, c)
		wantGrid(t, "Fill", got, slowFill(g, rect, c))
		wantBeside(t, "Fill", g, got, func(x, y int) bool { return inRect(x, y, rect) })
		for p := range g.Cells {
			if x, y := p%g.W, p/g.W; inRect(x, y, rect) && At(got, x, y) != c {
				t.Errorf("%d, %d lies in %v, and is %v", x, y, rect, At(got, x, y))
			}
		}
	}
}

func TestSomeScrolls(t *testing.T) {
	r := rand.New(rand.NewSource(3))
	for range 50000 {
		g, c := someGrid(r), somePlain(r)
		top, end, n := someNumber(r), someNumber(r), someNumber(r)
		got := Scroll(g, top, end, n, c)
		wantGrid(t, "Scroll", got, slowScroll(g, top, end, n, c))
		wantBeside(t, "Scroll", g, got, func(_, y int) bool { return top <= y && y < end })
	}
}

func TestSomeShifts(t *testing.T) {
	r := rand.New(rand.NewSource(4))
	for range 50000 {
		g, c := someGrid(r), somePlain(r)
		x, y, n := someNumber(r), someNumber(r), someNumber(r)
		got := Shift(g, x, y, n, c)
		wantGrid(t, "Shift", got, slowShift(g, x, y, n, c))
		wantBeside(t, "Shift", g, got, func(px, py int) bool { return py == y && px >= x })
	}
}

func TestSomeBlits(t *testing.T) {
	r := rand.New(rand.NewSource(5))
	for range 50000 {
		g, from := someGrid(r), someGrid(r)
		x, y := someNumber(r), someNumber(r)
		got := Blit(g, from, x, y)
		wantGrid(t, "Blit", got, slowBlit(g, slowRows(from), x, y))
		wantBeside(t, "Blit", g, got, func(px, py int) bool {
			return inRect(px, py, api.Rect{X: x, Y: y, W: from.W, H: from.H})
		})
	}
}

func TestSomeResizes(t *testing.T) {
	r := rand.New(rand.NewSource(6))
	for range 20000 {
		g, c := someGrid(r), somePlain(r)
		w, h := 1+r.Intn(9), 1+r.Intn(7)
		got := Resize(g, w, h, c)
		wantGrid(t, "Resize", got, slowResize(g, w, h, c))
		wantBeside(t, "Resize", g, got, func(x, y int) bool { return x >= w || y >= h })
	}
}

// Wrong inputs: the grid is told as it is.

// changes is what all changes make of a grid, with a cell and another grid.
func changes(g, from api.Grid, c api.Cell) map[string]api.Grid {
	return map[string]api.Grid{
		"Fill":           Fill(g, api.Rect{W: 9, H: 9}, c),
		"Scroll":         Scroll(g, 0, 9, 1, c),
		"Scroll of none": Scroll(g, 1, 1, 0, c),
		"Shift":          Shift(g, 0, 0, 1, c),
		"Resize":         Resize(g, 5, 5, c),
		"Resize to none": Resize(g, 0, 0, c),
		"Blit":           Blit(g, from, 0, 0),
		"Blit outside":   Blit(g, from, 9, 9),
	}
}

func TestChangesOfWrongGrids(t *testing.T) {
	for what, g := range wrongGrids() {
		was := twin(g)
		for name, got := range changes(g, of("q"), dot) {
			wantGrid(t, name+" of "+what, got, was)
		}
		wantGrid(t, "Put of "+what, Put(g, 0, 0, dot, dot), was)
		wantGrid(t, "Put of nothing into "+what, Put(g, 0, 0), was)
		right := of("abc", "def")
		wantGrid(t, "Blit from "+what, Blit(right, g, 0, 0), right)
		wantGrid(t, "Blit from and into "+what, Blit(g, g, 0, 0), was)
		wantGrid(t, what, g, was)
	}
}

func TestChangesWithWrongCells(t *testing.T) {
	g := of("a\u4e00b", "cdef")
	for _, c := range wrongCells() {
		for name, got := range changes(g, api.Grid{}, c) {
			wantGrid(t, name, got, of("a\u4e00b", "cdef"))
		}
	}
}

func TestChangesWithCellsOfAllColours(t *testing.T) {
	for attr := range 256 {
		c := api.Cell{R: 'c', Fg: 255, Bg: uint8(attr), Attr: uint8(attr)}
		want := of("a")
		if attr < 64 {
			want.Cells[0] = c
		}
		wantGrid(t, "Fill", Fill(of("a"), api.Rect{W: 1, H: 1}, c), want)
		wantGrid(t, "Scroll", Scroll(of("a"), 0, 1, 1, c), want)
		wantGrid(t, "Shift", Shift(of("a"), 0, 0, 1, c), want)
	}
}

// R3 (memory)

func TestWhatIsHandedInStays(t *testing.T) {
	r := rand.New(rand.NewSource(7))
	for range 5000 {
		g, from := someGrid(r), someGrid(r)
		l := someRow(r, 1+r.Intn(5))
		g.Cells, from.Cells = append(g.Cells, dot)[:len(g.Cells)], append(from.Cells, dot)[:len(from.Cells)]
		was, wasFrom, wasL := twin(g), twin(from), slices.Clone(l)
		all := changes(g, from, somePlain(r))
		all["Put"] = Put(g, r.Intn(3)-1, r.Intn(3)-1, l...)
		for name, got := range all {
			// One that is told as it is may share its cells.
			if name != "Resize to none" {
				clear(got.Cells)
			}
		}
		wantGrid(t, "the grid", g, was)
		wantGrid(t, "the other grid", from, wasFrom)
		wantCells(t, "the cells", l, wasL)
		if end := g.Cells[:len(g.Cells)+1]; end[len(g.Cells)] != dot {
			t.Error("what stands behind the grid's cells was changed")
		}
	}
}

func TestChangesOfAGridWithItsOwnCells(t *testing.T) {
	g := of("abcd", "efgh")
	wantLines(t, "Put", Put(g, 1, 0, g.Cells[:3]...), "aabc", "efgh")
	wantLines(t, "Put of all", Put(g, -4, 0, g.Cells...), "efgh", "efgh")
	wantLines(t, "Blit", Blit(g, g, 1, 1), "abcd", "eabc")
	wantLines(t, "Blit from ahead", Blit(g, g, -1, -1), "fghd", "efgh")
}
