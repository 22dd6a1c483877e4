package cell

import (
	"iter"
	"strings"
	"unicode/utf8"

	"lyceum/api"
	"lyceum/nums"
	"lyceum/runes"
)

const (
	// longest is how many cells a row that is read has at most.
	longest = 4096
	// mostByte is the greatest number that a cell's colours and ways of drawing have.
	mostByte = 1<<8 - 1
	// unknown stands in a text for a cell that may not be.
	unknown = '?'
)

// Bytes is a right row as bytes, run by run; nothing of one that is not right.
func Bytes(row []api.Cell) string {
	if !Right(row) {
		return ""
	}
	var b strings.Builder
	for n, c := range runs(row) {
		b.WriteString(nums.Put(n-1, int(c.R), int(c.Fg), int(c.Bg), int(c.Attr)))
	}
	return b.String()
}

// Read is n cells that stand in r as Bytes has them; none, if r fails.
func Read(r *nums.Row, n int) []api.Cell {
	if n < 0 || n > longest {
		r.Fail(api.ErrArg)
		return nil
	}
	var row []api.Cell
	var ahead api.Cell
	for r.Err() == nil && len(row) < n {
		count, c := readRun(r)
		one := both(c)
		// No cell of a run is as the zero one, which has no width: the first run is like none ahead.
		if !Check(c) || isTail(c) || c == ahead || count*len(one) > n-len(row) {
			r.Fail(api.ErrForm)
		}
		if r.Err() != nil {
			return nil
		}
		for range count {
			row = append(row, one...)
		}
		ahead = c
	}
	return row
}

// Text is a row's characters, without blanks at its end.
func Text(row []api.Cell) string {
	l := make([]rune, 0, len(row))
	for _, c := range row {
		switch {
		case !Check(c):
			l = append(l, unknown)
		case !isTail(c):
			l = append(l, c.R)
		}
	}
	for len(l) > 0 && l[len(l)-1] == space {
		l = l[:len(l)-1]
	}
	return runes.Encode(l...)
}

// runs goes over a right row's longest runs of what is the same: how many cells, or pairs of them, and the first one.
func runs(row []api.Cell) iter.Seq2[int, api.Cell] {
	return func(yield func(int, api.Cell) bool) {
		for len(row) > 0 {
			size := whole(row)
			n := 1
			for n*size < len(row) && row[n*size] == row[0] {
				n++
			}
			if !yield(n, row[0]) {
				return
			}
			row = row[n*size:]
		}
	}
}

// readRun is the run that begins where r stands: how many cells, or pairs of them, and the first one.
func readRun(r *nums.Row) (int, api.Cell) {
	n := 1 + r.Count(longest-1)
	c := api.Cell{R: rune(r.Count(utf8.MaxRune))}
	c.Fg = uint8(r.Count(mostByte))
	c.Bg = uint8(r.Count(mostByte))
	c.Attr = uint8(r.Count(mostByte))
	return n, c
}

// both is a cell, with its Tail if it is Wide.
func both(c api.Cell) []api.Cell {
	if isWide(c) {
		return []api.Cell{c, tail(c)}
	}
	return []api.Cell{c}
}
