package runes

import (
	"math"
	"testing"
)

// none and two are the document's, in its order.
var (
	none = [][2]rune{{math.MinInt32, 0x1f}, {0x7f, 0x9f}, {0x300, 0x36f}, {0x200b, 0x200f}, {0xfe00, 0xfe0f}, {math.MinInt32, -1}, {0x110000, math.MaxInt32}, {0xd800, 0xdfff}}
	two  = [][2]rune{{0x1100, 0x115f}, {0x2e80, 0x303e}, {0x3041, 0xa4cf}, {0xac00, 0xd7a3}, {0xf900, 0xfaff}, {0xfe30, 0xfe6f}, {0xff01, 0xff60}, {0xffe0, 0xffe6}, {0x1f300, 0x1f64f}, {0x1f900, 0x1f9ff}, {0x20000, 0x3fffd}}
)

func within(r rune, ranges [][2]rune) bool {
	for _, one := range ranges {
		if one[0] <= r && r <= one[1] {
			return true
		}
	}
	return false
}

func wantWidth(t *testing.T, r rune, want int) {
	t.Helper()
	if got := Width(r); got != want {
		t.Errorf("Width of %x: %d, want %d", r, got, want)
	}
}

// P4.3 (wide)

func TestWidthOfKnownCharacters(t *testing.T) {
	for _, c := range []struct {
		r    rune
		want int
	}{
		{0, 0}, {7, 0}, {0x1f, 0}, {' ', 1}, {'a', 1}, {'~', 1}, {0x7f, 0}, {0x9f, 0}, {0xa0, 1}, {0xe9, 1},
		{0x2ff, 1}, {0x301, 0}, {0x370, 1}, {0x1160, 1}, {0x200a, 1}, {0x200d, 0}, {0x2010, 1}, {0x20ac, 1},
		{0x303f, 1}, {0x3040, 1}, {0x4e00, 2}, {0xa4d0, 1}, {0xac00, 2}, {0xd7a4, 1}, {0xd7ff, 1}, {0xe000, 1},
		{0xfe10, 1}, {0xff00, 1}, {0xff21, 2}, {0xff61, 1}, {0xffe7, 1}, {wrong, 1}, {0xffff, 1},
		{0x1f2ff, 1}, {0x1f600, 2}, {0x1f650, 1}, {0x1fa00, 1}, {0x1ffff, 1}, {0x3fffe, 1}, {0x10ffff, 1},
	} {
		wantWidth(t, c.r, c.want)
	}
}

func TestWidthOfAllCharacters(t *testing.T) {
	for r := rune(-0x100); r < most+0x100; r++ {
		switch {
		case within(r, none):
			wantWidth(t, r, 0)
		case within(r, two):
			wantWidth(t, r, 2)
		default:
			wantWidth(t, r, 1)
		}
	}
}

func TestWidthOfThoseThatHaveNoSequence(t *testing.T) {
	for _, r := range []rune{-1, -0x4e00, math.MinInt32, math.MinInt32 + 1, 0x110000, 0x114e00, math.MaxInt32 - 1, math.MaxInt32, 0xd800, 0xdbff, 0xdc00, 0xdfff} {
		wantWidth(t, r, 0)
	}
}
