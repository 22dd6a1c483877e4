package runes

import "math"

// span is characters, from the first to the last one, that are all so wide.
type span struct {
	first, last rune
	width       int
}

// spans are those of all characters that are not 1 wide, each ahead of those above it.
var spans = [...]span{
	{math.MinInt32, 0x1f, 0},
	{0x7f, 0x9f, 0},
	{0x300, 0x36f, 0},
	{0x1100, 0x115f, 2},
	{0x200b, 0x200f, 0},
	{0x2e80, 0x303e, 2},
	{0x3041, 0xa4cf, 2},
	{0xac00, 0xd7a3, 2},
	{0xd800, 0xdfff, 0},
	{0xf900, 0xfaff, 2},
	{0xfe00, 0xfe0f, 0},
	{0xfe30, 0xfe6f, 2},
	{0xff01, 0xff60, 2},
	{0xffe0, 0xffe6, 2},
	{0x1f300, 0x1f64f, 2},
	{0x1f900, 0x1f9ff, 2},
	{0x20000, 0x3fffd, 2},
	{0x110000, math.MaxInt32, 0},
}

// Width tells how many places of a row a character has: 0, 1 or 2.
func Width(r rune) int {
	for _, s := range spans {
		if r < s.first {
			break
		}
		if r <= s.last {
			return s.width
		}
	}
	return 1
}
