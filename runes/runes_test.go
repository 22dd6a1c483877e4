package runes

import (
	"slices"
	"strings"
	"sync"
	"testing"
	"unicode/utf8"
)

// edges are bytes at which what they may be changes, and one of each kind between.
const edges = "\x00A\x7f\x80\x81\x8f\x90\x9f\xa0\xa5\xbf\xc0\xc1\xc2\xd0\xdf\xe0\xe1\xe5\xec\xed\xee\xef\xf0\xf1\xf2\xf3\xf4\xf5\xf8\xfc\xfe\xff"

// most is above all numbers that characters have.
const most = 0x110000

// known are bytes with the characters that the document's words make of them.
var known = []struct {
	s    string
	want []rune
}{
	{"", nil},
	{"A\xe2\x82A", []rune{'A', wrong, 'A'}}, // the document's example
	{"\x00\x7f", []rune{0, 0x7f}},
	{"\xc2\x80\xdf\xbf", []rune{0x80, 0x7ff}},
	{"\xe0\xa0\x80\xe0\xbf\xbf", []rune{0x800, 0xfff}},
	{"\xe1\x80\x80\xec\xbf\xbf", []rune{0x1000, 0xcfff}},
	{"\xed\x80\x80\xed\x9f\xbf", []rune{0xd000, 0xd7ff}},
	{"\xee\x80\x80\xef\xbf\xbf", []rune{0xe000, 0xffff}},
	{"\xf0\x90\x80\x80\xf0\xbf\xbf\xbf", []rune{0x10000, 0x3ffff}},
	{"\xf1\x80\x80\x80\xf3\xbf\xbf\xbf", []rune{0x40000, 0xfffff}},
	{"\xf4\x80\x80\x80\xf4\x8f\xbf\xbf", []rune{0x100000, 0x10ffff}},
	{"\xef\xbf\xbd", []rune{wrong}},
	// Bytes of which each is one.
	{"\x80\xbf", []rune{wrong, wrong}},
	{"\xc0\x80\xc1\xbf", []rune{wrong, wrong, wrong, wrong}},
	{"\xf5\x80\x80\x80", []rune{wrong, wrong, wrong, wrong}},
	{"\xfe\xff", []rune{wrong, wrong}},
	// A first byte, and one that may not be next.
	{"\xe0\x9f\xbf", []rune{wrong, wrong, wrong}},
	{"\xed\xa0\x80", []rune{wrong, wrong, wrong}},
	{"\xf0\x8f\xbf\xbf", []rune{wrong, wrong, wrong, wrong}},
	{"\xf4\x90\x80\x80", []rune{wrong, wrong, wrong, wrong}},
	{"\xc2A", []rune{wrong, 'A'}},
	{"\xc2\xc3\xa9", []rune{wrong, 0xe9}},
	// The longest beginning is one, however long.
	{"\xe0\xa0A", []rune{wrong, 'A'}},
	{"\xf0\x9fA", []rune{wrong, 'A'}},
	{"\xf0\x9f\x98A", []rune{wrong, 'A'}},
	{"\xf0\x9f\x98\xf0\x9f\x98\x80", []rune{wrong, 0x1f600}},
	{"\xf4\x8f\xbf\xc0", []rune{wrong, wrong}},
	{"\xe2\x82\xe2\x82\xac", []rune{wrong, 0x20ac}},
	// So is what may still become a sequence at the end.
	{"\xc2", []rune{wrong}},
	{"A\xe2\x82", []rune{'A', wrong}},
	{"\xf0\x9f\x98", []rune{wrong}},
	{"\xf0\x9f\xf0\x9f", []rune{wrong, wrong}},
}

// beginnings are all beginnings of sequences that are none.
var beginnings = sync.OnceValue(func() map[string]bool {
	all := map[string]bool{}
	for r := rune(0); r < most; r++ {
		s := string(utf8.AppendRune(nil, r))
		for n := 1; n < len(s); n++ {
			all[s[:n]] = true
		}
	}
	return all
})

// slowDecode is what the document's words say of s, and what may still become a sequence at its end.
func slowDecode(s string) (told []rune, kept string) {
	for s != "" {
		if beginnings()[s] {
			return told, s
		}
		r, size := slowFirst(s)
		told, s = append(told, r), s[size:]
	}
	return told, ""
}

// slowFirst is the first character of s, and how many bytes it is of.
func slowFirst(s string) (rune, int) {
	longest := 1
	for n := 1; n <= min(4, len(s)); n++ {
		if utf8.ValidString(s[:n]) && utf8.RuneCountInString(s[:n]) == 1 {
			return []rune(s[:n])[0], n
		}
		if beginnings()[s[:n]] {
			longest = n
		}
	}
	return wrong, longest
}

func wantRunes(t *testing.T, what string, got, want []rune) {
	t.Helper()
	if !slices.Equal(got, want) {
		t.Errorf("%s: %x, want %x", what, got, want)
	}
}

// wantDecoded holds that s is decoded as the document's words have it, at once, and by a decoder.
func wantDecoded(t *testing.T, s string) {
	t.Helper()
	told, kept := slowDecode(s)
	var d Decoder
	got := d.Feed(s)
	if !slices.Equal(got, told) || d.Pending() != len(kept) {
		t.Errorf("Feed of %x: %x, %d kept; want %x, %d kept", s, got, d.Pending(), told, len(kept))
	}
	if kept != "" {
		told = append(told, wrong)
	}
	if got := Decode(s); !slices.Equal(got, told) {
		t.Errorf("Decode of %x: %x, want %x", s, got, told)
	}
}

// words calls one for each text of n bytes, all of them of letters.
func words(letters string, n int, one func(s string)) {
	b := make([]byte, n)
	var fill func(at int)
	fill = func(at int) {
		if at == n {
			one(string(b))
			return
		}
		for i := range len(letters) {
			b[at] = letters[i]
			fill(at + 1)
		}
	}
	fill(0)
}

func allBytes() string {
	b := make([]byte, 256)
	for i := range b {
		b[i] = byte(i)
	}
	return string(b)
}

// P4.1 (decoded)

func TestDecodeOfKnownBytes(t *testing.T) {
	for _, k := range known {
		if got := Decode(k.s); !slices.Equal(got, k.want) {
			t.Errorf("Decode of %x: %x, want %x", k.s, got, k.want)
		}
		wantDecoded(t, k.s)
	}
}

func TestDecodeOfAllShortBytes(t *testing.T) {
	for n := range 3 {
		words(allBytes(), n, func(s string) { wantDecoded(t, s) })
	}
	words(edges, 3, func(s string) { wantDecoded(t, s) })
	words("A\x80\x90\xbf\xc2\xe0\xe1\xed\xf0\xf1\xf4\xff", 4, func(s string) { wantDecoded(t, s) })
}

func TestDecodeOfALongText(t *testing.T) {
	const times = 1 << 18
	got := Decode(strings.Repeat("A\xe2\x82\xac\xff", times) + "\xf0\x9f")
	want := append(slices.Repeat([]rune{'A', 0x20ac, wrong}, times), wrong)
	if !slices.Equal(got, want) {
		t.Errorf("%d characters, want %d", len(got), len(want))
	}
}

// P4.2 (encoded)

func TestEncodeOfKnownCharacters(t *testing.T) {
	for _, c := range []struct {
		want string
		l    []rune
	}{
		{"", nil},
		{"", []rune{}},
		{"\x00", []rune{0}},
		{"\x7f", []rune{0x7f}},
		{"\xc2\x80", []rune{0x80}},
		{"\xdf\xbf", []rune{0x7ff}},
		{"\xe0\xa0\x80", []rune{0x800}},
		{"\xed\x9f\xbf", []rune{0xd7ff}},
		{"\xee\x80\x80", []rune{0xe000}},
		{"\xef\xbf\xbd", []rune{wrong}},
		{"\xef\xbf\xbf", []rune{0xffff}},
		{"\xf0\x90\x80\x80", []rune{0x10000}},
		{"\xf4\x8f\xbf\xbf", []rune{0x10ffff}},
		{"A\xc3\xa9\xe2\x82\xac\xf0\x9f\x98\x80A", []rune{'A', 0xe9, 0x20ac, 0x1f600, 'A'}},
	} {
		if got := Encode(c.l...); got != c.want {
			t.Errorf("Encode of %x: %x, want %x", c.l, got, c.want)
		}
	}
}

func TestEncodeOfThoseThatHaveNoSequence(t *testing.T) {
	for _, r := range []rune{-1, -0x41, -1 << 31, 0x110000, 0x110041, 1<<31 - 1, 0xd800, 0xdabc, 0xdbff, 0xdc00, 0xdfff} {
		if got := Encode('A', r, r, 'B'); got != "A\xef\xbf\xbd\xef\xbf\xbdB" {
			t.Errorf("Encode of %x: %x", r, got)
		}
	}
	// A pair that is one character in another coding is none here.
	if got := Encode(0xd83d, 0xde00); got != "\xef\xbf\xbd\xef\xbf\xbd" {
		t.Errorf("Encode of a pair: %x", got)
	}
}

// inBits is the sequence of a character that has one, put together of its bits.
func inBits(r rune) string {
	behind := func(down int) byte { return byte(0x80 + r>>down%64) }
	switch {
	case r < 0x80:
		return string([]byte{byte(r)})
	case r < 0x800:
		return string([]byte{byte(0xc0 + r>>6), behind(0)})
	case r < 0x10000:
		return string([]byte{byte(0xe0 + r>>12), behind(6), behind(0)})
	}
	return string([]byte{byte(0xf0 + r>>18), behind(12), behind(6), behind(0)})
}

func TestEncodeOfAllCharacters(t *testing.T) {
	for r := rune(-0x100); r < most+0x100; r++ {
		want := "\xef\xbf\xbd"
		if r >= 0 && r <= 0x10ffff && (r < 0xd800 || r > 0xdfff) {
			want = inBits(r)
		}
		if got := Encode(r); got != want {
			t.Fatalf("Encode of %x: %x, want %x", r, got, want)
		}
	}
}

func TestEncodeLeavesTheListAsItIs(t *testing.T) {
	l := []rune{'A', -1, 0xd800, most}
	Encode(l...)
	wantRunes(t, "the list", l, []rune{'A', -1, 0xd800, most})
}

// P4.4 (what follows): what was encoded is decoded.

func TestWhatWasEncodedIsDecoded(t *testing.T) {
	var l []rune
	for r := rune(0); r < most; r++ {
		if r < 0xd800 || r > 0xdfff {
			l = append(l, r)
		}
	}
	if !slices.Equal(Decode(Encode(l...)), l) {
		t.Error("not all characters are decoded in a row")
	}
	for _, r := range l {
		if got := Decode(Encode(r)); len(got) != 1 || got[0] != r {
			t.Fatalf("%x is decoded as %x", r, got)
		}
	}
	wantRunes(t, "those that have no sequence", Decode(Encode(-1, 'A', 0xdfff, most)), []rune{wrong, 'A', wrong, wrong})
}
