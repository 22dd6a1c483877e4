package runes

import (
	"math/rand"
	"slices"
	"testing"
)

// wantParted holds that parts are decoded as the whole is: after each of them all is told but for what is kept.
func wantParted(t *testing.T, parts ...string) {
	t.Helper()
	var d Decoder
	var all string
	var got []rune
	for _, part := range parts {
		all += part
		got = append(got, d.Feed(part)...)
		want, kept := slowDecode(all)
		if !slices.Equal(got, want) || d.Pending() != len(kept) {
			t.Errorf("%x of %x: %x, %d kept; want %x, %d kept", all, parts, got, d.Pending(), want, len(kept))
		}
	}
	got = append(got, d.Flush()...)
	if want := Decode(all); !slices.Equal(got, want) {
		t.Errorf("%x: %x, want %x", parts, got, want)
	}
}

// single parts s into its bytes.
func single(s string) []string {
	var parts []string
	for i := range len(s) {
		parts = append(parts, s[i:i+1])
	}
	return parts
}

// someBytes are bytes that are often almost a sequence.
func someBytes(r *rand.Rand) string {
	var b []byte
	for range r.Intn(12) {
		if r.Intn(3) == 0 {
			s := Encode(rune(r.Intn(most) >> r.Intn(20)))
			b = append(b, s[:1+r.Intn(len(s))]...)
		} else {
			b = append(b, edges[r.Intn(len(edges))])
		}
	}
	return string(b)
}

// P4.1 (decoded)

func TestFeedTellsWhatIsWhole(t *testing.T) {
	d := &Decoder{}
	for _, step := range []struct {
		part    string
		want    []rune
		pending int
	}{
		{"x\xf0\x9f", []rune{'x'}, 2},
		{"", nil, 2},
		{"\x98", nil, 3},
		{"\x80y\xe2", []rune{0x1f600, 'y'}, 1},
		{"\x82", nil, 2},
		{"A", []rune{wrong, 'A'}, 0},
		{"\xf4", nil, 1},
		{"\x90", []rune{wrong, wrong}, 0},
		{"\xf0\x90\x80", nil, 3},
		{"\xed", []rune{wrong}, 1},
		{"\x9f", nil, 2},
		{"\xbf", []rune{0xd7ff}, 0},
		{"\x80", []rune{wrong}, 0},
		{"\x00", []rune{0}, 0},
	} {
		wantRunes(t, "Feed", d.Feed(step.part), step.want)
		if d.Pending() != step.pending {
			t.Errorf("behind %x %d are kept, want %d", step.part, d.Pending(), step.pending)
		}
	}
}

func TestPendingOfAllBeginnings(t *testing.T) {
	for s := range beginnings() {
		var d Decoder
		if got := d.Feed("A" + s); len(got) != 1 || got[0] != 'A' || d.Pending() != len(s) {
			t.Fatalf("Feed of A and %x: %x, %d kept", s, got, d.Pending())
		}
		if got := d.Flush(); len(got) != 1 || got[0] != wrong || d.Pending() != 0 {
			t.Fatalf("Flush of %x: %x, %d kept", s, got, d.Pending())
		}
	}
}

func TestFlushTellsOneOfWhatIsKept(t *testing.T) {
	for _, s := range []string{"\xc2", "\xe2", "\xe2\x82", "\xf0", "\xf0\x9f", "\xf0\x9f\x98"} {
		var d Decoder
		d.Feed(s)
		wantRunes(t, "Flush", d.Flush(), []rune{wrong})
		wantRunes(t, "Flush again", d.Flush(), nil)
		if d != (Decoder{}) {
			t.Errorf("behind %x and Flush it is not as a new one", s)
		}
		wantRunes(t, "what would have gone on", d.Feed("\x80\xbfA"), []rune{wrong, wrong, 'A'})
	}
}

func TestFlushOfNothingKept(t *testing.T) {
	var d Decoder
	wantRunes(t, "of a new one", d.Flush(), nil)
	for _, s := range []string{"", "A", "\xc3\xa9", "\xff", "\xc3A"} {
		d.Feed(s)
		wantRunes(t, "of nothing kept", d.Flush(), nil)
	}
}

// P4.4 (what follows)

func TestPartedKnownBytes(t *testing.T) {
	for _, k := range known {
		wantParted(t, single(k.s)...)
		for i := range len(k.s) + 1 {
			for j := range i + 1 {
				wantParted(t, k.s[:j], "", k.s[j:i], k.s[i:])
			}
		}
	}
}

func TestPartedShortBytes(t *testing.T) {
	words(allBytes(), 2, func(s string) { wantParted(t, single(s)...) })
	words("A\x80\x90\xbf\xc2\xe0\xe1\xed\xf0\xf4\xff", 4, func(s string) { wantParted(t, single(s)...) })
}

func TestPartedSomeBytes(t *testing.T) {
	r := rand.New(rand.NewSource(1))
	for range 50000 {
		s := someBytes(r)
		wantDecoded(t, s)
		wantParted(t, single(s)...)
		at := r.Intn(len(s) + 1)
		to := at + r.Intn(len(s)-at+1)
		wantParted(t, s[:at], s[at:to], s[to:])
	}
}

// R1, R3 and R4: nothing, and memory.

func TestNilDecoder(t *testing.T) {
	var d *Decoder
	for range 2 {
		wantRunes(t, "Feed", d.Feed("A\xe2\x82"), nil)
		wantRunes(t, "Feed of nothing", d.Feed(""), nil)
		wantRunes(t, "Flush", d.Flush(), nil)
		if d.Pending() != 0 {
			t.Errorf("%d are kept", d.Pending())
		}
	}
}

func TestDecodersKeepApart(t *testing.T) {
	var a, b Decoder
	a.Feed("\xf0\x9f")
	b.Feed("\xe2")
	c := a
	wantRunes(t, "a", a.Feed("\x98\x80"), []rune{0x1f600})
	wantRunes(t, "b", b.Feed("\x82\xac"), []rune{0x20ac})
	wantRunes(t, "c", c.Feed("\x98\x81"), []rune{0x1f601})
}

func TestWhatIsToldIsTheCallers(t *testing.T) {
	var d Decoder
	first := d.Feed("AB\xe2")
	second := d.Feed("\x82\xac")
	third := append(d.Feed("\xe2"), d.Flush()...)
	first[0], first[1] = 'X', 'Y'
	_ = append(first[:1], 'Z', 'Z', 'Z')
	wantRunes(t, "the second", second, []rune{0x20ac})
	wantRunes(t, "the third", third, []rune{wrong})
	second[0], third[0] = 'X', 'X'
	d.Feed("\xe2")
	wantRunes(t, "Flush", d.Flush(), []rune{wrong})
	wantRunes(t, "Decode", Decode("AB\xe2"), []rune{'A', 'B', wrong})
}
