package runes

const (
	// bits is how many bits of a character stand in each byte behind a sequence's first one.
	bits = 6
	// low and high are what such a byte is from and to, where the first byte does not say otherwise.
	low, high = 0x80, 0xbf
)

// Decoder decodes bytes that come in parts. A zero one is new.
type Decoder struct {
	// kept is how many bytes came of a sequence that is not whole; where there are none, the others are 0 too.
	kept int
	// left is how many of its bytes are still to come; the next one is from least to most.
	left        int
	least, most byte
	// r is what the kept bytes have of its character.
	r rune
}

// first is from where to where the first byte of a sequence is that has so many bytes behind it, of which the next one is from least to most.
type first struct {
	from, to    byte
	left        int
	least, most byte
}

// firsts are those of all sequences of more than one byte.
var firsts = [...]first{
	{0xc2, 0xdf, 1, low, high},
	{0xe0, 0xe0, 2, 0xa0, high},
	{0xe1, 0xec, 2, low, high},
	{0xed, 0xed, 2, low, 0x9f},
	{0xee, 0xef, 2, low, high},
	{0xf0, 0xf0, 3, 0x90, high},
	{0xf1, 0xf3, 3, low, high},
	{0xf4, 0xf4, 3, low, 0x8f},
}

// Feed tells the characters of all bytes that were not told, but for what may still become one at the end: it is kept.
func (d *Decoder) Feed(s string) []rune {
	if d == nil {
		return nil
	}
	var told []rune
bytes:
	for i := range len(s) {
		b := s[i]
		if d.goOn(b) {
			if d.left == 0 {
				told = append(told, d.r)
				*d = Decoder{}
			}
			continue
		}
		told = append(told, d.Flush()...)
		if b < low {
			told = append(told, rune(b))
			continue
		}
		for _, f := range firsts {
			if f.from <= b && b <= f.to {
				*d = f.begun(b)
				continue bytes
			}
		}
		told = append(told, wrong)
	}
	return told
}

// Pending tells how many bytes are kept.
func (d *Decoder) Pending() int {
	if d == nil {
		return 0
	}
	return d.kept
}

// Flush tells one character of the bytes that are kept, if there are some, and keeps them no more.
func (d *Decoder) Flush() []rune {
	if d.Pending() == 0 {
		return nil
	}
	*d = Decoder{}
	return []rune{wrong}
}

// goOn keeps b too, if that is what may be next behind the bytes that are kept.
func (d *Decoder) goOn(b byte) bool {
	if d.kept == 0 || b < d.least || b > d.most {
		return false
	}
	*d = Decoder{d.kept + 1, d.left - 1, low, high, d.r<<bits | rune(b&^low)}
	return true
}

// begun is a decoder that keeps b alone, a first byte: the more bytes are behind it, the fewer of its bits are the character's.
func (f first) begun(b byte) Decoder {
	return Decoder{1, f.left, f.least, f.most, rune(b & (0x7f >> f.left))}
}
