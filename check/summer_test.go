package check

import (
	"hash/crc32"
	"math/rand"
	"strings"
	"testing"
)

// slow is the document's sum, bit by bit: no table, no package of the library.
func slow(text string) uint32 {
	register := uint32(0xffffffff)
	for i := 0; i < len(text); i++ {
		register ^= uint32(text[i])
		for range 8 {
			out := register % 2
			register /= 2
			if out == 1 {
				register ^= 0x82f63b78
			}
		}
	}
	return register ^ 0xffffffff
}

func sums(t *testing.T, what string, got, want uint32) {
	t.Helper()
	if got != want {
		t.Errorf("%s: %08x, want %08x", what, got, want)
	}
}

// someText is a text of n bytes, the same for the same source.
func someText(r *rand.Rand, n int) string {
	b := make([]byte, n)
	r.Read(b)
	return string(b)
}

// upTo is the bytes 0 to n-1.
func upTo(n int) string {
	b := make([]byte, n)
	for i := range b {
		b[i] = byte(i)
	}
	return string(b)
}

func TestSumOfKnownTexts(t *testing.T) {
	for _, c := range []struct {
		text string
		want uint32
	}{
		{"", 0},
		{"123456789", 0xe3069283},
		{"a", 0xc1d04330},
		{strings.Repeat("\x00", 32), 0x8a9136aa},
		{strings.Repeat("\xff", 32), 0x62a8ab43},
		{upTo(32), 0x46dd794e},
	} {
		sums(t, "Sum", Sum(c.text), c.want)
		sums(t, "the test's own sum", slow(c.text), c.want)
		sums(t, "a summer's", New().Write(c.text).Sum(), c.want)
	}
}

func TestSumOfEachByteBehindEachOther(t *testing.T) {
	for a := range 256 {
		one := string([]byte{byte(a)})
		sums(t, "one byte", Sum(one), slow(one))
		for b := range 256 {
			two := string([]byte{byte(a), byte(b)})
			if got, want := Sum(two), slow(two); got != want {
				t.Fatalf("Sum(%x) is %08x, want %08x", two, got, want)
			}
		}
	}
}

func TestSumOfTextsOfEachLength(t *testing.T) {
	r := rand.New(rand.NewSource(2))
	for n := range 300 {
		text := someText(r, n)
		sums(t, "Sum", Sum(text), slow(text))
	}
}

func TestSumOfALongText(t *testing.T) {
	text := someText(rand.New(rand.NewSource(3)), 1<<22)
	want := crc32.Checksum([]byte(text), crc32.MakeTable(crc32.Castagnoli))
	sums(t, "Sum", Sum(text), want)
	sums(t, "in two parts", New().Write(text[:1<<20], text[1<<20:]).Sum(), want)
}

func TestSumGoesByBytesNotByCharacters(t *testing.T) {
	for _, text := range []string{"é", "\xc3", "\xff\xfe", "\xe2\x82", "a\x00b", "\ufffd"} {
		sums(t, text, Sum(text), slow(text))
	}
}

func TestNewIsEmpty(t *testing.T) {
	if New() == nil {
		t.Fatal("New() is nil")
	}
	sums(t, "New", New().Sum(), 0)
	used := New().Write("abc")
	sums(t, "New behind another", New().Sum(), 0)
	sums(t, "and that one", used.Sum(), slow("abc"))
}

func TestWritePutsPartsInAsOneText(t *testing.T) {
	text := "what was spoilt on the way"
	for i := range len(text) + 1 {
		for j := i; j <= len(text); j++ {
			s := New().Write(text[:i], text[i:j], text[j:])
			sums(t, "three parts", s.Sum(), slow(text))
			s = New().Write(text[:i]).Write(text[i:j]).Write(text[j:])
			sums(t, "three writes", s.Sum(), slow(text))
		}
	}
}

func TestWriteOfNothing(t *testing.T) {
	s := New()
	sums(t, "no part", s.Write().Sum(), 0)
	sums(t, "a nil list", s.Write([]string(nil)...).Sum(), 0)
	sums(t, "empty parts", s.Write("", "", "").Sum(), 0)
	s.Write("ab")
	sums(t, "nothing behind", s.Write("").Write().Sum(), slow("ab"))
	sums(t, "empty parts between", New().Write("", "a", "", "b", "").Sum(), slow("ab"))
}

func TestWriteTellsTheSummerItself(t *testing.T) {
	s := New()
	for _, parts := range [][]string{nil, {""}, {"a"}, {"a", "b"}} {
		if s.Write(parts...) != s {
			t.Errorf("Write(%q) tells another summer", parts)
		}
	}
}

func TestWriteLeavesItsPartsAsTheyAre(t *testing.T) {
	parts := []string{"a", "", "bc"}
	New().Write(parts...)
	if strings.Join(parts, "|") != "a||bc" {
		t.Errorf("the parts are %q now", parts)
	}
}

func TestMoreGoesInBehindASum(t *testing.T) {
	s := New()
	text := ""
	for i := range 50 {
		sums(t, "so far", s.Sum(), slow(text))
		sums(t, "told again", s.Sum(), slow(text))
		more := strings.Repeat("x", i%4) + string([]byte{byte(i * 37)})
		s.Write(more)
		text += more
	}
}

func TestResetIsAsIfNothingHadGoneIn(t *testing.T) {
	s := New()
	s.Reset()
	sums(t, "a new one reset", s.Sum(), 0)
	for range 3 {
		s.Write("abc", "def")
		s.Reset()
		sums(t, "reset", s.Sum(), 0)
		sums(t, "written behind", s.Write("123456789").Sum(), 0xe3069283)
		s.Reset()
		s.Reset()
		sums(t, "reset twice", s.Write("a").Sum(), 0xc1d04330)
		s.Reset()
	}
}

func TestSummersKeepApart(t *testing.T) {
	a, b := New(), New()
	a.Write("left")
	b.Write("right")
	a.Write("er")
	sums(t, "a", a.Sum(), slow("lefter"))
	sums(t, "b", b.Sum(), slow("right"))
	a.Reset()
	sums(t, "b behind a's Reset", b.Sum(), slow("right"))
}

func TestNilSummer(t *testing.T) {
	var s *Summer
	if s.Write("abc", "d") != nil || s.Write() != nil {
		t.Error("a nil summer's Write tells one")
	}
	sums(t, "nil", s.Sum(), 0)
	s.Reset()
	sums(t, "nil behind Reset", s.Sum(), 0)
	sums(t, "nil behind Write", s.Write("a").Sum(), 0)
	s.Write("a").Reset()
}

func TestSummerThatNewDidNotMake(t *testing.T) {
	var s Summer
	sums(t, "empty", s.Sum(), 0)
	s.Reset()
	sums(t, "written", s.Write("1234", "56789").Sum(), 0xe3069283)
	other := s
	other.Write("0")
	sums(t, "left as it is by one made of it", s.Sum(), 0xe3069283)
	sums(t, "one made of it", other.Sum(), slow("1234567890"))
}
