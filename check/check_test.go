package check

import (
	"math/rand"
	"strings"
	"testing"
	"unsafe"

	"lyceum/api"
	"lyceum/fault"
)

// faulty holds that no text is told, and just the fault of code.
func faulty(t *testing.T, what, text string, err error, code api.Errno) {
	t.Helper()
	if text != "" {
		t.Errorf("%s: a text of %d bytes beside the fault", what, len(text))
	}
	if err == nil {
		t.Errorf("%s: no fault, want %d", what, int(code))
		return
	}
	if got, want := fault.Text(err), fault.Text(fault.New(code)); got != want || fault.Code(err) != code {
		t.Errorf("%s: fault %q, want %q", what, got, want)
	}
}

// told holds that just the text is told.
func told(t *testing.T, what, text string, err error, want string) {
	t.Helper()
	if err != nil {
		t.Errorf("%s: fault %q", what, fault.Text(err))
	}
	if text != want {
		t.Errorf("%s: %q, want %q", what, text, want)
	}
}

// end is the four bytes of sum, the lowest first.
func end(sum uint32) string {
	return string([]byte{byte(sum), byte(sum >> 8), byte(sum >> 16), byte(sum >> 24)})
}

func TestWrapPutsTheSumBehind(t *testing.T) {
	got, err := Wrap("123456789")
	told(t, "Wrap", got, err, "123456789\x83\x92\x06\xe3")
	got, err = Wrap("")
	told(t, "Wrap of nothing", got, err, "\x00\x00\x00\x00")
	r := rand.New(rand.NewSource(4))
	for _, n := range []int{1, 2, 3, 4, 5, 100, api.MaxPacket - 1, api.MaxPacket} {
		body := someText(r, n)
		got, err = Wrap(body)
		told(t, "Wrap", got, err, body+end(slow(body)))
	}
}

func TestWrapOfTooMuch(t *testing.T) {
	for _, n := range []int{api.MaxPacket + 1, api.MaxPacket + 4, api.MaxPacket + 5, 1 << 20} {
		got, err := Wrap(strings.Repeat("x", n))
		faulty(t, "Wrap", got, err, api.ErrOver)
	}
}

func TestOpenTellsWhatStandsAhead(t *testing.T) {
	got, err := Open("123456789\x83\x92\x06\xe3")
	told(t, "Open", got, err, "123456789")
	got, err = Open("\x00\x00\x00\x00")
	told(t, "Open of a sum alone", got, err, "")
	r := rand.New(rand.NewSource(5))
	for _, n := range []int{1, 2, 3, 4, 5, 100, api.MaxPacket - 1, api.MaxPacket} {
		body := someText(r, n)
		got, err = Open(body + end(slow(body)))
		told(t, "Open", got, err, body)
	}
}

func TestOpenOfTooLittle(t *testing.T) {
	for _, s := range []string{"", "a", "\x00\x00", "abc", "\x00\x00\x00", "\xff\xff\xff"} {
		got, err := Open(s)
		faulty(t, "Open", got, err, api.ErrShort)
	}
}

func TestOpenOfTooMuch(t *testing.T) {
	for _, n := range []int{api.MaxPacket + 1, api.MaxPacket + 4, api.MaxPacket + 5, 1 << 20} {
		body := strings.Repeat("x", n)
		got, err := Open(body + end(slow(body)))
		faulty(t, "Open, though its sum fits", got, err, api.ErrOver)
		got, err = Open(body + end(slow(body)+1))
		faulty(t, "Open, ahead of its sum", got, err, api.ErrOver)
	}
}

func TestOpenOfAnotherSum(t *testing.T) {
	for _, s := range []string{
		"\x00\x00\x00\x01", "\x01\x00\x00\x00", "\xff\xff\xff\xff", "abcd", "123456789",
		"123456789\xe3\x06\x92\x83", "123456789\x83\x92\x06\x00", "123456789\x00\x92\x06\xe3",
		"12345678\x83\x92\x06\xe3", "0123456789\x83\x92\x06\xe3", "\x83\x92\x06\xe3" + "123456789",
		strings.Repeat("x", api.MaxPacket+4),
	} {
		got, err := Open(s)
		faulty(t, "Open", got, err, api.ErrSum)
	}
}

func TestWhatWasWrappedIsOpened(t *testing.T) {
	r := rand.New(rand.NewSource(6))
	for n := range 200 {
		body := someText(r, n)
		wrapped, err := Wrap(body)
		if err != nil {
			t.Fatalf("Wrap of %d bytes: %s", n, fault.Text(err))
		}
		got, err := Open(wrapped)
		told(t, "Open of what was wrapped", got, err, body)
		again, err := Wrap(wrapped)
		if err != nil {
			t.Fatalf("Wrap of %d bytes: %s", len(wrapped), fault.Text(err))
		}
		got, err = Open(again)
		told(t, "Open of what was wrapped twice", got, err, wrapped)
	}
}

// turned is s with the bits of mask turned from the bit `at` on; a byte's lowest bit is its first one, as it is the
// first that falls out of a register.
func turned(s string, at int, mask uint32) string {
	b := []byte(s)
	for i := range 32 {
		if mask>>i&1 == 1 && at+i < 8*len(b) {
			b[(at+i)/8] ^= 1 << ((at + i) % 8)
		}
	}
	return string(b)
}

// spoilt holds that wrapped isn't opened when those bits are turned.
func spoilt(t *testing.T, wrapped string, at int, mask uint32) {
	t.Helper()
	if s := turned(wrapped, at, mask); s != wrapped {
		got, err := Open(s)
		faulty(t, "Open with bits turned", got, err, api.ErrSum)
	}
}

func TestTurnedBitsOfShortOnesAreFound(t *testing.T) {
	r := rand.New(rand.NewSource(7))
	for _, n := range []int{0, 1, 2, 5, 40} {
		wrapped, _ := Wrap(someText(r, n))
		for at := range 8 * len(wrapped) {
			for mask := range uint32(1 << 8) {
				spoilt(t, wrapped, at, mask)
			}
			for far := range 32 {
				spoilt(t, wrapped, at, 1|1<<far)
			}
			for range 100 {
				spoilt(t, wrapped, at, r.Uint32())
			}
			spoilt(t, wrapped, at, 0xffffffff)
			spoilt(t, wrapped, at, 0x82f63b78)
		}
	}
}

func TestTurnedBitsOfTheLongestAreFound(t *testing.T) {
	r := rand.New(rand.NewSource(8))
	wrapped, _ := Wrap(someText(r, api.MaxPacket))
	for range 2000 {
		spoilt(t, wrapped, r.Intn(8*len(wrapped)), r.Uint32())
	}
	for at := 8*len(wrapped) - 96; at < 8*len(wrapped); at++ {
		for far := range 32 {
			spoilt(t, wrapped, at, 1|1<<far)
		}
	}
}

func TestWrapAndOpenAnswerNewMemory(t *testing.T) {
	body := strings.Repeat("b", 100)
	wrapped, _ := Wrap(body)
	got, _ := Open(wrapped)
	for _, c := range []struct{ what, given, told string }{{"Wrap", body, wrapped}, {"Open", wrapped, got}} {
		if unsafe.StringData(c.given) == unsafe.StringData(c.told) {
			t.Errorf("%s tells a piece of what it was given", c.what)
		}
	}
}
