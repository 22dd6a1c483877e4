package nums

import (
	"math"
	"math/big"
	"math/rand"
	"slices"
	"strings"
	"testing"
	"unsafe"
)

// edges are numbers at which a number of bytes, or a sign, changes.
func edges() []int {
	l := []int{0, math.MaxInt, math.MaxInt - 1, math.MinInt, math.MinInt + 1}
	for i := range 63 {
		for _, n := range []int{1<<i - 1, 1 << i, 1<<i + 1} {
			l = append(l, n, -n)
		}
	}
	return l
}

// slowFold is the document's folding, in numbers that go round nowhere.
func slowFold(n int) *big.Int {
	twice := new(big.Int).Mul(big.NewInt(int64(n)), big.NewInt(2))
	if n < 0 {
		twice.Neg(twice).Sub(twice, big.NewInt(1))
	}
	return twice
}

// slowPut is a number's bytes as the document's words have them.
func slowPut(n int) string {
	left := slowFold(n)
	if left.Sign() == 0 {
		return "\x00"
	}
	var b []byte
	for left.Sign() > 0 {
		b = append(b, byte(new(big.Int).Mod(left, big.NewInt(128)).Int64()))
		left.Div(left, big.NewInt(128))
	}
	for i := range b[:len(b)-1] {
		b[i] += 128
	}
	return string(b)
}

func wantBytes(t *testing.T, what, got, want string) {
	t.Helper()
	if got != want {
		t.Errorf("%s: %x, want %x", what, got, want)
	}
}

// P3.1 (put)

func TestPutOfKnownNumbers(t *testing.T) {
	wantBytes(t, "the document's example", Put(1, -1, 150), "\x02\x01\xac\x02")
	for _, c := range []struct {
		n    int
		want string
	}{
		{0, "\x00"}, {-1, "\x01"}, {1, "\x02"}, {-2, "\x03"},
		{63, "\x7e"}, {-64, "\x7f"}, {64, "\x80\x01"}, {-65, "\x81\x01"},
		{8191, "\xfe\x7f"}, {-8192, "\xff\x7f"}, {8192, "\x80\x80\x01"},
		{math.MaxInt, "\xfe\xff\xff\xff\xff\xff\xff\xff\xff\x01"},
		{math.MinInt, "\xff\xff\xff\xff\xff\xff\xff\xff\xff\x01"},
	} {
		wantBytes(t, "Put", Put(c.n), c.want)
		wantBytes(t, "the test's own bytes", slowPut(c.n), c.want)
	}
}

func TestPutOfAllKinds(t *testing.T) {
	for _, n := range edges() {
		wantBytes(t, "Put of an edge", Put(n), slowPut(n))
	}
	for n := -20000; n <= 20000; n++ {
		wantBytes(t, "Put of a small one", Put(n), slowPut(n))
	}
	r := rand.New(rand.NewSource(1))
	for range 20000 {
		n := int(r.Uint64()) >> r.Intn(64)
		wantBytes(t, "Put of some number", Put(n), slowPut(n))
	}
}

func TestPutOfManyIsOneBehindTheOther(t *testing.T) {
	l := edges()
	var each strings.Builder
	for _, n := range l {
		each.WriteString(slowPut(n))
	}
	wantBytes(t, "Put of all", Put(l...), each.String())
	wantBytes(t, "Put of the same ones", Put(0, 0, 64, 64), "\x00\x00\x80\x01\x80\x01")
}

func TestPutOfNone(t *testing.T) {
	wantBytes(t, "none", Put(), "")
	wantBytes(t, "a nil list", Put([]int(nil)...), "")
	wantBytes(t, "an empty list", Put([]int{}...), "")
}

func TestPutLeavesTheListAsItIs(t *testing.T) {
	l := []int{300, -1, 0, math.MinInt}
	Put(l...)
	if !slices.Equal(l, []int{300, -1, 0, math.MinInt}) {
		t.Errorf("the list is %d now", l)
	}
}

func TestPutTextIsItsLengthAndItsBytes(t *testing.T) {
	wantBytes(t, "nothing", PutText(""), "\x00")
	wantBytes(t, "hi", PutText("hi"), "\x04hi")
	wantBytes(t, "bytes, not characters", PutText("é\xff\x00"), "\x08\xc3\xa9\xff\x00")
	for _, n := range []int{1, 62, 63, 64, 65, 127, 128, 129, 4096, 8191, 8192, 1 << 20} {
		s := strings.Repeat("\x80", n)
		if got := PutText(s); got != slowPut(n)+s {
			t.Errorf("PutText of %d bytes has %d that are not its own", n, len(got))
		}
	}
}

func TestPutTextAnswersNewMemory(t *testing.T) {
	for _, s := range []string{"a", strings.Repeat("b", 100)} {
		got := PutText(s)
		if unsafe.StringData(got[len(got)-len(s):]) == unsafe.StringData(s) {
			t.Errorf("PutText of %q tells what it was given", s)
		}
	}
}
