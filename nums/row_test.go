package nums

import (
	"math"
	"math/big"
	"math/rand"
	"strings"
	"testing"
	"unsafe"

	"lyceum/api"
	"lyceum/fault"
)

func wantNum(t *testing.T, what string, got, want int) {
	t.Helper()
	if got != want {
		t.Errorf("%s: %d, want %d", what, got, want)
	}
}

// wantFault holds that err is just the fault of code at a place.
func wantFault(t *testing.T, what string, err error, code api.Errno, place int) {
	t.Helper()
	at, found := fault.Place(err)
	if want := fault.Text(fault.At(fault.New(code), place)); fault.Text(err) != want || fault.Code(err) != code || at != place || !found {
		t.Errorf("%s: %q, want %q", what, fault.Text(err), want)
	}
}

// wantRight holds that the row has not failed, and where it stands.
func wantRight(t *testing.T, what string, r *Row, at int) {
	t.Helper()
	if err := r.Err(); err != nil {
		t.Errorf("%s: failed: %s", what, fault.Text(err))
	}
	wantNum(t, what+": At", r.At(), at)
}

// wantFailed holds that the row has failed so, and that nothing makes it do or tell any other thing.
func wantFailed(t *testing.T, what string, r *Row, code api.Errno, place int) {
	t.Helper()
	for range 2 {
		wantFault(t, what+": Err", r.Err(), code, place)
		wantFault(t, what+": End", r.End(), code, place)
		wantNum(t, what+": At", r.At(), place)
		wantNum(t, what+": Num", r.Num(math.MinInt, math.MaxInt), 0)
		wantNum(t, what+": Num not within", r.Num(1, -1), 0)
		wantNum(t, what+": Count", r.Count(math.MaxInt), 0)
		wantBytes(t, what+": Text", r.Text(math.MaxInt), "")
		wantBytes(t, what+": Text not within", r.Text(-1), "")
		r.Fail(api.OK)
		r.Fail(api.ErrLoop)
	}
}

// slowFirst is what the document's words say of the number that s begins with, if it is from least to most.
func slowFirst(s string, least, most int) (n, size int, code api.Errno) {
	sum := new(big.Int)
	for i := 0; ; i++ {
		if i >= len(s) {
			return 0, 0, api.ErrShort
		}
		last := s[i] < 128
		if i == 9 && s[i] != 0 && s[i] != 1 || last && s[i] == 0 && i != 0 {
			return 0, 0, api.ErrForm
		}
		part := new(big.Int).Lsh(big.NewInt(int64(s[i]%128)), uint(7*i))
		sum.Add(sum, part)
		if last {
			size = i + 1
			break
		}
	}
	half := new(big.Int).Rsh(sum, 1)
	if sum.Bit(0) == 1 {
		half.Add(half, big.NewInt(1)).Neg(half)
	}
	if half.Cmp(big.NewInt(int64(least))) < 0 || half.Cmp(big.NewInt(int64(most))) > 0 {
		return 0, 0, api.ErrOver
	}
	return int(half.Int64()), size, api.OK
}

// wantFirst holds that Num reads from behind a number what the document's words say of s.
func wantFirst(t *testing.T, s string, least, most int) {
	t.Helper()
	n, size, code := slowFirst(s, least, most)
	r := Of("\x02" + s)
	r.Num(1, 1)
	if got := r.Num(least, most); got != n {
		t.Errorf("Num(%d, %d) of %x: %d, want %d", least, most, s, got, n)
	}
	if code != api.OK {
		wantFault(t, "Num", r.Err(), code, 1)
		size = 0
	} else if r.Err() != nil {
		t.Errorf("Num(%d, %d) of %x: %s", least, most, s, fault.Text(r.Err()))
	}
	if r.At() != 1+size {
		t.Errorf("Num(%d, %d) of %x: stands at %d, want %d", least, most, s, r.At(), 1+size)
	}
}

// P3.2 (row)

func TestRowBeginsAtTheBeginning(t *testing.T) {
	for _, s := range []string{"", "\x00", "\x80", "abc"} {
		wantRight(t, "Of", Of(s), 0)
	}
}

func TestNumReadsWhatWasPut(t *testing.T) {
	l := edges()
	r := Of(Put(l...))
	at := 0
	for _, n := range l {
		wantNum(t, "within all", r.Num(math.MinInt, math.MaxInt), n)
		at += len(slowPut(n))
		wantRight(t, "behind it", r, at)
	}
	wantNum(t, "At the end", r.At(), len(Put(l...)))
	if err := r.End(); err != nil {
		t.Errorf("End: %s", fault.Text(err))
	}
	r = Of(Put(l...))
	for _, n := range l {
		wantNum(t, "within itself", r.Num(n, n), n)
	}
	wantRight(t, "at the end", r, at)
}

func TestNumOfOneThatIsNotWithin(t *testing.T) {
	for _, c := range []struct{ n, least, most int }{
		{0, 1, 9}, {0, -9, -1}, {10, 1, 9}, {-1, 0, math.MaxInt}, {1, math.MinInt, 0},
		{math.MinInt, math.MinInt + 1, math.MaxInt}, {math.MaxInt, math.MinInt, math.MaxInt - 1},
		{5, 9, 1}, {9, 9, 1}, {1, 9, 1}, {0, math.MaxInt, math.MinInt},
	} {
		r := Of(Put(7, c.n, 7))
		wantNum(t, "ahead", r.Num(7, 7), 7)
		wantNum(t, "not within", r.Num(c.least, c.most), 0)
		wantFailed(t, "not within", r, api.ErrOver, 1)
	}
}

func TestNumOfWrongBytes(t *testing.T) {
	const nine = "\x80\x80\x80\x80\x80\x80\x80\x80\x80"
	for _, c := range []struct {
		s    string
		code api.Errno
	}{
		{"", api.ErrShort}, {"\x80", api.ErrShort}, {"\xff\xff", api.ErrShort}, {nine, api.ErrShort},
		{"\x80\x00", api.ErrForm}, {"\xff\x00", api.ErrForm}, {"\x81\x80\x00", api.ErrForm},
		{nine + "\x00", api.ErrForm}, {nine + "\x02", api.ErrForm}, {nine + "\x03", api.ErrForm}, {nine + "\x7f", api.ErrForm},
		{nine + "\x80", api.ErrForm}, {nine + "\x81", api.ErrForm}, {nine + "\xff", api.ErrForm},
		{nine + "\x80\x01", api.ErrForm}, {nine + "\x81\x00", api.ErrForm},
	} {
		r := Of(c.s)
		wantNum(t, "wrong", r.Num(math.MinInt, math.MaxInt), 0)
		wantFailed(t, "wrong", r, c.code, 0)
		r = Of("\xac\x02" + c.s)
		wantNum(t, "ahead", r.Num(150, 150), 150)
		wantNum(t, "wrong, and not within", r.Num(1, -1), 0)
		wantFailed(t, "wrong, and not within", r, c.code, 2)
	}
}

func TestNumOfTenBytesThatFit(t *testing.T) {
	r := Of("\x80\x80\x80\x80\x80\x80\x80\x80\x80\x01\xff\xff\xff\xff\xff\xff\xff\xff\xff\x01\x80")
	wantNum(t, "2^62", r.Num(math.MinInt, math.MaxInt), 1<<62)
	wantRight(t, "behind it", r, 10)
	wantNum(t, "the lowest", r.Num(math.MinInt, math.MaxInt), math.MinInt)
	wantRight(t, "behind it", r, 20)
	wantNum(t, "one that is not whole", r.Num(math.MinInt, math.MaxInt), 0)
	wantFailed(t, "one that is not whole", r, api.ErrShort, 20)
}

func TestNumOfAllShortBytes(t *testing.T) {
	wantFirst(t, "", math.MinInt, math.MaxInt)
	for a := range 256 {
		wantFirst(t, string([]byte{byte(a)}), math.MinInt, math.MaxInt)
		wantFirst(t, string([]byte{byte(a)}), -20, 20)
		for b := range 256 {
			wantFirst(t, string([]byte{byte(a), byte(b)}), math.MinInt, math.MaxInt)
			wantFirst(t, string([]byte{byte(a), byte(b)}), -20, 500)
		}
	}
}

func TestNumOfSomeBytes(t *testing.T) {
	r := rand.New(rand.NewSource(2))
	for range 50000 {
		b := make([]byte, r.Intn(13))
		for i := range b {
			b[i] = byte(r.Intn(256))
			if r.Intn(8) > 0 {
				b[i] |= 128
			}
		}
		if len(b) > 9 {
			b[9] &= byte(r.Intn(256)) & byte(r.Intn(256)) & byte(r.Intn(256))
		}
		wantFirst(t, string(b), math.MinInt, math.MaxInt)
		wantFirst(t, string(b), -int(r.Uint64()>>1>>r.Intn(63)), int(r.Uint64()>>1>>r.Intn(63)))
	}
}

func TestCountIsFromZero(t *testing.T) {
	r := Of(Put(0, 5, 5, math.MaxInt))
	wantNum(t, "0 of 0", r.Count(0), 0)
	wantNum(t, "5 of 5", r.Count(5), 5)
	wantNum(t, "5 of more", r.Count(6), 5)
	wantNum(t, "the most", r.Count(math.MaxInt), math.MaxInt)
	wantRight(t, "behind all", r, 13)
	for _, c := range []struct{ n, most int }{{6, 5}, {1, 0}, {-1, 5}, {math.MinInt, math.MaxInt}, {0, -1}, {-1, -1}, {-5, math.MinInt}} {
		r = Of(Put(c.n))
		wantNum(t, "not within", r.Count(c.most), 0)
		wantFailed(t, "not within", r, api.ErrOver, 0)
	}
	r = Of("\x80\x00")
	r.Count(9)
	wantFailed(t, "wrong bytes", r, api.ErrForm, 0)
}

func TestTextReadsWhatWasPut(t *testing.T) {
	long := strings.Repeat("\xff\x00", 2048)
	r := Of(PutText("hi") + PutText("") + PutText("é\xff\x00") + PutText(long) + PutText("no more"))
	wantBytes(t, "hi", r.Text(2), "hi")
	wantRight(t, "behind it", r, 3)
	wantBytes(t, "nothing", r.Text(0), "")
	wantRight(t, "behind it", r, 4)
	wantBytes(t, "bytes, not characters", r.Text(math.MaxInt), "é\xff\x00")
	wantRight(t, "behind it", r, 9)
	wantBytes(t, "a long one", r.Text(4096), long)
	wantRight(t, "behind it", r, 9+2+4096)
	wantBytes(t, "one behind", r.Text(7), "no more")
	if err := r.End(); err != nil {
		t.Errorf("End: %s", fault.Text(err))
	}
}

func TestTextThatIsWrong(t *testing.T) {
	for _, c := range []struct {
		what, s string
		most    int
		code    api.Errno
	}{
		{"no length", "", 9, api.ErrShort},
		{"a length that is not whole", "\x80", 9, api.ErrShort},
		{"a length of wrong bytes", "\x80\x00ab", 9, api.ErrForm},
		{"too long", PutText("abc"), 2, api.ErrOver},
		{"too long by far", PutText("abc"), 0, api.ErrOver},
		{"of none at most", PutText(""), -1, api.ErrOver},
		{"a length below 0", "\x01abc", 9, api.ErrOver},
		{"fewer bytes", "\x06ab", 9, api.ErrShort},
		{"fewer bytes, of most", "\x06ab", 3, api.ErrShort},
		{"no bytes", "\x02", 9, api.ErrShort},
		{"fewer bytes, and too long", "\x06ab", 2, api.ErrOver},
		{"fewer bytes by far", Put(math.MaxInt) + "ab", math.MaxInt, api.ErrShort},
		{"two bytes of length", Put(64) + strings.Repeat("a", 63), 99, api.ErrShort},
	} {
		r := Of(c.s)
		wantBytes(t, c.what, r.Text(c.most), "")
		wantFailed(t, c.what, r, c.code, 0)
		r = Of("\xac\x02\x02x" + c.s)
		wantNum(t, "ahead", r.Num(150, 150), 150)
		wantBytes(t, "ahead", r.Text(1), "x")
		wantBytes(t, c.what, r.Text(c.most), "")
		wantFailed(t, c.what, r, c.code, 4)
	}
}

func TestFailFailsWhereTheRowStands(t *testing.T) {
	for _, code := range []api.Errno{api.ErrArg, api.ErrForm, api.ErrKind, -1, 9999, math.MinInt} {
		r := Of(Put(1, 2))
		r.Fail(code)
		wantFailed(t, "at once", r, code, 0)
		r = Of(Put(64, 2))
		r.Num(0, 99)
		r.Fail(code)
		wantFailed(t, "behind a number", r, code, 2)
		r = Of("")
		r.Fail(code)
		wantFailed(t, "of nothing", r, code, 0)
	}
}

func TestFailOfOKDoesNothing(t *testing.T) {
	r := Of(Put(3))
	r.Fail(api.OK)
	wantRight(t, "OK", r, 0)
	wantNum(t, "read on", r.Num(3, 3), 3)
	r.Fail(api.OK)
	if err := r.End(); err != nil {
		t.Errorf("End: %s", fault.Text(err))
	}
}

func TestTheFirstFailureIsKept(t *testing.T) {
	r := Of("\x02\x80\x00")
	wantNum(t, "ahead", r.Num(0, 9), 1)
	r.Num(0, 9)
	r.Fail(api.ErrArg)
	r.Text(9)
	wantFailed(t, "of a number", r, api.ErrForm, 1)
	r = Of("\x04a")
	r.Text(9)
	r.Num(9, 9)
	r.Fail(api.ErrArg)
	wantFailed(t, "of a text", r, api.ErrShort, 0)
	r = Of("\x04a")
	r.Fail(api.ErrKind)
	r.Text(9)
	r.Fail(api.ErrArg)
	wantFailed(t, "of Fail", r, api.ErrKind, 0)
}

// P3.3 (told)

func TestEndOfWhatIsLeft(t *testing.T) {
	r := Of("\x02\x80\x01\x00")
	for i, want := range []int{0, 1, 3} {
		wantFault(t, "End", r.End(), api.ErrForm, want)
		wantFault(t, "End again", r.End(), api.ErrForm, want)
		wantRight(t, "not failed by End", r, want)
		wantNum(t, "read on", r.Num(-9, 99), []int{1, 64, 0}[i])
	}
	for range 2 {
		if err := r.End(); err != nil {
			t.Errorf("End of nothing left: %s", fault.Text(err))
		}
	}
	wantRight(t, "at the end", r, 4)
}

func TestEndOfNothing(t *testing.T) {
	if err := Of("").End(); err != nil {
		t.Errorf("End: %s", fault.Text(err))
	}
}

func TestEndTellsTheFailureAheadOfWhatIsLeft(t *testing.T) {
	r := Of(Put(1, 9, 1))
	r.Num(0, 1)
	r.Num(0, 1)
	wantFault(t, "something left", r.End(), api.ErrOver, 1)
	r = Of(Put(1))
	r.Num(0, 1)
	r.Fail(api.ErrKind)
	wantFault(t, "nothing left", r.End(), api.ErrKind, 1)
}

func TestTheFaultIsAPlaceAroundACode(t *testing.T) {
	r := Of("\x00")
	for _, err := range []error{r.End(), func() error { r.Num(1, 1); return r.Err() }(), r.End()} {
		if fault.Path(err) != "" {
			t.Errorf("%q has a word around it", fault.Text(err))
		}
		if in := fault.At(fault.New(fault.Code(err)), 0); err != in {
			t.Errorf("%q is not %q", fault.Text(err), fault.Text(in))
		}
	}
}

// R1 and R3: nothing, and memory.

func TestNilRow(t *testing.T) {
	var r *Row
	for range 2 {
		wantNum(t, "Num", r.Num(math.MinInt, math.MaxInt), 0)
		wantNum(t, "Num from 3 to 3", r.Num(3, 3), 0)
		wantNum(t, "Count", r.Count(9), 0)
		wantBytes(t, "Text", r.Text(9), "")
		wantNum(t, "At", r.At(), 0)
		for _, err := range []error{r.Err(), r.End()} {
			if err == nil || err != fault.New(api.ErrForm) {
				t.Errorf("a nil row tells %q", fault.Text(err))
			}
			if _, placed := fault.Place(err); placed {
				t.Error("a nil row tells a place")
			}
		}
		r.Fail(api.ErrArg)
		r.Fail(api.OK)
	}
}

func TestRowThatOfDidNotMake(t *testing.T) {
	r := new(Row)
	if err := r.End(); err != nil {
		t.Errorf("End: %s", fault.Text(err))
	}
	wantRight(t, "an empty one", r, 0)
	wantNum(t, "Num", r.Num(math.MinInt, math.MaxInt), 0)
	wantFailed(t, "read", r, api.ErrShort, 0)
}

func TestRowsKeepApart(t *testing.T) {
	s := Put(1, 2) + PutText("c")
	a, b := Of(s), Of(s)
	a.Num(1, 1)
	a.Fail(api.ErrArg)
	wantNum(t, "b's first", b.Num(1, 1), 1)
	wantNum(t, "b's second", b.Num(2, 2), 2)
	wantBytes(t, "b's text", b.Text(1), "c")
	wantFailed(t, "a", a, api.ErrArg, 1)
}

func TestARowsTextsAreNewMemory(t *testing.T) {
	b := []byte(PutText("abc") + PutText("def"))
	r := Of(unsafe.String(&b[0], len(b)))
	b[1] = 'x'
	wantBytes(t, "a text whose bytes were changed behind Of", r.Text(9), "abc")
	wantBytes(t, "the next one", r.Text(9), "def")
	r = Of("\x06abc")
	text := r.Text(9)
	kept := r.s[1:]
	if unsafe.StringData(text) == unsafe.StringData(kept) {
		t.Error("Text tells a piece of what the row keeps")
	}
}

func TestLongRows(t *testing.T) {
	l := make([]int, 1<<20)
	for i := range l {
		l[i] = i - 1<<19
	}
	r := Of(Put(l...) + PutText(strings.Repeat("t", 1<<20)))
	for _, n := range l {
		if got := r.Num(n, n); got != n {
			t.Fatalf("%d, want %d", got, n)
		}
	}
	wantNum(t, "a long text", len(r.Text(1<<20)), 1<<20)
	if err := r.End(); err != nil {
		t.Errorf("End: %s", fault.Text(err))
	}
}
