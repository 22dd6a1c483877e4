package fault_test

import (
	"errors"
	"math"
	"slices"
	"strconv"
	"strings"
	"testing"

	"lyceum/api"
	"lyceum/fault"
)

var codes = []api.Errno{
	api.ErrArg, api.ErrForm, api.ErrShort, api.ErrNone, api.ErrState, api.ErrThere, api.ErrFull, api.ErrOver,
	api.ErrSum, api.ErrKind, api.ErrSmall, api.ErrGap, api.ErrLoop, 2, 9999, -1, math.MinInt, math.MaxInt,
}

func wantText(t *testing.T, err error, want string) {
	t.Helper()
	if got := fault.Text(err); got != want {
		t.Errorf("Text: %q, want %q", got, want)
	}
}

func wantPlace(t *testing.T, err error, want int, wantFound bool) {
	t.Helper()
	if got, found := fault.Place(err); got != want || found != wantFound {
		t.Errorf("Place of %q: %d %t, want %d %t", fault.Text(err), got, found, want, wantFound)
	}
}

func wantPath(t *testing.T, err error, want string) {
	t.Helper()
	if got := fault.Path(err); got != want {
		t.Errorf("Path of %q: %q, want %q", fault.Text(err), got, want)
	}
}

func wantCode(t *testing.T, err error, want api.Errno) {
	t.Helper()
	if got := fault.Code(err); got != want {
		t.Errorf("Code of %q: %d, want %d", fault.Text(err), int(got), int(want))
	}
}

func wantCodes(t *testing.T, err error, want ...api.Errno) {
	t.Helper()
	for _, code := range append([]api.Errno{api.OK}, codes...) {
		if got := fault.Is(err, code); got != slices.Contains(want, code) {
			t.Errorf("Is of %q and %d: %t", fault.Text(err), int(code), got)
		}
	}
}

// P1.1 (made)

func TestNewIsTheCode(t *testing.T) {
	for _, code := range codes {
		err := fault.New(code)
		if err == nil || err != error(code) {
			t.Errorf("New of %d: %v", int(code), err)
		}
	}
}

func TestNothingIsMadeOfNothing(t *testing.T) {
	made := map[string]error{
		"New of OK":          fault.New(api.OK),
		"At of nothing":      fault.At(nil, 3),
		"In of nothing":      fault.In(nil, "row"),
		"At of OK":           fault.At(fault.New(api.OK), 0),
		"Join of none":       fault.Join(),
		"Join of one nil":    fault.Join(nil),
		"Join of more":       fault.Join(nil, nil, nil),
		"Join of a nil list": fault.Join([]error(nil)...),
		"Join of rows":       fault.Join(fault.Join(), fault.Join(nil, nil)),
	}
	for what, err := range made {
		if err != nil {
			t.Errorf("%s: %v", what, err)
		}
	}
}

func TestJoinOfJustOneIsTheOneItself(t *testing.T) {
	for _, one := range []error{
		fault.New(api.ErrSum),
		fault.At(fault.New(api.ErrSum), 1),
		fault.In(fault.New(api.ErrSum), "a"),
		fault.Join(fault.New(api.ErrSum), fault.New(api.ErrGap)),
		errors.New("a stranger"),
	} {
		for _, got := range []error{fault.Join(one), fault.Join(nil, one), fault.Join(one, nil), fault.Join(nil, nil, one, nil)} {
			if got != one {
				t.Errorf("Join of just %q: %q", one, got)
			}
		}
	}
}

func TestJoinKeepsTheOrder(t *testing.T) {
	a, b, c := fault.New(1), fault.New(2), fault.New(3)
	wantText(t, fault.Join(nil, c, nil, a, b, nil), "lyceum: error 3; lyceum: error 1; lyceum: error 2")
	wantText(t, fault.Join(a, a), "lyceum: error 1; lyceum: error 1")
	wantText(t, fault.Join(fault.Join(a, b), c), "lyceum: error 1; lyceum: error 2; lyceum: error 3")
	wantText(t, fault.Join(a, fault.Join(b, c)), "lyceum: error 1; lyceum: error 2; lyceum: error 3")
}

func TestARowIsItsOwn(t *testing.T) {
	list := []error{nil, fault.New(1), nil, fault.New(2)}
	err := fault.Join(list...)
	if list[0] != nil || list[1] != error(api.Errno(1)) || list[2] != nil || list[3] != error(api.Errno(2)) {
		t.Errorf("Join changed what it was handed: %v", list)
	}
	list[1], list[3] = fault.New(7), fault.New(8)
	wantText(t, err, "lyceum: error 1; lyceum: error 2")
	err.(interface{ Unwrap() []error }).Unwrap()[0] = fault.New(9)
	wantText(t, err, "lyceum: error 1; lyceum: error 2")
}

func TestWhatIsPutAroundLeavesTheFaultAsItIs(t *testing.T) {
	err := fault.At(fault.New(api.ErrForm), 3)
	fault.In(fault.At(fault.Join(err, fault.New(api.ErrGap)), 4), "row")
	wantText(t, err, "at 3: lyceum: error 10")
	wantPlace(t, err, 3, true)
	wantPath(t, err, "")
}

func TestErrorsFindsTheCodes(t *testing.T) {
	err := fault.In(fault.Join(fault.At(fault.New(api.ErrForm), 3), fault.In(fault.New(api.ErrSum), "b")), "a")
	var code api.Errno
	if !errors.As(err, &code) || code != api.ErrForm {
		t.Errorf("errors.As finds %d", int(code))
	}
	for _, code := range codes {
		if got, want := errors.Is(err, code), code == api.ErrForm || code == api.ErrSum; got != want {
			t.Errorf("errors.Is of %d: %t", int(code), got)
		}
	}
}

// P1.2 (told)

func TestNothingTells(t *testing.T) {
	wantCode(t, nil, api.OK)
	wantCodes(t, nil, api.OK)
	wantPlace(t, nil, 0, false)
	wantPath(t, nil, "")
	wantText(t, nil, "")
}

func TestACodeTells(t *testing.T) {
	for _, code := range codes {
		for _, err := range []error{fault.New(code), fault.At(fault.New(code), 2), fault.In(fault.New(code), "a"), fault.In(fault.At(fault.In(fault.New(code), "b"), 1), "c")} {
			wantCode(t, err, code)
			wantCodes(t, err, code)
		}
		wantPlace(t, fault.New(code), 0, false)
		wantPath(t, fault.New(code), "")
	}
}

func TestARowsCodes(t *testing.T) {
	a, b, c := fault.New(api.ErrGap), fault.At(fault.New(api.ErrArg), 1), fault.In(fault.New(api.ErrLoop), "c")
	row := fault.Join(a, b, c)
	wantCode(t, row, api.ErrGap)
	wantCodes(t, row, api.ErrGap, api.ErrArg, api.ErrLoop)
	wantCode(t, fault.Join(c, b, a), api.ErrLoop)
	wantCode(t, fault.Join(fault.Join(b, c), a), api.ErrArg)
	wantCodes(t, fault.Join(fault.Join(b, c), a), api.ErrGap, api.ErrArg, api.ErrLoop)
	wantCode(t, fault.At(fault.In(fault.Join(c, a), "x"), 1), api.ErrLoop)
	wantCodes(t, fault.At(fault.In(fault.Join(c, a), "x"), 1), api.ErrGap, api.ErrLoop)
}

func TestPlacesAreSummed(t *testing.T) {
	e := fault.New(api.ErrForm)
	wantPlace(t, fault.In(e, "row"), 0, false)
	wantPlace(t, fault.At(e, 0), 0, true)
	wantPlace(t, fault.At(e, 7), 7, true)
	wantPlace(t, fault.At(e, -7), -7, true)
	wantPlace(t, fault.At(fault.At(e, 5), -5), 0, true)
	wantPlace(t, fault.In(fault.At(fault.In(fault.At(e, 3), "a"), 10), "b"), 13, true)
}

func TestSumsOfPlacesGoRound(t *testing.T) {
	e := fault.New(api.ErrForm)
	wantPlace(t, fault.At(fault.At(e, math.MaxInt), 1), math.MinInt, true)
	wantPlace(t, fault.At(fault.At(e, math.MinInt), -1), math.MaxInt, true)
	wantPlace(t, fault.At(fault.At(e, math.MinInt), math.MinInt), 0, true)
}

func TestPathsAreTheWords(t *testing.T) {
	e := fault.New(api.ErrForm)
	wantPath(t, fault.At(e, 1), "")
	wantPath(t, fault.In(e, "row"), "row")
	wantPath(t, fault.In(fault.In(fault.In(e, "c"), "b"), "a"), "a/b/c")
	wantPath(t, fault.At(fault.In(fault.At(fault.In(e, "in"), 1), "out"), 2), "out/in")
	wantPath(t, fault.In(e, ""), "")
	wantPath(t, fault.In(fault.In(e, ""), ""), "/")
	wantPath(t, fault.In(fault.In(e, "b"), ""), "/b")
	wantPath(t, fault.In(fault.In(e, ""), "a"), "a/")
	wantPath(t, fault.In(fault.In(e, "c/d"), "a\xffb"), "a\xffb/c/d")
}

func TestARowHasTheFirstOnesPlaceAndPath(t *testing.T) {
	first := fault.In(fault.At(fault.New(api.ErrForm), 3), "a")
	second := fault.In(fault.At(fault.New(api.ErrSum), 100), "b")
	bare := fault.New(api.ErrGap)
	row := fault.In(fault.At(fault.Join(first, second), 10), "row")
	wantPlace(t, row, 13, true)
	wantPath(t, row, "row/a")
	wantPlace(t, fault.Join(bare, second), 0, false)
	wantPath(t, fault.Join(bare, second), "")
	wantPlace(t, fault.At(fault.Join(bare, second), 4), 4, true)
	wantPath(t, fault.In(fault.Join(bare, second), "x"), "x")
	wantPlace(t, fault.Join(fault.At(fault.Join(first, bare), 20), second), 23, true)
	wantPath(t, fault.Join(fault.In(fault.Join(first, bare), "y"), second), "y/a")
}

// P1.3 (texts)

func TestTexts(t *testing.T) {
	e := fault.New(api.ErrForm)
	wantText(t, fault.New(api.OK), "")
	wantText(t, e, "lyceum: error 10")
	wantText(t, fault.New(-3), "lyceum: error -3")
	wantText(t, fault.New(math.MinInt64), "lyceum: error -9223372036854775808")
	wantText(t, fault.New(math.MaxInt64), "lyceum: error 9223372036854775807")
	wantText(t, fault.At(e, 0), "at 0: lyceum: error 10")
	wantText(t, fault.At(e, -12), "at -12: lyceum: error 10")
	wantText(t, fault.At(e, math.MinInt64), "at -9223372036854775808: lyceum: error 10")
	wantText(t, fault.At(e, math.MaxInt64), "at 9223372036854775807: lyceum: error 10")
	wantText(t, fault.In(e, "row"), "row: lyceum: error 10")
	wantText(t, fault.In(e, ""), ": lyceum: error 10")
	wantText(t, fault.In(e, "a\xff\x00: ; "), "a\xff\x00: ; : lyceum: error 10")
	wantText(t, fault.In(fault.At(e, 3), "row"), "row: at 3: lyceum: error 10")
	wantText(t, fault.At(fault.At(e, 1), 2), "at 2: at 1: lyceum: error 10")
}

func TestTextsOfRows(t *testing.T) {
	a, b := fault.At(fault.New(api.ErrForm), 3), fault.In(fault.New(api.ErrSum), "b")
	wantText(t, fault.Join(a, b), "at 3: lyceum: error 10; b: lyceum: error 17")
	wantText(t, fault.In(fault.Join(a, b), "row"), "row: at 3: lyceum: error 10; b: lyceum: error 17")
	wantText(t, fault.Join(fault.At(fault.Join(b, a), 1), b), "at 1: b: lyceum: error 17; at 3: lyceum: error 10; b: lyceum: error 17")
}

func TestAFaultsErrorIsItsText(t *testing.T) {
	a, b := fault.At(fault.New(api.ErrForm), 3), fault.In(fault.New(api.ErrSum), "b")
	for _, err := range []error{fault.New(api.ErrForm), a, b, fault.Join(a, b)} {
		if err.Error() != fault.Text(err) {
			t.Errorf("Error %q, Text %q", err.Error(), fault.Text(err))
		}
	}
}

// All small faults, each beside what the document's words say of it.

type told struct {
	err    error
	codes  []api.Errno
	place  int
	placed bool
	words  []string
	text   string
}

func toldAt(f told, place int) told {
	f.err, f.text = fault.At(f.err, place), "at "+strconv.Itoa(place)+": "+f.text
	f.place, f.placed = f.place+place, true
	return f
}

func toldIn(f told, word string) told {
	f.err, f.text = fault.In(f.err, word), word+": "+f.text
	f.words = append([]string{word}, f.words...)
	return f
}

func toldRow(f, g told) told {
	f.err, f.text = fault.Join(f.err, nil, g.err), f.text+"; "+g.text
	f.codes = append(slices.Clone(f.codes), g.codes...)
	return f
}

func smallFaults() []told {
	all := []told{
		{err: fault.New(api.ErrArg), codes: []api.Errno{api.ErrArg}, text: "lyceum: error 1"},
		{err: fault.New(-1), codes: []api.Errno{-1}, text: "lyceum: error -1"},
	}
	for range 2 {
		for _, f := range slices.Clone(all) {
			all = append(all, toldAt(f, 0), toldAt(f, math.MaxInt), toldIn(f, "a"), toldIn(f, ""))
		}
		few := slices.Clone(all)
		for i, f := range few {
			all = append(all, toldRow(f, few[len(few)-1-i]), toldRow(f, few[i/2]))
		}
	}
	return all
}

func TestAllSmallFaults(t *testing.T) {
	for _, f := range smallFaults() {
		wantText(t, f.err, f.text)
		wantCode(t, f.err, f.codes[0])
		wantCodes(t, f.err, f.codes...)
		wantPlace(t, f.err, f.place, f.placed)
		wantPath(t, f.err, strings.Join(f.words, "/"))
	}
}

// P1: every call ends, and none panics.

func TestDeepFaults(t *testing.T) {
	const levels = 1 << 16
	at, in, rows, last := fault.New(api.ErrForm), fault.New(api.ErrForm), fault.New(api.ErrForm), fault.New(api.ErrForm)
	for range levels {
		at, in = fault.At(at, 2), fault.In(in, "a")
		rows, last = fault.Join(rows, fault.New(api.ErrSum)), fault.Join(fault.New(api.ErrSum), last)
	}
	wantPlace(t, at, 2*levels, true)
	wantPath(t, in, strings.Repeat("a/", levels-1)+"a")
	wantText(t, at, strings.Repeat("at 2: ", levels)+"lyceum: error 10")
	wantText(t, in, strings.Repeat("a: ", levels)+"lyceum: error 10")
	wantText(t, rows, "lyceum: error 10"+strings.Repeat("; lyceum: error 17", levels))
	for _, err := range []error{at, in, rows} {
		wantCode(t, err, api.ErrForm)
	}
	wantCode(t, last, api.ErrSum)
	wantCodes(t, last, api.ErrForm, api.ErrSum)
}

func TestALongRow(t *testing.T) {
	list := make([]error, 1<<18)
	for i := range list {
		list[i] = fault.At(fault.New(api.ErrForm), i)
	}
	list = append(list, fault.New(api.ErrSum))
	row := fault.Join(list...)
	wantCode(t, row, api.ErrForm)
	wantCodes(t, row, api.ErrForm, api.ErrSum)
	wantPlace(t, row, 0, true)
	wantPath(t, row, "")
	if n := strings.Count(fault.Text(row), "; "); n != len(list)-1 {
		t.Errorf("Text has %d parts, want %d", n+1, len(list))
	}
}
