package fault_test

import (
	"errors"
	"fmt"
	"testing"

	"lyceum/api"
	"lyceum/fault"
)

// Errors that are not of the package's making: wrong inputs of each call.

type pointed struct{ text string }

func (p *pointed) Error() string { return p.text }
func (p *pointed) Unwrap() error { return errors.New(p.text) }

type wild struct{}

func (wild) Error() string   { panic("Error") }
func (wild) Unwrap() []error { panic("Unwrap") }
func (wild) Is(error) bool   { panic("Is") }
func (wild) As(any) bool     { panic("As") }

type listed []error

func (l listed) Error() string   { return "listed" }
func (l listed) Unwrap() []error { return l }

type round struct{ in error }

func (r *round) Error() string { return "round" }
func (r *round) Unwrap() error { return r.in }

type twice struct{}

func (twice) Error() string   { return "twice" }
func (twice) Unwrap() []error { return []error{twice{}, nil, twice{}} }

func selfWrapped() error {
	r := &round{}
	r.in = r
	return r
}

func roundThroughFaults() error {
	r := &round{}
	r.in = fault.Join(fault.At(fault.In(r, "a"), 1), r)
	return r
}

func strangers() map[string]error {
	return map[string]error{
		"plain":          errors.New("plain"),
		"nil pointer":    (*pointed)(nil),
		"wild":           wild{},
		"no list":        listed(nil),
		"list of nil":    listed{nil, nil},
		"wraps nil":      &round{},
		"self-wrapped":   selfWrapped(),
		"through faults": roundThroughFaults(),
		"twice":          twice{},
	}
}

func TestStrangersHaveNoCode(t *testing.T) {
	for what, err := range strangers() {
		for _, made := range []error{err, fault.At(err, 3), fault.In(err, "a"), fault.Join(err, err)} {
			if made == nil {
				t.Errorf("%s: nothing was made of it", what)
			}
			if code := fault.Code(made); code != api.OK {
				t.Errorf("%s: Code %d", what, int(code))
			}
			if fault.Is(made, api.OK) || fault.Is(made, api.ErrForm) {
				t.Errorf("%s: Is tells a code", what)
			}
			fault.Place(made)
			fault.Path(made)
			fault.Text(made)
		}
	}
}

func TestStrangersTellTheirTexts(t *testing.T) {
	wantText(t, errors.New("plain"), "plain")
	wantText(t, fault.In(fault.At(errors.New("plain"), 3), "row"), "row: at 3: plain")
	wantText(t, fault.Join(wild{}, fault.New(api.ErrForm)), "; lyceum: error 10")
	wantText(t, fault.At((*pointed)(nil), 1), "at 1: ")
	wantText(t, fault.At(selfWrapped(), 1), "at 1: round")
}

func TestFaultsWithinStrangersAreFound(t *testing.T) {
	in := fault.In(fault.At(fault.New(api.ErrForm), 3), "in")
	err := fault.In(fault.At(fmt.Errorf("text: %w", in), 10), "out")
	wantText(t, err, "out: at 10: text: in: at 3: lyceum: error 10")
	wantCode(t, err, api.ErrForm)
	wantCodes(t, err, api.ErrForm)
	wantPlace(t, err, 13, true)
	wantPath(t, err, "out/in")
	many := listed{in, fault.New(api.ErrSum)}
	wantCode(t, many, api.ErrForm)
	wantCodes(t, many, api.ErrForm, api.ErrSum)
	wantPlace(t, fault.At(many, 1), 4, true)
	wantPath(t, many, "in")
}

func TestAFaultDeepWithinStrangersIsFound(t *testing.T) {
	err := fault.At(fault.New(api.ErrForm), 3)
	for range 1 << 16 {
		err = &round{err}
	}
	err = fault.In(err, "out")
	wantCode(t, err, api.ErrForm)
	if !fault.Is(err, api.ErrForm) {
		t.Error("its code is not found")
	}
	wantPlace(t, err, 3, true)
	wantPath(t, err, "out")
}

func TestManyStrangersDoNotHideACode(t *testing.T) {
	list := make([]error, 1<<20)
	for i := range list {
		list[i] = errors.New("plain")
	}
	list = append(list, fault.New(api.ErrSum))
	if !fault.Is(fault.At(fault.Join(list...), 1), api.ErrSum) {
		t.Error("the last one's code is not found")
	}
}
