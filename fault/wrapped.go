package fault

import (
	"iter"
	"slices"

	"lyceum/api"
)

// placed is a fault with a place around it. It notes, as worded and row do, whether a stranger is within: most faults have none, and need no looking through.
type placed struct {
	err     error
	place   int
	strange bool
}

// worded is a fault with a word around it.
type worded struct {
	err     error
	word    string
	strange bool
}

// row is a row of faults. A pointer to it is the error, since two errors that hold lists could not be held against each other.
type row struct {
	errs    []error
	strange bool
}

func (p placed) Error() string { return Text(p) }
func (w worded) Error() string { return Text(w) }
func (r *row) Error() string   { return Text(r) }

func (p placed) Unwrap() error { return p.err }
func (w worded) Unwrap() error { return w.err }

// Unwrap hands out a copy: what the row keeps is its own.
func (r *row) Unwrap() []error { return slices.Clone(r.errs) }

// wrapsOne and wrapsMany are what errors.As and errors.Is go through.
type wrapsOne interface{ Unwrap() error }
type wrapsMany interface{ Unwrap() []error }

// mostStrange is how many errors that strangers wrap are looked at: one of them may wrap itself, and each call must end. It is well above the 2^16 levels that the document speaks of.
const mostStrange = 1 << 18

// strange tells whether an error is a stranger, or has one within. A stranger is not of this package's making: it may do anything when it is asked.
func strange(err error) bool {
	switch e := err.(type) {
	case nil, api.Errno:
		return false
	case placed:
		return e.strange
	case worded:
		return e.strange
	case *row:
		return e.strange
	}
	return true
}

// ends tells whether all that an error wraps comes to an end: errors.As and errors.Is would go for ever through a stranger that wraps itself.
func ends(err error) bool {
	left := mostStrange
	for todo := []error{err}; len(todo) > 0; {
		last := len(todo) - 1
		err, todo = todo[last], todo[:last]
		if !strange(err) {
			continue
		}
		within := wrapped(err)
		switch err.(type) {
		case placed, worded, *row:
		default:
			left -= len(within)
		}
		if left < 0 {
			return false
		}
		todo = append(todo, within...)
	}
	return true
}

// around goes through an error and what it wraps, of several the first one, down to a code.
func around(err error) iter.Seq[error] {
	return func(yield func(error) bool) {
		left := mostStrange
	down:
		for part := err; part != nil && yield(part); part = first(part) {
			switch part.(type) {
			case api.Errno:
				break down
			case placed, worded, *row:
			default:
				left--
				if left < 0 {
					break down
				}
			}
		}
	}
}

// first tells what an error wraps, of several the first one.
func first(err error) error {
	within := wrapped(err)
	if len(within) == 0 {
		return nil
	}
	return within[0]
}

// wrapped tells what an error wraps; nothing, if it panics when it is asked.
func wrapped(err error) (within []error) {
	defer func() {
		if recover() != nil {
			within = nil
		}
	}()
	switch e := err.(type) {
	case wrapsOne:
		return []error{e.Unwrap()}
	case wrapsMany:
		return e.Unwrap()
	}
	return nil
}

// said tells a stranger's own text; nothing, if it panics when it is asked.
func said(err error) (text string) {
	defer func() {
		if recover() != nil {
			text = ""
		}
	}()
	return err.Error()
}
