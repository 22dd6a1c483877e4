// Package fault is layer 1: what went wrong, where, and in what. See shared/doc/01-fault.md.
package fault

import (
	"errors"
	"strconv"
	"strings"

	"lyceum/api"
)

// New tells the fault of a code.
func New(code api.Errno) error {
	if code == api.OK {
		return nil
	}
	return code
}

// At puts a place around a fault.
func At(err error, place int) error {
	if err == nil {
		return nil
	}
	return placed{err, place, strange(err)}
}

// In puts a word around a fault.
func In(err error, word string) error {
	if err == nil {
		return nil
	}
	return worded{err, word, strange(err)}
}

// Join puts faults in a row.
func Join(errs ...error) error {
	some := &row{}
	for _, err := range errs {
		if err != nil {
			some.errs = append(some.errs, err)
			some.strange = some.strange || strange(err)
		}
	}
	switch len(some.errs) {
	case 0:
		return nil
	case 1:
		return some.errs[0]
	}
	return some
}

// Code tells a fault's code, of a row the first one's.
func Code(err error) (code api.Errno) {
	if !ends(err) {
		return api.OK
	}
	defer func() {
		if recover() != nil {
			code = api.OK
		}
	}()
	errors.As(err, &code)
	return code
}

// Is tells whether a fault has that code; nothing has OK.
func Is(err error, code api.Errno) (is bool) {
	if err == nil {
		return code == api.OK
	}
	if !ends(err) {
		return false
	}
	defer func() {
		if recover() != nil {
			is = false
		}
	}()
	return errors.Is(err, code)
}

// Place tells the sum of all places around a fault's code, and whether there is one.
func Place(err error) (sum int, found bool) {
	for part := range around(err) {
		if p, ok := part.(placed); ok {
			sum, found = sum+p.place, true
		}
	}
	return sum, found
}

// Path tells the words around a fault's code, the outermost first.
func Path(err error) string {
	var words []string
	for part := range around(err) {
		if w, ok := part.(worded); ok {
			words = append(words, w.word)
		}
	}
	return strings.Join(words, "/")
}

// Text tells a fault as a text.
func Text(err error) string {
	var b strings.Builder
	write(&b, err)
	return b.String()
}

// write puts all of a text into one builder: to put together the texts of parts, level by level, would copy a deep fault's text once a level.
func write(b *strings.Builder, err error) {
	for err != nil {
		switch e := err.(type) {
		case placed:
			b.WriteString("at " + strconv.Itoa(e.place) + ": ")
			err = e.err
		case worded:
			b.WriteString(e.word)
			b.WriteString(": ")
			err = e.err
		case *row:
			for i, one := range e.errs {
				if i > 0 {
					b.WriteString("; ")
				}
				write(b, one)
			}
			return
		default:
			b.WriteString(said(err))
			return
		}
	}
}
