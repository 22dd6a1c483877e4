package nums

import (
	"strings"

	"lyceum/api"
	"lyceum/fault"
)

// Row is a row of numbers and texts that is read from its beginning on. One that Of did not make is an empty one.
type Row struct {
	s  string
	at int
	// code is that of the first failure, which was where the row stands.
	code api.Errno
}

// Of is a row that stands at the beginning of s, of which it keeps a copy: what a row keeps is its own.
func Of(s string) *Row { return &Row{s: strings.Clone(s)} }

// Num is the number that begins where the row stands, which goes behind it; the row fails, if it is not from least to most.
func (r *Row) Num(least, most int) int {
	if r.Err() != nil {
		return 0
	}
	folded, size, code := first(r.s[r.at:])
	n := unfold(folded)
	switch {
	case code == api.OK && (n < least || n > most):
		code = api.ErrOver
		fallthrough
	case code != api.OK:
		r.Fail(code)
		return 0
	}
	r.at += size
	return n
}

// Text is the text that begins where the row stands, which goes behind it; the row fails, if it has more than most bytes.
func (r *Row) Text(most int) string {
	if r.Err() != nil {
		return ""
	}
	began := r.at
	size := r.Count(most)
	if size > len(r.s)-r.at {
		r.at = began
		r.Fail(api.ErrShort)
		return ""
	}
	end := r.at + size
	text := strings.Clone(r.s[r.at:end])
	r.at = end
	return text
}

// Count is a number from 0 to most.
func (r *Row) Count(most int) int { return r.Num(0, most) }

// Fail makes the row fail with that code where it stands, if it has not failed yet.
func (r *Row) Fail(code api.Errno) {
	if r.Err() == nil {
		r.code = code
	}
}

// Err is the fault of the first failure; nothing, if there is none.
func (r *Row) Err() error {
	if r == nil {
		return fault.New(api.ErrForm)
	}
	return fault.At(fault.New(r.code), r.at)
}

// End is Err, if there is one; else the fault of ErrForm, if something is left.
func (r *Row) End() error {
	if err := r.Err(); err != nil || r.at == len(r.s) {
		return err
	}
	return fault.At(fault.New(api.ErrForm), r.at)
}

// At is the place where the row stands.
func (r *Row) At() int {
	if r == nil {
		return 0
	}
	return r.at
}

// first is the folded number that s begins with, and how many bytes it has; or the code of what is wrong with it.
func first(s string) (folded uint64, size int, code api.Errno) {
bytes:
	for {
		if size == len(s) {
			return 0, 0, api.ErrShort
		}
		b := s[size]
		folded |= uint64(b&^more) << (group * size)
		size++
		switch {
		case size == longest && b > 1, size > 1 && b == 0:
			return 0, 0, api.ErrForm
		case b < more:
			break bytes
		}
	}
	return folded, size, api.OK
}
