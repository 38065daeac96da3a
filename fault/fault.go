// Package fault is layer 1: see shared/doc/01-fault.md.
package fault

import (
	"errors"
	"strconv"
	"strings"

	"belvedere/api"
)

// Fault is an error, and where it happened: at a place of something.
type Fault struct {
	What string
	At   int
	Err  error
}

// Error tells it in words.
func (f *Fault) Error() string {
	var b strings.Builder
	// A loop instead of each Fault asking the next one: a long chain needs neither a deep stack nor a copy of the text for each Fault.
	for f != nil {
		b.WriteString(f.place())
		b.WriteString(": ")
		next, wrapped := f.Err.(*Fault)
		if !wrapped && f.Err != nil {
			b.WriteString(f.Err.Error())
		}
		f = next
	}
	return b.String()
}

// Unwrap is the error alone.
func (f *Fault) Unwrap() error {
	if f == nil {
		return nil
	}
	return f.Err
}

// place is where a Fault happened, without its error.
func (f *Fault) place() string {
	return f.What + " " + strconv.Itoa(f.At)
}

// At is an error that happened at a place; none stays none.
func At(what string, at int, e error) error {
	if e == nil {
		return nil
	}
	return &Fault{What: what, At: at, Err: e}
}

// Code is an error's number, as deep as it is: OK of none, ErrState of one that has no number.
func Code(e error) api.Errno {
	if e == nil {
		return api.OK
	}
	var n api.Errno
	if errors.As(e, &n) {
		return n
	}
	return api.ErrState
}

// Of is a number as an error; of OK none.
func Of(n api.Errno) error {
	if n == api.OK {
		return nil
	}
	return n
}

// Path is where an error happened, from the outside in.
func Path(e error) string {
	var places []string
	for {
		var f *Fault
		// A nil Fault is found as well, but has no place, and nothing behind it.
		if !errors.As(e, &f) || f == nil {
			return strings.Join(places, ", ")
		}
		places = append(places, f.place())
		e = f.Err
	}
}

// First is the first error that isn't none.
func First(l ...error) error {
	for _, e := range l {
		if e != nil {
			return e
		}
	}
	return nil
}

// Is tells whether an error is one of some numbers.
func Is(e error, l ...api.Errno) bool {
	for _, n := range l {
		if isNumber(e, n) {
			return true
		}
	}
	return false
}

// isNumber tells whether an error is of a number; OK is only that of none.
func isNumber(e error, n api.Errno) bool {
	if n == api.OK {
		return e == nil
	}
	return errors.Is(e, n)
}
