package flow

import "errors"

// Fault is an error as numbers.
type Fault struct {
	E    int
	At   int
	Name string
}

// otherError is the E of an error in which none of the package's own stands.
const otherError = 8

// longest is how many errors may stand in a chain that Tell looks through. A caller can make one that leads back into itself, and Tell has to end with that one too.
const longest = 1 << 20

// Tell tells what an error is (P10).
func Tell(err error) Fault {
	if err == nil {
		return Fault{}
	}
	if !ends(err) {
		return Fault{E: otherError}
	}
	at, name := placeOf(err)
	return Fault{E: numberOf(err), At: at, Name: name}
}

// numberOf recovers because the methods of a caller's error, that errors.Is calls, may panic.
func numberOf(err error) (e int) {
	defer func() {
		if recover() != nil {
			e = otherError
		}
	}()
	switch {
	case errors.Is(err, ErrSyntax):
		return 1
	case errors.Is(err, ErrLong):
		return 2
	case errors.Is(err, ErrMany):
		return 3
	case errors.Is(err, ErrKind):
		return 4
	case errors.Is(err, ErrBig):
		return 5
	case errors.Is(err, ErrPanic):
		return 6
	case errors.Is(err, ErrNone):
		return 7
	}
	return otherError
}

// placeOf recovers on its own, apart from numberOf: a stage's place is known even where the error behind it panics.
func placeOf(err error) (at int, name string) {
	defer func() {
		if recover() != nil {
			at, name = 0, ""
		}
	}()
	var stage *StageError
	if errors.As(err, &stage) && stage != nil {
		return stage.At, stage.Name
	}
	var syntax *SyntaxError
	if errors.As(err, &syntax) && syntax != nil {
		return syntax.At, ""
	}
	return 0, ""
}

// ends tells whether errors.Is and errors.As come to an end with an error. They go into joined errors too, so these count as well.
func ends(err error) bool {
	open := []error{err}
	for seen := 0; len(open) > 0; seen++ {
		if seen+len(open) > longest {
			return false
		}
		last := len(open) - 1
		open = append(open[:last], wrappedBy(open[last])...)
	}
	return true
}

// wrappedBy answers nothing of an error whose Unwrap panics: there the chain can't be followed.
func wrappedBy(err error) (list []error) {
	defer func() {
		if recover() != nil {
			list = nil
		}
	}()
	if next := errors.Unwrap(err); next != nil {
		return []error{next}
	}
	var joined interface{ Unwrap() []error }
	if errors.As(err, &joined) {
		return joined.Unwrap()
	}
	return nil
}
