package flow

import "errors"

// Fault is an error as numbers.
type Fault struct {
	E    int
	At   int
	Name string
}

// otherError is the E of an error in which none of the package's own stands.
const otherError = 8

// Tell tells what an error is (P10).
func Tell(err error) Fault {
	if err == nil {
		return Fault{}
	}
	f := finds{number: otherError}
	walkFrom(err, &f)
	return f.fault()
}

// finds is what Tell looks for on its way along a chain.
type finds struct {
	number int
	stage  *StageError
	syntax *SyntaxError
}

// met asks an error alone: errors.As would go on to those behind it, and from a chain that leads back into itself it would not return.
func (f *finds) met(err error) {
	switch e := err.(type) {
	case *StageError:
		if f.stage == nil {
			f.stage = e
		}
	case *SyntaxError:
		if f.syntax == nil {
			f.syntax = e
		}
	}
}

// ended looks for the package's errors where a chain ends: they wrap nothing, so they stand nowhere else.
func (f *finds) ended(err error) {
	f.number = min(f.number, numberOf(err))
}

func (f *finds) fault() Fault {
	switch {
	case f.stage != nil:
		return Fault{E: f.number, At: f.stage.At, Name: f.stage.Name}
	case f.syntax != nil:
		return Fault{E: f.number, At: f.syntax.At}
	}
	return Fault{E: f.number}
}

// numberOf recovers because the methods of a caller's error, that errors.Is calls, may panic.
func numberOf(err error) (e int) {
	defer func() {
		if recover() != nil {
			e = otherError
		}
	}()
	switch {
	case errors.Is(err, ErrSyntax):
		return 1
	case errors.Is(err, ErrLong):
		return 2
	case errors.Is(err, ErrMany):
		return 3
	case errors.Is(err, ErrKind):
		return 4
	case errors.Is(err, ErrBig):
		return 5
	case errors.Is(err, ErrPanic):
		return 6
	case errors.Is(err, ErrNone):
		return 7
	}
	return otherError
}
