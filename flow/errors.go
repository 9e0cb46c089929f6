package flow

import (
	"errors"
	"strconv"
)

var (
	ErrSyntax = errors.New("no line")
	ErrLong   = errors.New("a text that is too long")
	ErrMany   = errors.New("too many stages")
	ErrKind   = errors.New("a value of the wrong kind")
	ErrBig    = errors.New("a wave that is too big")
	ErrPanic  = errors.New("a function panicked")
	ErrNone   = errors.New("no value")
)

// SyntaxError tells where a text is no line.
type SyntaxError struct{ At int }

func (e *SyntaxError) Error() string {
	if e == nil {
		return ErrSyntax.Error()
	}
	return ErrSyntax.Error() + ": at byte " + strconv.Itoa(e.At)
}

func (e *SyntaxError) Unwrap() error { return ErrSyntax }

// StageError is an error of a stage.
type StageError struct {
	At   int
	Name string
	Err  error
}

func (e *StageError) Error() string {
	if e == nil {
		return "no stage"
	}
	return "stage " + strconv.Itoa(e.At) + " (" + e.Name + "): " + textOf(e.Err)
}

func (e *StageError) Unwrap() error {
	if e == nil {
		return nil
	}
	return e.Err
}

// textOf stands between a StageError and an error that a caller made: that one may be nil, panic, or lead back to the StageError itself.
func textOf(err error) (text string) {
	const unknown = "an error without a text"
	defer func() {
		if recover() != nil {
			text = unknown
		}
	}()
	if err == nil || !ends(err) {
		return unknown
	}
	return err.Error()
}
