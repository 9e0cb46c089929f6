package flow

import (
	"errors"
	"strconv"
	"strings"
)

var (
	ErrSyntax = errors.New("no line")
	ErrLong   = errors.New("a text that is too long")
	ErrMany   = errors.New("too many stages")
	ErrKind   = errors.New("a value of the wrong kind")
	ErrBig    = errors.New("a wave that is too big")
	ErrPanic  = errors.New("a function panicked")
	ErrNone   = errors.New("no value")
)

// SyntaxError tells where a text is no line.
type SyntaxError struct{ At int }

func (e *SyntaxError) Error() string {
	if e == nil {
		return ErrSyntax.Error()
	}
	return ErrSyntax.Error() + ": at byte " + strconv.Itoa(e.At)
}

func (e *SyntaxError) Unwrap() error { return ErrSyntax }

// StageError is an error of a stage.
type StageError struct {
	At   int
	Name string
	Err  error
}

// Error goes along the chain and does not ask the next StageError for its text: of a long chain that would copy the text each time.
func (e *StageError) Error() string {
	var t stageTexts
	if e == nil || !walkFrom(e, &t) {
		return placeText(e) + unknownText
	}
	return t.text.String() + textOf(t.behind)
}

func (e *StageError) Unwrap() error {
	if e == nil {
		return nil
	}
	return e.Err
}

const unknownText = "an error without a text"

// stageTexts gathers the texts of the StageErrors with which a chain begins, and the error behind them.
type stageTexts struct {
	text   strings.Builder
	behind error
}

func (t *stageTexts) met(err error) {
	if t.behind != nil {
		return
	}
	if s, ok := err.(*StageError); ok && s != nil {
		t.text.WriteString(placeText(s))
		return
	}
	t.behind = err
}

func (t *stageTexts) ended(error) {}

func placeText(e *StageError) string {
	if e == nil {
		return "no stage: "
	}
	return "stage " + strconv.Itoa(e.At) + " (" + e.Name + "): "
}

// textOf recovers because it asks an error that a caller made.
func textOf(err error) (text string) {
	defer func() {
		if recover() != nil {
			text = unknownText
		}
	}()
	if err == nil {
		return unknownText
	}
	return err.Error()
}
