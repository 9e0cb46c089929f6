package flow_test

import (
	"errors"
	"fmt"
	"strings"
	"testing"
	"time"

	"flowline/flow"
	"flowline/plain"
)

// wraps is an error of a caller's own; its list makes it uncomparable.
type wraps struct {
	next error
	list []int
}

func (w wraps) Error() string { return "wraps" }
func (w wraps) Unwrap() error { return w.next }

// hostile is an error whose methods panic.
type hostile struct{}

func (hostile) Error() string { panic("Error") }
func (hostile) Unwrap() error { panic("Unwrap") }
func (hostile) Is(error) bool { panic("Is") }
func (hostile) As(any) bool   { panic("As") }

// endless is an error whose chain has no end; no two of its errors are the same.
type endless struct{ n int }

func (endless) Error() string   { return "endless" }
func (e endless) Unwrap() error { return endless{e.n + 1} }

// forked is an error that joins itself two times.
type forked struct{}

func (forked) Error() string   { return "forked" }
func (forked) Unwrap() []error { return []error{forked{}, forked{}} }

func TestTell(t *testing.T) {
	stage := func(at int, name string, err error) error { return &flow.StageError{At: at, Name: name, Err: err} }
	var noStage *flow.StageError
	var noSyntax *flow.SyntaxError
	for i, c := range []struct {
		err  error
		want flow.Fault
	}{
		{nil, flow.Fault{}},
		{flow.ErrSyntax, flow.Fault{E: 1}},
		{flow.ErrLong, flow.Fault{E: 2}},
		{flow.ErrMany, flow.Fault{E: 3}},
		{flow.ErrKind, flow.Fault{E: 4}},
		{flow.ErrBig, flow.Fault{E: 5}},
		{flow.ErrPanic, flow.Fault{E: 6}},
		{flow.ErrNone, flow.Fault{E: 7}},
		{errors.New("no line"), flow.Fault{E: 8}},
		{&flow.SyntaxError{At: 9}, flow.Fault{E: 1, At: 9}},
		{&flow.SyntaxError{}, flow.Fault{E: 1}},
		{stage(2, "len", flow.ErrKind), flow.Fault{E: 4, At: 2, Name: "len"}},
		{stage(0, "dft", flow.ErrBig), flow.Fault{E: 5, At: 0, Name: "dft"}},
		{stage(-1, "", flow.ErrNone), flow.Fault{E: 7, At: -1}},
		{stage(-2, "through", flow.ErrPanic), flow.Fault{E: 6, At: -2, Name: "through"}},
		{stage(3, "own", nil), flow.Fault{E: 8, At: 3, Name: "own"}},
		{stage(3, "own", errors.New("x")), flow.Fault{E: 8, At: 3, Name: "own"}},
		{stage(3, "own", stage(1, "len", flow.ErrKind)), flow.Fault{E: 4, At: 3, Name: "own"}},
		{stage(3, "own", &flow.SyntaxError{At: 8}), flow.Fault{E: 1, At: 3, Name: "own"}},
		{stage(0, "", &flow.SyntaxError{At: 8}), flow.Fault{E: 1}},
		{wraps{next: stage(3, "own", wraps{next: flow.ErrMany})}, flow.Fault{E: 3, At: 3, Name: "own"}},
		{wraps{next: wraps{next: &flow.SyntaxError{At: 4}}}, flow.Fault{E: 1, At: 4}},
		{wraps{next: flow.ErrLong, list: []int{1}}, flow.Fault{E: 2}},
		{wraps{}, flow.Fault{E: 8}},
		{fmt.Errorf("more: %w", flow.ErrBig), flow.Fault{E: 5}},
		{noStage, flow.Fault{E: 8}},
		{wraps{next: noStage}, flow.Fault{E: 8}},
		{noSyntax, flow.Fault{E: 1}},
		{stage(5, "own", noStage), flow.Fault{E: 8, At: 5, Name: "own"}},
		{hostile{}, flow.Fault{E: 8}},
		{wraps{next: hostile{}}, flow.Fault{E: 8}},
		{stage(5, "own", hostile{}), flow.Fault{E: 8, At: 5, Name: "own"}},
	} {
		if got := flow.Tell(c.err); got != c.want {
			t.Errorf("P10: Tell of the %d-th error = %+v, want %+v", i, got, c.want)
		}
	}
	if !plain.Different() {
		t.Errorf("P10: the errors are not seven different ones")
	}
}

func TestTellOfALongChain(t *testing.T) {
	err := error(&flow.StageError{At: 1, Name: "len", Err: flow.ErrKind})
	for range 100000 {
		err = wraps{next: err}
	}
	if got := flow.Tell(err); got != (flow.Fault{E: 4, At: 1, Name: "len"}) {
		t.Errorf("P10: Tell of a long chain = %+v", got)
	}
}

func TestTellOfParsesErrors(t *testing.T) {
	for spec, want := range map[string]flow.Fault{
		"even":                             {},
		"even|add 1000":                    {E: 1, At: 12},
		"":                                 {},
		"x":                                {E: 1},
		strings.Repeat("x", 121):           {E: 2},
		strings.Repeat("dft|", 15) + "dft": {E: 3},
	} {
		if l, got := plain.Parse(spec); got != want || (l == nil) != (want.E != 0) {
			t.Errorf("P10: Tell of the error of Parse(%q) = %+v, want %+v", spec, got, want)
		}
	}
}

// withinTime fails a test in which a call does not end.
func withinTime(t *testing.T, name string, call func()) {
	t.Helper()
	done := make(chan struct{})
	go func() {
		defer close(done)
		call()
	}()
	select {
	case <-done:
	case <-time.After(time.Minute):
		t.Fatalf("P1: %s does not end", name)
	}
}

func TestTellEnds(t *testing.T) {
	loop := &flow.StageError{At: 1, Name: "loop"}
	loop.Err = wraps{next: loop}
	for name, err := range map[string]error{"a loop": loop, "an endless chain": endless{}, "an endless fork": forked{}} {
		withinTime(t, "Tell of "+name, func() {
			if f := flow.Tell(err); f.E != 8 {
				t.Errorf("P10: Tell of %s = %+v", name, f)
			}
		})
	}
	loop.Err = loop
	withinTime(t, "Error of a loop", func() { _ = loop.Error() })
}

func TestErrorsAsValues(t *testing.T) {
	own := errors.New("a function's own")
	s := &flow.StageError{At: 4, Name: "take", Err: own}
	if s.Unwrap() != own || !errors.Is(s, own) || errors.Is(s, flow.ErrKind) {
		t.Errorf("a StageError's Unwrap is not its Err")
	}
	if x := (&flow.SyntaxError{At: 4}); x.Unwrap() != flow.ErrSyntax {
		t.Errorf("a SyntaxError's Unwrap is not ErrSyntax")
	}
	for _, part := range []string{"4", "take", own.Error()} {
		if !strings.Contains(s.Error(), part) {
			t.Errorf("a StageError's text %q lacks %q", s.Error(), part)
		}
	}
	if text := (&flow.SyntaxError{At: 77}).Error(); !strings.Contains(text, "77") {
		t.Errorf("a SyntaxError's text %q lacks its place", text)
	}
}
