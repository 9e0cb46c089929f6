package flow_test

import (
	"errors"
	"fmt"
	"strings"
	"testing"
	"time"

	"flowline/flow"
	"flowline/plain"
)

// wraps is an error of a caller's own; its list makes it uncomparable.
type wraps struct {
	next error
	list []int
}

func (w wraps) Error() string { return "wraps" }
func (w wraps) Unwrap() error { return w.next }

// hostile is an error whose methods panic.
type hostile struct{}

func (hostile) Error() string { panic("Error") }
func (hostile) Unwrap() error { panic("Unwrap") }
func (hostile) Is(error) bool { panic("Is") }
func (hostile) As(any) bool   { panic("As") }

// endless is an error whose chain has no end; no two of its errors are the same.
type endless struct{ n int }

func (endless) Error() string   { return "endless" }
func (e endless) Unwrap() error { return endless{e.n + 1} }

// forked is an error that joins itself two times.
type forked struct{}

func (forked) Error() string   { return "forked" }
func (forked) Unwrap() []error { return []error{forked{}, forked{}} }

// forking is an error that joins two others, and so on; its list makes it uncomparable.
type forking struct{ list []int }

func (forking) Error() string   { return "forking" }
func (forking) Unwrap() []error { return []error{forking{}, forking{}} }

// twofold is an error that joins two others; to compare two of them takes as long as to go along all of their branches.
type twofold struct{ a, b error }

func (twofold) Error() string     { return "twofold" }
func (t twofold) Unwrap() []error { return []error{t.a, t.b} }

// joins is an error by which a joined error can lead back into itself.
type joins struct{ branches []error }

func (*joins) Error() string     { return "joins" }
func (j *joins) Unwrap() []error { return j.branches }

// points is an error of a caller's own that can stand in its own chain.
type points struct{ next error }

func (*points) Error() string   { return "points" }
func (p *points) Unwrap() error { return p.next }

func TestTell(t *testing.T) {
	stage := func(at int, name string, err error) error { return &flow.StageError{At: at, Name: name, Err: err} }
	var noStage *flow.StageError
	var noSyntax *flow.SyntaxError
	for i, c := range []struct {
		err  error
		want flow.Fault
	}{
		{nil, flow.Fault{}},
		{flow.ErrSyntax, flow.Fault{E: 1}},
		{flow.ErrLong, flow.Fault{E: 2}},
		{flow.ErrMany, flow.Fault{E: 3}},
		{flow.ErrKind, flow.Fault{E: 4}},
		{flow.ErrBig, flow.Fault{E: 5}},
		{flow.ErrPanic, flow.Fault{E: 6}},
		{flow.ErrNone, flow.Fault{E: 7}},
		{errors.New("no line"), flow.Fault{E: 8}},
		{&flow.SyntaxError{At: 9}, flow.Fault{E: 1, At: 9}},
		{&flow.SyntaxError{}, flow.Fault{E: 1}},
		{stage(2, "len", flow.ErrKind), flow.Fault{E: 4, At: 2, Name: "len"}},
		{stage(0, "dft", flow.ErrBig), flow.Fault{E: 5, At: 0, Name: "dft"}},
		{stage(-1, "", flow.ErrNone), flow.Fault{E: 7, At: -1}},
		{stage(-2, "through", flow.ErrPanic), flow.Fault{E: 6, At: -2, Name: "through"}},
		{stage(3, "own", nil), flow.Fault{E: 8, At: 3, Name: "own"}},
		{stage(3, "own", errors.New("x")), flow.Fault{E: 8, At: 3, Name: "own"}},
		{stage(3, "own", stage(1, "len", flow.ErrKind)), flow.Fault{E: 4, At: 3, Name: "own"}},
		{stage(3, "own", &flow.SyntaxError{At: 8}), flow.Fault{E: 1, At: 3, Name: "own"}},
		{stage(0, "", &flow.SyntaxError{At: 8}), flow.Fault{E: 1}},
		{wraps{next: stage(3, "own", wraps{next: flow.ErrMany})}, flow.Fault{E: 3, At: 3, Name: "own"}},
		{wraps{next: wraps{next: &flow.SyntaxError{At: 4}}}, flow.Fault{E: 1, At: 4}},
		{wraps{next: flow.ErrLong, list: []int{1}}, flow.Fault{E: 2}},
		{wraps{}, flow.Fault{E: 8}},
		{fmt.Errorf("more: %w", flow.ErrBig), flow.Fault{E: 5}},
		{noStage, flow.Fault{E: 8}},
		{wraps{next: noStage}, flow.Fault{E: 8}},
		{noSyntax, flow.Fault{E: 1}},
		{stage(5, "own", noStage), flow.Fault{E: 8, At: 5, Name: "own"}},
		{hostile{}, flow.Fault{E: 8}},
		{wraps{next: hostile{}}, flow.Fault{E: 8}},
		{stage(5, "own", hostile{}), flow.Fault{E: 8, At: 5, Name: "own"}},
	} {
		if got := flow.Tell(c.err); got != c.want {
			t.Errorf("P10: Tell of the %d-th error = %+v, want %+v", i, got, c.want)
		}
	}
	if !plain.Different() {
		t.Errorf("P10: the errors are not seven different ones")
	}
}

// holds is an error of a caller's own that can be compared: it takes as long as its chain is.
type holds struct{ next error }

func (h holds) Error() string { return "holds" }
func (h holds) Unwrap() error { return h.next }

func TestTellOfLongChains(t *testing.T) {
	for _, length := range []int{1, 2, 3, 100, 1<<20 - 1, 1 << 20, 1<<20 + 1, 1<<22 + 7} {
		own := error(&flow.StageError{At: 1, Name: "len", Err: flow.ErrKind})
		held := own
		stages := error(&flow.SyntaxError{At: 5})
		for at := range length {
			own = wraps{next: own}
			held = holds{next: held}
			stages = &flow.StageError{At: at, Name: "add", Err: stages}
		}
		if got := flow.Tell(own); got != (flow.Fault{E: 4, At: 1, Name: "len"}) {
			t.Errorf("P10: Tell of a chain of %d own errors = %+v", length, got)
		}
		if got := flow.Tell(held); got != (flow.Fault{E: 4, At: 1, Name: "len"}) {
			t.Errorf("P10: Tell of a chain of %d comparable errors = %+v", length, got)
		}
		if got := flow.Tell(stages); got != (flow.Fault{E: 1, At: length - 1, Name: "add"}) {
			t.Errorf("P10: Tell of a chain of %d StageErrors = %+v", length, got)
		}
	}
}

// TestTellOfRounds makes chains that lead back into themselves: a way into the circle, and the circle, of every length up to some.
func TestTellOfRounds(t *testing.T) {
	for ahead := range 6 {
		for round := 1; round < 9; round++ {
			for place := range ahead + round {
				err, want := chainRound(ahead, round, place)
				withinTime(t, "Tell of a round", func() {
					if got := flow.Tell(err); got != want {
						t.Errorf("P10: Tell of %d errors, then %d in a round, a StageError at %d = %+v, want %+v", ahead, round, place, got, want)
					}
				})
			}
		}
	}
}

// chainRound makes a chain whose error at place is a StageError, and so are all behind it; those ahead are of a caller's own.
func chainRound(ahead, round, place int) (error, flow.Fault) {
	var list []error
	for i := range ahead + round {
		if i < place {
			list = append(list, &points{})
		} else {
			list = append(list, &flow.StageError{At: i + 1, Name: "turn"})
		}
	}
	for i, err := range list {
		next := list[ahead]
		if i+1 < len(list) {
			next = list[i+1]
		}
		switch e := err.(type) {
		case *points:
			e.next = next
		case *flow.StageError:
			e.Err = next
		}
	}
	return list[0], flow.Fault{E: 8, At: place + 1, Name: "turn"}
}

func TestTellOfJoinedErrors(t *testing.T) {
	stage := &flow.StageError{At: 4, Name: "sum", Err: flow.ErrBig}
	itself := &joins{}
	itself.branches = []error{itself, nil, wraps{next: itself}, stage}
	often := errors.Join(flow.ErrNone)
	for range 100 {
		often = errors.Join(often, often)
	}
	for name, c := range map[string]struct {
		err  error
		want flow.Fault
	}{
		"two":                       {errors.Join(errors.New("x"), stage), flow.Fault{E: 5, At: 4, Name: "sum"}},
		"two stages":                {errors.Join(stage, &flow.StageError{At: 1, Name: "len"}), flow.Fault{E: 5, At: 4, Name: "sum"}},
		"a stage behind a text":     {errors.Join(&flow.SyntaxError{At: 3}, stage), flow.Fault{E: 1, At: 4, Name: "sum"}},
		"within one that is joined": {wraps{next: errors.Join(wraps{next: errors.Join(stage)})}, flow.Fault{E: 5, At: 4, Name: "sum"}},
		"one that joins itself":     {itself, flow.Fault{E: 5, At: 4, Name: "sum"}},
		"one joined again, again":   {often, flow.Fault{E: 7}},
		"nothing":                   {&joins{}, flow.Fault{E: 8}},
	} {
		withinTime(t, "Tell of joined errors: "+name, func() {
			if got := flow.Tell(c.err); got != c.want {
				t.Errorf("P10: Tell of joined errors: %s: %+v, want %+v", name, got, c.want)
			}
		})
	}
}

func TestTellOfParsesErrors(t *testing.T) {
	for spec, want := range map[string]flow.Fault{
		"even":                             {},
		"even|add 1000":                    {E: 1, At: 12},
		"":                                 {},
		"x":                                {E: 1},
		strings.Repeat("x", 121):           {E: 2},
		strings.Repeat("dft|", 15) + "dft": {E: 3},
	} {
		if l, got := plain.Parse(spec); got != want || (l == nil) != (want.E != 0) {
			t.Errorf("P10: Tell of the error of Parse(%q) = %+v, want %+v", spec, got, want)
		}
	}
}

// withinTime fails a test in which a call does not end.
func withinTime(t *testing.T, name string, call func()) {
	t.Helper()
	done := make(chan struct{})
	go func() {
		defer close(done)
		call()
	}()
	select {
	case <-done:
	case <-time.After(3 * time.Minute):
		t.Fatalf("P1: %s does not end", name)
	}
}

func TestTellEnds(t *testing.T) {
	stage := func(err error) error { return &flow.StageError{At: 1, Name: "own", Err: err} }
	place := flow.Fault{E: 8, At: 1, Name: "own"}
	loop := &flow.StageError{At: 1, Name: "own"}
	loop.Err = wraps{next: loop}
	circle := &points{next: &points{}}
	circle.next = &points{next: circle}
	manifold := twofold{}
	for range 100 {
		manifold = twofold{manifold, manifold}
	}
	for name, c := range map[string]struct {
		err  error
		want flow.Fault
	}{
		"a loop":                     {loop, place},
		"a loop of own errors":       {circle, flow.Fault{E: 8}},
		"one of many in one":         {manifold, flow.Fault{E: 8}},
		"an endless chain":           {stage(endless{}), place},
		"an endless fork":            {forked{}, flow.Fault{E: 8}},
		"an endless fork of others":  {forking{}, flow.Fault{E: 8}},
		"a stage ahead of a fork":    {stage(forking{}), place},
		"an error that joins a fork": {errors.Join(stage(flow.ErrKind), forking{}), flow.Fault{E: 4, At: 1, Name: "own"}},
	} {
		withinTime(t, "Tell of "+name, func() {
			if f := flow.Tell(c.err); f != c.want {
				t.Errorf("P10: Tell of %s = %+v, want %+v", name, f, c.want)
			}
		})
	}
}

func TestErrorsTextEnds(t *testing.T) {
	loop := &flow.StageError{At: 31, Name: "loop"}
	loop.Err = &flow.StageError{At: 30, Name: "loop", Err: loop}
	withinTime(t, "Error of a loop", func() {
		if text := loop.Error(); !strings.Contains(text, "31") {
			t.Errorf("the text of a loop: %q", text)
		}
	})
	joined := &flow.StageError{At: 32, Name: "loop"}
	for _, err := range []error{errors.Join(errors.New("x"), joined), errors.Join(joined, errors.New("x"))} {
		joined.Err = err
		withinTime(t, "Error of a joined loop", func() {
			if text := joined.Error(); !strings.Contains(text, "32") {
				t.Errorf("the text of a joined loop: %q", text)
			}
		})
	}
	var long error = &flow.SyntaxError{At: 77}
	for range 1 << 18 {
		long = &flow.StageError{At: 5, Name: "even", Err: long}
	}
	withinTime(t, "Error of a long chain", func() {
		if text := long.Error(); !strings.HasSuffix(text, "77") || strings.Count(text, "even") != 1<<18 {
			t.Errorf("the text of a long chain has %d bytes", len(text))
		}
	})
}

func TestErrorsAsValues(t *testing.T) {
	own := errors.New("a function's own")
	s := &flow.StageError{At: 4, Name: "take", Err: own}
	if s.Unwrap() != own || !errors.Is(s, own) || errors.Is(s, flow.ErrKind) {
		t.Errorf("a StageError's Unwrap is not its Err")
	}
	if x := (&flow.SyntaxError{At: 4}); x.Unwrap() != flow.ErrSyntax {
		t.Errorf("a SyntaxError's Unwrap is not ErrSyntax")
	}
	for _, part := range []string{"4", "take", own.Error()} {
		if !strings.Contains(s.Error(), part) {
			t.Errorf("a StageError's text %q lacks %q", s.Error(), part)
		}
	}
	if text := (&flow.SyntaxError{At: 77}).Error(); !strings.Contains(text, "77") {
		t.Errorf("a SyntaxError's text %q lacks its place", text)
	}
}
