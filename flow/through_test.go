package flow_test

import (
	"errors"
	"runtime"
	"slices"
	"sync"
	"testing"

	"flowline/flow"
	"flowline/plain"
)

var throughPanicked = flow.Fault{E: 6, At: -2, Name: "through"}

// TestThrough has a function that answers false, or panics, at each of its calls, and at none.
func TestThrough(t *testing.T) {
	for _, c := range loopLines() {
		l := wantLine(t, c.spec)
		for at := 0; at <= len(c.out)+1; at++ {
			for _, throws := range []bool{false, true} {
				want, fault := c.out, c.fault
				if at > 0 && at <= len(c.out) {
					want, fault = c.out[:at], noFault
					if throws {
						fault = throughPanicked
					}
				}
				wantNoneLeft(t, "Through", func() {
					got, f := plain.Through(l, c.in, at, throws)
					if !slices.Equal(got, want) || f != fault {
						t.Errorf("P5: %q of %v, at call %d (a panic: %v): %v, %+v, want %v, %+v", c.spec, c.in, at, throws, got, f, want, fault)
					}
				})
			}
		}
	}
}

// TestThroughAheadOfAnError: an error behind the values that were asked for shows nowhere.
func TestThroughAheadOfAnError(t *testing.T) {
	for _, c := range []runCase{
		{"", vals(1, 2, none), vals(1, 2), noItem},
		{"add 1", vals(1, 2, "x"), vals(2, 3), wrongKind(0, "add")},
		{"dft", vals(big+0i, 0i, -big+0i), vals(0i), tooBig(0, "dft")},
		{"both(even;add 1)", vals(1, 2, "x"), vals(2, 2), wrongKind(1, "even")},
	} {
		l := wantLine(t, c.spec)
		for at := range c.out {
			if _, f := plain.Through(l, c.in, at+1, false); f != noFault {
				t.Errorf("P5: %q of %v, false at call %d: %+v", c.spec, c.in, at+1, f)
			}
		}
		if got, f := plain.Through(l, c.in, 0, false); f != c.fault || !slices.Equal(got, c.out) {
			t.Errorf("P5: %q of %v: %v, %+v", c.spec, c.in, got, f)
		}
	}
}

// TestThroughPanics: whatever is thrown, the error is the same, by itself and not wrapped.
func TestThroughPanics(t *testing.T) {
	var noMap map[int]int
	for name, f := range map[string]func(flow.Item) bool{
		"a text":          func(flow.Item) bool { panic("own") },
		"an error":        func(flow.Item) bool { panic(flow.ErrKind) },
		"a StageError":    func(flow.Item) bool { panic(&flow.StageError{At: 5, Err: flow.ErrBig}) },
		"a hostile error": func(flow.Item) bool { panic(hostile{}) },
		"nil":             func(flow.Item) bool { panic(nil) },
		"a runtime error": func(i flow.Item) bool { noMap[1] = 1; return true },
		"no function":     nil,
	} {
		err := wantLine(t, "add 1").Through(vals(1, 2, "x"), f)
		var s *flow.StageError
		if !errors.As(err, &s) || err != error(s) || *s != (flow.StageError{At: -2, Name: "through", Err: flow.ErrPanic}) {
			t.Errorf("P5: a panic with %s: %v", name, err)
		}
	}
}

func TestThroughWithoutCalls(t *testing.T) {
	never := func(flow.Item) bool { panic("never") }
	for _, c := range []runCase{
		{"", nil, nil, noFault},
		{"take 0", vals(1, none), nil, noFault},
		{"even", vals(1, 3), nil, noFault},
		{"", vals(none, 1), nil, noItem},
		{"len", vals(1), nil, wrongKind(0, "len")},
		{"sort", vals(1, none), nil, noItem},
	} {
		l := wantLine(t, c.spec)
		for _, f := range []func(flow.Item) bool{never, nil} {
			if got := flow.Tell(l.Through(c.in, f)); got != c.fault {
				t.Errorf("P5: %q of %v: %+v, want %+v", c.spec, c.in, got, c.fault)
			}
		}
	}
}

func TestThroughReadsItsArgument(t *testing.T) {
	in := vals(1, 2, flow.Item{N: 3, S: "beside", Re: 1 << 60})
	was := slices.Clone(in)
	var got []flow.Item
	if err := wantLine(t, "").Through(in, func(i flow.Item) bool {
		got = append(got, i)
		return true
	}); err != nil || !slices.Equal(got, vals(1, 2, 3)) || !slices.Equal(in, was) {
		t.Errorf("P5: %v, %v; the argument: %v", got, err, in)
	}
	got = nil
	if err := wantLine(t, "").Through(in, func(i flow.Item) bool {
		clear(in)
		got = append(got, i)
		return true
	}); err != nil || !slices.Equal(got, vals(1, 2, 3)) {
		t.Errorf("P5: a function that changes the list: %v, %v", got, err)
	}
}

func TestThroughWithinItself(t *testing.T) {
	l := wantLine(t, "add 1|twice")
	n := 0
	err := l.Through(vals(1, 2), func(flow.Item) bool {
		inner := l.Through(vals(1, "x"), func(flow.Item) bool {
			n++
			return true
		})
		if flow.Tell(inner) != wrongKind(0, "add") {
			t.Errorf("P5: within itself: %v", inner)
		}
		return true
	})
	if err != nil || n != 8 {
		t.Errorf("P5: %v, %d calls, want 8", err, n)
	}
}

func TestThroughSideBySide(t *testing.T) {
	for _, c := range loopLines() {
		l := wantLine(t, c.spec)
		var all sync.WaitGroup
		for at := range 20 {
			all.Go(func() {
				want, fault := c.out, c.fault
				if at > 0 && at <= len(c.out) {
					want, fault = c.out[:at], throughPanicked
				}
				if got, f := plain.Through(l, c.in, at, true); !slices.Equal(got, want) || f != fault {
					t.Errorf("P5: %q side by side: %v, %+v, want %v, %+v", c.spec, got, f, want, fault)
				}
			})
		}
		all.Wait()
	}
}

func TestThroughWithAGoexit(t *testing.T) {
	wantNoneLeft(t, "Through whose goroutine ends", func() {
		done := make(chan struct{})
		go func() {
			defer close(done)
			wantLine(t, "twice|sort").Through(vals(1, 2, 3), func(flow.Item) bool {
				runtime.Goexit()
				return true
			})
		}()
		<-done
	})
}
