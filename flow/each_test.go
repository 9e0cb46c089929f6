package flow_test

import (
	"iter"
	"runtime"
	"slices"
	"sync"
	"testing"
	"time"

	"flowline/flow"
	"flowline/plain"
)

// wantNoneLeft asks that as many goroutines run behind a call as ahead of it. It waits a little: one that has done all may not be gone yet.
func wantNoneLeft(t *testing.T, name string, call func()) {
	t.Helper()
	ahead := runtime.NumGoroutine()
	call()
	for range 500 {
		if runtime.NumGoroutine() <= ahead {
			return
		}
		time.Sleep(10 * time.Millisecond)
	}
	t.Errorf("P1: %s leaves %d goroutines", name, runtime.NumGoroutine()-ahead)
}

// loopLines: lines and inputs, with errors and without, for loops that end early.
func loopLines() []runCase {
	in := vals(1, 2, 3, 4, 5, 6, "x", 7)
	return []runCase{
		{"", in, in, noFault},
		{"", vals(1, none), vals(1), noItem},
		{"", nil, nil, noFault},
		{"add 1|twice", in, vals(2, 2, 3, 3, 4, 4, 5, 5, 6, 6, 7, 7), wrongKind(0, "add")},
		{"len", vals(1), nil, wrongKind(0, "len")},
		{"ints|sort|add 1", in, vals(2, 3, 4, 5, 6, 7, 8), noFault},
		{"both(ints;add 1|fold sum)", in, vals(1), wrongKind(2, "add")},
		{"par 3(both(;twice))|take 7", in, vals(1, 2, 3, 1, 2, 3, 4), noFault},
		{"dft", vals(1+0i, 2+0i, 3+0i, 4+0i, big+0i, big+0i), vals(10+0i, -2+2i, -2+0i, -2-2i), tooBig(0, "dft")},
	}
}

func TestEachEndsEarly(t *testing.T) {
	for _, c := range loopLines() {
		l := wantLine(t, c.spec)
		for n := 1; n <= len(c.out)+2; n++ {
			want, fault := c.out, c.fault
			if n <= len(c.out) {
				want, fault = c.out[:n], noFault
			}
			wantNoneLeft(t, "a loop that ends early", func() {
				got, f, odd := plain.Loop(l, c.in, n)
				if !slices.Equal(got, want) || f != fault || odd != 0 {
					t.Errorf("P4: %q of %v, left behind %d: %v, %+v, want %v, %+v; odd %d", c.spec, c.in, n, got, f, want, fault, odd)
				}
			})
		}
	}
}

func TestEachAgain(t *testing.T) {
	for _, c := range loopLines() {
		in := slices.Clone(c.in)
		loop := wantLine(t, c.spec).Each(in)
		for i := range in {
			in[i] = none
		}
		for round := range 4 {
			wantLoop(t, c, loop)
			for _, err := range loop {
				if err != nil || round%2 == 0 {
					break
				}
			}
		}
	}
}

// wantLoop asks that a loop gives all of a case's answer: values with nil errors, and the error behind them with an item of zeros.
func wantLoop(t *testing.T, c runCase, loop func(func(flow.Item, error) bool)) {
	t.Helper()
	var got []flow.Item
	var errs []error
	for i, err := range loop {
		switch {
		case err == nil && len(errs) == 0:
			got = append(got, i)
		case err != nil && i == flow.Item{}:
			errs = append(errs, err)
		default:
			t.Errorf("P4: the loop over %q gives %v, %v", c.spec, i, err)
		}
	}
	fault := noFault
	if len(errs) > 0 {
		fault = flow.Tell(errs[0])
	}
	if !slices.Equal(got, c.out) || fault != c.fault || len(errs) > 1 {
		t.Errorf("P4: the loop over %q gives %v, %v, want %v, %+v", c.spec, got, errs, c.out, c.fault)
	}
}

func TestEachWithinItself(t *testing.T) {
	l := wantLine(t, "add 1|both(twice;)")
	loop := l.Each(vals(1, 2))
	want := vals(2, 2, 2, 3, 3, 3)
	n := 0
	for range loop {
		n++
		wantLoop(t, runCase{"add 1|both(twice;)", nil, want, noFault}, loop)
		if out, err := l.Run(vals(1, 2)); err != nil || !slices.Equal(out, want) {
			t.Errorf("P4: Run within a loop: %v, %v", out, err)
		}
	}
	if n != len(want) {
		t.Errorf("P4: %d rounds, want %d", n, len(want))
	}
}

func TestEachSideBySide(t *testing.T) {
	for _, c := range loopLines() {
		loop := wantLine(t, c.spec).Each(c.in)
		var all sync.WaitGroup
		for range 20 {
			all.Go(func() { wantLoop(t, c, loop) })
		}
		all.Wait()
	}
}

func TestEachPulled(t *testing.T) {
	wantNoneLeft(t, "a loop that is pulled", func() {
		next, stop := iter.Pull2(iter.Seq2[flow.Item, error](wantLine(t, "twice").Each(vals(1, 2))))
		for range 3 {
			if _, err, ok := next(); err != nil || !ok {
				t.Errorf("P4: the loop ends early: %v", err)
			}
		}
		stop()
		if _, _, ok := next(); ok {
			t.Errorf("P4: a loop that was stopped goes on")
		}
	})
}

// TestEachWithAPanic: what the loop's body throws goes to the caller, and no goroutine stays behind.
func TestEachWithAPanic(t *testing.T) {
	for _, c := range loopLines() {
		loop := wantLine(t, c.spec).Each(c.in)
		rounds := len(c.out)
		if c.fault != noFault {
			rounds++
		}
		for at := range rounds {
			wantNoneLeft(t, "a loop that panics", func() {
				thrown := caught(func() {
					n := 0
					for range loop {
						if n == at {
							panic("a body's own")
						}
						n++
					}
				})
				if thrown != "a body's own" {
					t.Errorf("P1: a body's panic at %d came out as %v", at, thrown)
				}
			})
		}
		wantLoop(t, c, loop)
	}
}

func caught(call func()) (thrown any) {
	defer func() { thrown = recover() }()
	call()
	return nil
}

func TestEachWithAGoexit(t *testing.T) {
	wantNoneLeft(t, "a loop whose goroutine ends", func() {
		done := make(chan struct{})
		go func() {
			defer close(done)
			for range wantLine(t, "twice|sort").Each(vals(1, 2, 3)) {
				runtime.Goexit()
			}
		}()
		<-done
	})
}

func TestRunLeavesNoGoroutine(t *testing.T) {
	for _, spec := range allStages {
		for _, tail := range []string{"", "|take 0", "|take 1", "|len", "|spin 1", "|sum 9"} {
			l, err := flow.Parse(spec + tail)
			if err != nil {
				continue
			}
			for _, in := range [][]flow.Item{nil, vals(none), vals(1, 2, 3), vals("a", "b", none), vals(1i, "x", 2), vals(1, 2, 3, 4, none, 5)} {
				wantNoneLeft(t, "Run of "+l.String(), func() { l.Run(in) })
			}
		}
	}
}
