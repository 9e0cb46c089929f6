package flow_test

import (
	"errors"
	"runtime"
	"slices"
	"strings"
	"sync"
	"testing"
	"time"

	"flowline/flow"
	"flowline/plain"
)

// allCases: specs and what RunAll answers of them with the same items; of those that are no lines nil.
func allCases() ([]flow.Item, []runCase) {
	in := vals(3, 1, 2, "x", 4)
	return in, []runCase{
		{"sort", nil, vals(1, 2, 3, 4, "x"), noFault},
		{"add 1", nil, vals(4, 2, 3), wrongKind(0, "add")},
		{"add", nil, nil, flow.Fault{E: 1, At: 3}},
		{"", nil, in, noFault},
		{"add 1", nil, vals(4, 2, 3), wrongKind(0, "add")},
		{"len", nil, vals(), wrongKind(0, "len")},
		{strings.Repeat("a", 121), nil, nil, flow.Fault{E: 2}},
		{strings.Repeat("even|", 12) + "even", nil, nil, flow.Fault{E: 3}},
		{"par 2(ints|fold sum)", nil, vals(9, 1), noFault},
		{"take 0", nil, vals(), noFault},
		{"sort", nil, vals(1, 2, 3, 4, "x"), noFault},
		{"both(words;both(len", nil, nil, flow.Fault{E: 1, At: 19}},
	}
}

func TestRunAll(t *testing.T) {
	in, cases := allCases()
	was := slices.Clone(in)
	var specs []string
	for _, c := range cases {
		specs = append(specs, c.spec)
	}
	for n := range len(specs) + 1 {
		asked := slices.Clone(specs[:n])
		wantNoneLeft(t, "RunAll", func() {
			outs, errs := flow.RunAll(asked, in)
			if len(outs) != n || len(errs) != n {
				t.Fatalf("P7: %d specs: %d answers, %d errors", n, len(outs), len(errs))
			}
			for i, c := range cases[:n] {
				if got := flow.Tell(errs[i]); got != c.fault || !slices.Equal(outs[i], c.out) || c.out == nil && outs[i] != nil {
					t.Errorf("P7: %q, the %d. of %d: %v, %+v, want %v, %+v", c.spec, i, n, outs[i], got, c.out, c.fault)
				}
			}
		})
		if !slices.Equal(asked, specs[:n]) || !slices.Equal(in, was) {
			t.Errorf("P1: an argument of RunAll was changed")
		}
	}
}

// TestRunAllAsRun asks for the errors that Parse and Run answer, by themselves.
func TestRunAllAsRun(t *testing.T) {
	long, many := strings.Repeat("x", 200), strings.Repeat("len|", 12)+"len"
	_, errs := flow.RunAll([]string{long, many, "x", "len", many + "|x"}, vals(1))
	var syntax *flow.SyntaxError
	var stage *flow.StageError
	switch {
	case errs[0] != flow.ErrLong, errs[1] != flow.ErrMany:
		t.Errorf("P7: %v, %v", errs[0], errs[1])
	case !errors.As(errs[2], &syntax) || errs[2] != error(syntax) || syntax.At != 0:
		t.Errorf("P7: %v", errs[2])
	case !errors.As(errs[3], &stage) || errs[3] != error(stage) || *stage != (flow.StageError{At: 0, Name: "len", Err: flow.ErrKind}):
		t.Errorf("P7: %v", errs[3])
	case flow.Tell(errs[4]) != (flow.Fault{E: 1, At: len(many) + 1}):
		t.Errorf("P7: %v", errs[4])
	}
}

func TestRunAllOfNothing(t *testing.T) {
	for _, specs := range [][]string{nil, {}} {
		if outs, errs := flow.RunAll(specs, vals(1, none)); len(outs) != 0 || len(errs) != 0 {
			t.Errorf("P7: no specs: %v, %v", outs, errs)
		}
	}
	for _, in := range [][]flow.Item{nil, {}} {
		outs, fs := plain.RunAll(allStages, in)
		for i, spec := range allStages {
			if len(outs[i]) != 0 || fs[i] != noFault {
				t.Errorf("P7: %q of nothing: %v, %+v", spec, outs[i], fs[i])
			}
		}
	}
	outs, fs := plain.RunAll([]string{"", "twice", "take 1", "take 2"}, vals(1, none, 2))
	for i, want := range []row{{vals(1), noItem}, {vals(1, 1), noItem}, {vals(1), noFault}, {vals(1), noItem}} {
		if !slices.Equal(outs[i], want.items) || fs[i] != want.fault {
			t.Errorf("P7: of no value: %v, %+v, want %v, %+v", outs[i], fs[i], want.items, want.fault)
		}
	}
}

// TestRunAllAnswersAreNew writes into each list of an answer: no other one, nor the argument, may change.
func TestRunAllAnswersAreNew(t *testing.T) {
	in := vals(1, 2, 3)
	outs, _ := flow.RunAll([]string{"", "", "sort", "par 2()"}, in)
	for i, out := range outs {
		if !slices.Equal(out, vals(1, 2, 3)) {
			t.Errorf("P1: list %d has changed with another one: %v", i, out)
		}
		for k := range out {
			out[k] = wrd("written")
		}
		_ = append(out, wrd("written"))
	}
	if !slices.Equal(in, vals(1, 2, 3)) {
		t.Errorf("P1: the argument has changed: %v", in)
	}
}

// TestRunAllSideBySide counts goroutines while long lines run: one after the other there would never be so many. It asks again, since the one that counts may have had no turn.
func TestRunAllSideBySide(t *testing.T) {
	specs := slices.Repeat([]string{strings.Repeat("twice|", 11) + "fold sum"}, 40)
	most := 0
	for range 10 {
		most = max(most, mostGoroutines(func() {
			outs, fs := plain.RunAll(specs, slices.Repeat(vals(2), 50))
			for i := range specs {
				if !slices.Equal(outs[i], vals(2*50*2048)) || fs[i] != noFault {
					t.Errorf("P7: answer %d: %v, %+v", i, outs[i], fs[i])
				}
			}
		}))
		if most > 100 {
			return
		}
	}
	t.Errorf("P7: at most %d goroutines for %d lines of 12 stages: they don't run side by side", most, len(specs))
}

// mostGoroutines looks every now and then how many goroutines a call has begun.
func mostGoroutines(call func()) int {
	ahead, most := runtime.NumGoroutine(), 0
	done := make(chan struct{})
	go func() {
		defer close(done)
		call()
	}()
	for {
		select {
		case <-done:
			return most
		case <-time.After(time.Millisecond):
			most = max(most, runtime.NumGoroutine()-ahead)
		}
	}
}

func TestRunAllOften(t *testing.T) {
	in, cases := allCases()
	var specs []string
	for _, c := range cases {
		specs = append(specs, c.spec)
	}
	var all sync.WaitGroup
	for range 50 {
		all.Go(func() {
			outs, fs := plain.RunAll(specs, in)
			for i, c := range cases {
				if !slices.Equal(outs[i], c.out) || fs[i] != c.fault {
					t.Errorf("P7: %q: %v, %+v, want %v, %+v", c.spec, outs[i], fs[i], c.out, c.fault)
				}
			}
		})
	}
	all.Wait()
}
