package flow

import (
	"sync/atomic"
	"testing"
	"time"
)

// ownStage is a stage of a test's own.
type ownStage struct {
	mark
	f func(in <-chan parcel, out chan<- parcel)
}

func (s *ownStage) run(_ *crew, in <-chan parcel, out chan<- parcel) { s.f(in, out) }

func threeNumbers() stream { return stream{values: []value{number(1), number(2), number(3)}} }

// TestStagesWorkSideBySide has one stage wait for what the one behind it takes: one after the other they would never end.
func TestStagesWorkSideBySide(t *testing.T) {
	taken := make(chan value)
	ahead := &ownStage{f: func(in <-chan parcel, out chan<- parcel) {
		for p := range in {
			out <- p
			select {
			case v := <-taken:
				if v != p.v {
					t.Errorf("P3: %v taken in place of %v", v, p.v)
				}
			case <-time.After(time.Minute):
				t.Errorf("P3: the stage behind has taken nothing")
				return
			}
		}
	}}
	behind := &ownStage{f: func(in <-chan parcel, out chan<- parcel) {
		for p := range in {
			taken <- p.v
			out <- p
		}
	}}
	n := 0
	flowThrough([]stage{ahead, behind}, threeNumbers(), func(Item, error) bool {
		n++
		return true
	})
	if n != 3 {
		t.Errorf("P3: %d values came out", n)
	}
}

// TestAnswersBehindItsGoroutines has a stage that is slow to end: whatever the loop does, it is over only behind that.
func TestAnswersBehindItsGoroutines(t *testing.T) {
	for name, c := range map[string]struct {
		rest  []stage
		yield func(Item, error) bool
	}{
		"a whole loop":           {nil, func(Item, error) bool { return true }},
		"a loop that ends":       {nil, func(Item, error) bool { return false }},
		"a loop that panics":     {nil, func(Item, error) bool { panic("own") }},
		"a stage that takes":     {[]stage{&takeStage{k: 0}}, func(Item, error) bool { return true }},
		"a stage that fails":     {[]stage{&simpleStage{mark: mark{name: "len"}}}, func(Item, error) bool { return true }},
		"lines that fail":        {[]stage{&bothStage{first: []stage{&simpleStage{mark: mark{name: "len"}}}}}, func(Item, error) bool { return true }},
		"lines that take":        {[]stage{&parStage{k: 2, inner: []stage{&takeStage{k: 0}}}}, func(Item, error) bool { return false }},
		"a take behind a line":   {[]stage{&parStage{k: 2}, &takeStage{k: 1}}, func(Item, error) bool { return true }},
		"a take ahead of a fold": {[]stage{&takeStage{k: 1}, &foldStage{how: "max"}}, func(Item, error) bool { return true }},
	} {
		var ended atomic.Bool
		slow := &ownStage{f: func(in <-chan parcel, out chan<- parcel) {
			for p := range in {
				out <- p
			}
			time.Sleep(30 * time.Millisecond)
			ended.Store(true)
		}}
		func() {
			defer func() { _ = recover() }()
			flowThrough(append([]stage{slow}, c.rest...), threeNumbers(), c.yield)
		}()
		if !ended.Load() {
			t.Errorf("P1: %s: over ahead of its goroutines", name)
		}
	}
}

// TestStagesSeeAll: what a stage gets does not hang on what those behind it take.
func TestStagesSeeAll(t *testing.T) {
	for _, k := range []int{0, 1, 2, 99} {
		seen := 0
		counts := &ownStage{f: func(in <-chan parcel, out chan<- parcel) {
			for p := range in {
				seen++
				out <- p
			}
		}}
		s := stream{values: make([]value, 1000)}
		for i := range s.values {
			s.values[i] = number(i)
		}
		flowThrough([]stage{counts, &takeStage{k: k}}, s, func(Item, error) bool { return false })
		if seen != 1000 {
			t.Errorf("P1: ahead of take %d a stage gets %d values of 1000", k, seen)
		}
	}
}

// TestTableIsWhole: run relies on it that every name with a K, or with nothing, has its row in the stages' table.
func TestTableIsWhole(t *testing.T) {
	for _, p := range patterns {
		if p.form != formBare && p.form != formK || p.name == "take" {
			continue
		}
		if beginOf(p.name, 1).each == nil {
			t.Errorf("%s: no row in the stages' table", p.name)
		}
	}
}
