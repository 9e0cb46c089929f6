package flow_test

import (
	"slices"
	"strings"
	"sync"
	"testing"

	"flowline/flow"
)

// TestNoCallPanics calls what is built with what a caller may have by mistake.
func TestNoCallPanics(t *testing.T) {
	var none *flow.Line
	var noCounted *flow.Counted
	var noStage *flow.StageError
	var noSyntax *flow.SyntaxError
	for name, call := range map[string]func(){
		"String of no line":       func() { _ = none.String() },
		"Names of no line":        func() { none.Names() },
		"Stages of no line":       func() { none.Stages() },
		"String of a zero line":   func() { _ = (&flow.Line{}).String() },
		"Names of a zero line":    func() { (&flow.Line{}).Names() },
		"Stages of a zero line":   func() { (&flow.Line{}).Stages() },
		"Run of no line":          func() { none.Run([]flow.Item{{Kind: 1}, {Kind: 9}}) },
		"Run of a zero line":      func() { (&flow.Line{}).Run(nil) },
		"Each of no line":         func() { none.Each([]flow.Item{{Kind: 9}})(func(flow.Item, error) bool { return true }) },
		"Each without a body":     func() { (&flow.Line{}).Each(make([]flow.Item, 3))(nil) },
		"Through of no line":      func() { none.Through([]flow.Item{{}}, func(flow.Item) bool { panic("own") }) },
		"Through with nothing":    func() { (&flow.Line{}).Through([]flow.Item{{}, {Kind: 9}}, nil) },
		"Then of no line":         func() { none.Then("", nil).Run([]flow.Item{{}, {Kind: 9}}) },
		"Then of a zero line":     func() { (&flow.Line{}).Then("x", nil).Then("", nil).Names() },
		"RunAll of nothing":       func() { flow.RunAll(nil, nil) },
		"RunAll of no lines":      func() { flow.RunAll([]string{"", "(", "\xff"}, []flow.Item{{Kind: -1}}) },
		"Count of no line":        func() { flow.Count(nil).Run([]flow.Item{{}}) },
		"a Counted of no line":    func() { _ = flow.Count(nil).Then("x", nil).String() },
		"Run of no Counted":       func() { noCounted.Run([]flow.Item{{}, {Kind: 9}}) },
		"Seen of no Counted":      func() { noCounted.Seen() },
		"Run of a zero Counted":   func() { (&flow.Counted{}).Run([]flow.Item{{}}) },
		"Error of no StageError":  func() { _ = noStage.Error() },
		"Unwrap of no StageError": func() { _ = noStage.Unwrap() },
		"Error of no SyntaxError": func() { _ = noSyntax.Error() },
		"Error without an error":  func() { _ = (&flow.StageError{}).Error() },
		"Error of a hostile one":  func() { _ = (&flow.StageError{Err: hostile{}}).Error() },
		"Tell of a hostile one":   func() { flow.Tell(hostile{}) },
	} {
		func() {
			defer func() {
				if p := recover(); p != nil {
					t.Errorf("P1: %s panics: %v", name, p)
				}
			}()
			call()
		}()
	}
}

func TestAnswersAreNew(t *testing.T) {
	l := wantLine(t, "both(len;turn)|sort")
	for range 2 {
		names, stages := l.Names(), l.Stages()
		if strings.Join(names, " ") != "both len turn sort" || len(stages) != 4 || stages[3].Name() != "sort" {
			t.Fatalf("P1: an answer was changed: %q", names)
		}
		clear(names)
		clear(stages)
		_ = append(names[:1], "x")
		_ = append(stages[:1], nil)
	}
}

// TestSideBySide asks one line from many goroutines; go test -race sees more.
func TestSideBySide(t *testing.T) {
	l := wantLine(t, "par 2(add 1|both(even;sum 2))")
	want := []string{"par", "add", "both", "even", "sum"}
	var all sync.WaitGroup
	for range 20 {
		all.Go(func() {
			if !slices.Equal(l.Names(), want) || l.Stages()[4].At() != 4 || l.String() == "" {
				t.Errorf("P1: another answer side by side")
			}
		})
	}
	all.Wait()
}
