package flow_test

import (
	"maps"
	"slices"
	"testing"

	"flowline/flow"
	"flowline/plain"
)

func TestFold(t *testing.T) {
	minus := func(a, n int) int { return a - n }
	if got := flow.Fold([]int{1, 2, 3}, 10, minus); got != 4 {
		t.Errorf("P9: Fold = %d", got)
	}
	if got := flow.Fold([]int{}, 10, minus); got != 10 {
		t.Errorf("P9: Fold of an empty list = %d", got)
	}
	if got := plain.Folded([]int{'a', 'c', 'b'}); got != "acb" {
		t.Errorf("P9: Fold goes in another order: %q", got)
	}
	pairs := flow.Fold([]string{"x", "yy"}, nil, func(a []int, s string) []int { return append(a, len(s)) })
	if !slices.Equal(pairs, []int{1, 2}) {
		t.Errorf("P9: Fold into a list = %v", pairs)
	}
	if got := flow.Fold([]int{1}, 10, nil); got != 10 {
		t.Errorf("P1: Fold without a function = %d", got)
	}
}

func TestKeep(t *testing.T) {
	l := []int{5, 2, 9, 2, 4}
	even := func(n int) bool { return n%2 == 0 }
	kept := flow.Keep(l, even)
	if !slices.Equal(kept, []int{2, 2, 4}) {
		t.Errorf("P9: Keep = %v", kept)
	}
	all := flow.Keep(l, func(int) bool { return true })
	if !slices.Equal(all, l) {
		t.Errorf("P9: Keep of all = %v", all)
	}
	all[0] = 100
	_ = append(all[:1], 200)
	if !slices.Equal(l, []int{5, 2, 9, 2, 4}) {
		t.Errorf("P1: what Keep answers shares the list that it was given: %v", l)
	}
	if got := flow.Keep(l, func(int) bool { return false }); len(got) != 0 {
		t.Errorf("P9: Keep of none = %v", got)
	}
	if got := flow.Keep(nil, even); len(got) != 0 {
		t.Errorf("P9: Keep of nothing = %v", got)
	}
	if got := flow.Keep(l, nil); len(got) != 0 {
		t.Errorf("P1: Keep without a function = %v", got)
	}
	if got := plain.Kept([]string{"a", "bbb", "", "cc"}, 1); !slices.Equal(got, []string{"bbb", "cc"}) {
		t.Errorf("P9: Keep of words = %q", got)
	}
}

func TestTally(t *testing.T) {
	l := []string{"b", "a", "b", "", "b"}
	m := flow.Tally(l)
	if !maps.Equal(m, map[string]int{"a": 1, "b": 3, "": 1}) {
		t.Errorf("P9: Tally = %v", m)
	}
	m["a"] = 100
	if n := flow.Tally(l)["a"]; n != 1 {
		t.Errorf("P1: two Tallies share a map: %d", n)
	}
	if m := flow.Tally[int](nil); m == nil || len(m) != 0 {
		t.Errorf("P9: Tally of nothing = %v", m)
	}
	keys, ns := plain.Tallied([]flow.Item{{N: 1}, {Kind: 1, S: "x"}, {N: 1}, {Kind: 2, Re: 1}})
	if len(keys) != 3 || !slices.Equal(ns, []int{2, 1, 1}) {
		t.Errorf("P9: Tally of items = %v, %v", keys, ns)
	}
	if m := flow.Tally([]any{1, []int{2}, "x", 1, map[int]int{}}); len(m) != 2 || m[1] != 2 || m["x"] != 1 {
		t.Errorf("P1: Tally of values that can't all be keys = %v", m)
	}
}

// TestPanicsOfFunctions: Fold and Keep let a panic of the function by.
func TestPanicsOfFunctions(t *testing.T) {
	for name, call := range map[string]func(){
		"Fold": func() { flow.Fold([]int{1}, 0, func(int, int) int { panic("own") }) },
		"Keep": func() { flow.Keep([]int{1}, func(int) bool { panic("own") }) },
	} {
		func() {
			defer func() {
				if recover() != "own" {
					t.Errorf("P1: %s hides a panic of its function", name)
				}
			}()
			call()
		}()
	}
}
