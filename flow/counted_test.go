package flow_test

import (
	"slices"
	"sync"
	"testing"

	"flowline/flow"
	"flowline/plain"
)

// wantSeen asks how many values a Counted has seen.
func wantSeen(t *testing.T, what string, c *flow.Counted, want int) {
	t.Helper()
	for range 2 {
		if got := c.Seen(); got != want {
			t.Errorf("P8: %s: Seen() = %d, want %d", what, got, want)
		}
	}
}

// TestCountedRun: its Run is the line's, errors and all, and what stands ahead of an error counts.
func TestCountedRun(t *testing.T) {
	for _, c := range loopLines() {
		l := wantLine(t, c.spec)
		counted := flow.Count(l)
		wantSeen(t, "a new one", counted, 0)
		for n := 1; n < 4; n++ {
			wantNoneLeft(t, "Run of a Counted", func() {
				out, err := counted.Run(c.in)
				if !slices.Equal(out, c.out) || flow.Tell(err) != c.fault {
					t.Errorf("P8: %q of %v = %v, %v, want %v, %+v", c.spec, c.in, out, err, c.out, c.fault)
				}
			})
			wantSeen(t, c.spec, counted, n*len(c.out))
		}
	}
}

func TestCountedOfOneLine(t *testing.T) {
	l := wantLine(t, "add 1")
	a, b := flow.Count(l), flow.Count(l)
	a.Run(vals(1, 2, 3))
	b.Run(vals(1, "x"))
	l.Run(vals(1, 2, 3, 4, 5))
	wantSeen(t, "the first", a, 3)
	wantSeen(t, "the second", b, 1)
	run := a.Run
	run(nil)
	run(vals("x"))
	run(vals(none))
	wantSeen(t, "Runs without values", a, 3)
	run(vals(1, none))
	wantSeen(t, "a Run that ends with no value", a, 4)
	wantSeen(t, "the second, behind the first one's", b, 1)
	seen, outs, text := plain.Counted(l, vals(1, 2, "x"), 3)
	if !slices.Equal(seen, []int{0, 2, 4, 6}) || len(outs) != 3 || !slices.Equal(outs[2], vals(2, 3)) || text != "add 1" {
		t.Errorf("P8: %v, %v, %q", seen, outs, text)
	}
}

// TestCountedIsItsLine: all but Run is the line's, and counts nothing.
func TestCountedIsItsLine(t *testing.T) {
	spec := "both(even;add 1)|twice"
	l := wantLine(t, spec)
	c := flow.Count(l)
	in := vals(1, 2, "x")
	want := row{vals(2, 2, 2, 2), wrongKind(1, "even")}
	if c.Line != l || c.String() != spec || !slices.Equal(c.Names(), l.Names()) || !slices.Equal(c.Stages(), l.Stages()) {
		t.Errorf("P8: %q, %v", c.String(), c.Names())
	}
	wantLoop(t, runCase{spec, in, want.items, want.fault}, c.Each(in))
	var got []flow.Item
	err := c.Through(in, func(i flow.Item) bool {
		got = append(got, i)
		return true
	})
	if !slices.Equal(got, want.items) || flow.Tell(err) != want.fault {
		t.Errorf("P8: Through: %v, %v", got, err)
	}
	k := c.Then("more", func(i flow.Item) (flow.Item, bool, error) { return i, i.N > 0, nil })
	if out, err := k.Run(in); k.String() != spec+"|more" || !slices.Equal(out, want.items) || flow.Tell(err) != want.fault {
		t.Errorf("P8: Then: %q, %v, %v", k, out, err)
	}
	if out, err := c.Line.Run(in); !slices.Equal(out, want.items) || flow.Tell(err) != want.fault {
		t.Errorf("P8: the line's own Run: %v, %v", out, err)
	}
	wantSeen(t, "all but Run", c, 0)
}

func TestCountedSideBySide(t *testing.T) {
	c := flow.Count(wantLine(t, "par 2(add 1)"))
	var all sync.WaitGroup
	for n := range 40 {
		all.Go(func() {
			in := slices.Repeat(vals(7), n)
			if n%2 == 1 {
				in = append(in, wrd("x"), num(7))
			}
			for range 5 {
				if out, err := c.Run(in); len(out) != n || (err != nil) != (n%2 == 1) {
					t.Errorf("P8: side by side: %d values, %v, want %d", len(out), err, n)
				}
				if c.Seen() < n {
					t.Errorf("P8: %d seen behind a Run of %d", c.Seen(), n)
				}
			}
		})
	}
	all.Wait()
	wantSeen(t, "Runs side by side", c, 5*39*40/2)
}

// TestCountedLosesNone lets so many short Runs end at the same time that a count without a lock would miss some.
func TestCountedLosesNone(t *testing.T) {
	c := flow.Count(wantLine(t, ""))
	in := vals(1)
	var all sync.WaitGroup
	for range 16 {
		all.Go(func() {
			for range 5000 {
				c.Run(in)
			}
		})
	}
	all.Wait()
	wantSeen(t, "short Runs side by side", c, 16*5000)
}

// TestCountedAskedWithin: a function in the line may ask the Counted; the Run that calls it has not answered yet.
func TestCountedAskedWithin(t *testing.T) {
	var c *flow.Counted
	var seen []int
	c = flow.Count(wantLine(t, "").Then("asks", func(i flow.Item) (flow.Item, bool, error) {
		seen = append(seen, c.Seen())
		return i, true, nil
	}))
	c.Run(vals(1, 2))
	c.Run(vals(1))
	if !slices.Equal(seen, []int{0, 0, 2}) {
		t.Errorf("P8: seen from within: %v", seen)
	}
	wantSeen(t, "behind both", c, 3)
}

func TestCountedOfNoLine(t *testing.T) {
	for name, c := range map[string]*flow.Counted{
		"Count of no line":  flow.Count(nil),
		"a zero Counted":    {},
		"of the empty line": flow.Count(wantLine(t, "")),
	} {
		out, err := c.Run(vals(1, "x", none))
		if !slices.Equal(out, vals(1, "x")) || flow.Tell(err) != noItem || c.String() != "" || len(c.Names()) != 0 {
			t.Errorf("P8: %s: %v, %v, %q", name, out, err, c.String())
		}
		wantSeen(t, name, c, 2)
	}
}
