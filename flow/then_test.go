package flow_test

import (
	"errors"
	"math"
	"runtime"
	"slices"
	"strconv"
	"strings"
	"sync"
	"testing"
	"time"

	"flowline/flow"
	"flowline/plain"
)

// act is what a function does at its n-th call.
type act func(n int, i flow.Item) (flow.Item, bool, error)

// at is as it comes, but at one call what that one does.
func at(call int, does act) act {
	return func(n int, i flow.Item) (flow.Item, bool, error) {
		if n == call {
			return does(n, i)
		}
		return i, true, nil
	}
}

func answers(i flow.Item, goesOn bool, err error) act {
	return func(int, flow.Item) (flow.Item, bool, error) { return i, goesOn, err }
}

func throws(what any) act {
	return func(int, flow.Item) (flow.Item, bool, error) { panic(what) }
}

func same(i flow.Item) (flow.Item, bool, error) { return i, true, nil }

func adds(n int32) func(flow.Item) (flow.Item, bool, error) {
	return func(i flow.Item) (flow.Item, bool, error) {
		i.N += n
		return i, true, nil
	}
}

var errOwn = errors.New("a function's own")

type thenCase struct {
	spec  string
	in    []flow.Item
	does  act
	out   []flow.Item
	fault flow.Fault
	calls int
}

// wantThen asks Run, the loop and Through of a line with a function, again and again: each begins anew.
func wantThen(t *testing.T, name string, c thenCase) {
	t.Helper()
	l := wantLine(t, c.spec)
	calls := 0
	k := l.Then("own", func(i flow.Item) (flow.Item, bool, error) {
		calls++
		return c.does(calls, i)
	})
	was := slices.Clone(c.in)
	for way, run := range map[string]func() ([]flow.Item, flow.Fault){
		"Run":     func() ([]flow.Item, flow.Fault) { return plain.Run(k, c.in) },
		"Each":    func() ([]flow.Item, flow.Fault) { out, f, _ := plain.Loop(k, c.in, 0); return out, f },
		"Through": func() ([]flow.Item, flow.Fault) { return plain.Through(k, c.in, 0, false) },
	} {
		calls = 0
		wantNoneLeft(t, name, func() {
			out, fault := run()
			if !slices.Equal(out, c.out) || fault != c.fault || calls != c.calls {
				t.Errorf("P6: %s, %s: %v, %+v, %d calls, want %v, %+v, %d", name, way, out, fault, calls, c.out, c.fault, c.calls)
			}
		})
	}
	if !slices.Equal(c.in, was) {
		t.Errorf("P1: %s: the argument was changed", name)
	}
}

func ownFault(e, at int) flow.Fault { return flow.Fault{E: e, At: at, Name: "own"} }

func TestThen(t *testing.T) {
	in := vals(1, 2, 3, 4)
	full := flow.Item{N: 5, S: "w", Re: 6, Im: 7}
	word, wave := full, full
	word.Kind, wave.Kind = 1, 2
	for name, c := range map[string]thenCase{
		"as it comes":                 {"", in, at(0, nil), in, noFault, 4},
		"each by its number":          {"add 1", in, func(n int, i flow.Item) (flow.Item, bool, error) { return num(i.N * int32(n)), true, nil }, vals(2, 6, 12, 20), noFault, 4},
		"the first dropped":           {"", in, at(1, answers(num(9), false, nil)), vals(2, 3, 4), noFault, 4},
		"one dropped":                 {"", in, at(3, answers(num(9), false, nil)), vals(1, 2, 4), noFault, 4},
		"the last dropped":            {"", in, at(4, answers(num(9), false, nil)), vals(1, 2, 3), noFault, 4},
		"all dropped":                 {"", in, answers(num(9), false, nil), vals(), noFault, 4},
		"no value, but dropped":       {"", in, answers(flow.Item{Kind: 9}, false, nil), vals(), noFault, 4},
		"an error at first":           {"", in, at(1, answers(flow.Item{}, false, errOwn)), vals(), ownFault(8, 0), 1},
		"an error":                    {"add 1", in, at(3, answers(flow.Item{}, false, errOwn)), vals(2, 3), ownFault(8, 1), 3},
		"an error at last":            {"", in, at(4, answers(flow.Item{}, false, errOwn)), vals(1, 2, 3), ownFault(8, 0), 4},
		"a value and an error":        {"", in, at(2, answers(num(9), true, errOwn)), vals(1), ownFault(8, 0), 2},
		"no value and an error":       {"", in, at(2, answers(none, true, errOwn)), vals(1), ownFault(8, 0), 2},
		"one of the package's errors": {"", in, at(2, answers(num(9), true, flow.ErrBig)), vals(1), ownFault(5, 0), 2},
		"an error of a stage":         {"", in, at(2, answers(num(9), true, &flow.StageError{At: 7, Name: "x", Err: flow.ErrKind})), vals(1), ownFault(4, 0), 2},
		"a fault of a text":           {"", in, at(2, answers(num(9), true, &flow.SyntaxError{At: 7})), vals(1), ownFault(1, 0), 2},
		"a nil pointer as error":      {"", in, at(2, answers(num(9), true, (*points)(nil))), vals(1), ownFault(8, 0), 2},
		"a hostile error":             {"", in, at(2, answers(num(9), true, hostile{})), vals(1), ownFault(8, 0), 2},
		"a panic at first":            {"", in, at(1, throws("own")), vals(), ownFault(6, 0), 1},
		"a panic":                     {"add 1", in, at(3, throws(flow.ErrKind)), vals(2, 3), ownFault(6, 1), 3},
		"a panic at last":             {"", in, at(4, throws(hostile{})), vals(1, 2, 3), ownFault(6, 0), 4},
		"a panic with nil":            {"", in, at(2, throws(nil)), vals(1), ownFault(6, 0), 2},
		"no value at first":           {"", in, at(1, answers(none, true, nil)), vals(), ownFault(7, 0), 1},
		"no value":                    {"add 1", in, at(3, answers(flow.Item{Kind: -1}, true, nil)), vals(2, 3), ownFault(7, 1), 3},
		"a wave that is none":         {"", in, at(4, answers(wav(0, -big-1), true, nil)), vals(1, 2, 3), ownFault(7, 0), 4},
		"the greatest wave":           {"", in, at(1, answers(wav(big, -big), true, nil)), vals(big-big*1i, 2, 3, 4), noFault, 4},
		"a part of no meaning":        {"", in, at(2, answers(flow.Item{N: 5, Re: math.MinInt64}, true, nil)), vals(1, 5, 3, 4), noFault, 4},
		"a number and more":           {"", in, at(2, answers(full, true, nil)), vals(1, 5, 3, 4), noFault, 4},
		"a word and more":             {"", in, at(2, answers(word, true, nil)), vals(1, "w", 3, 4), noFault, 4},
		"a wave and more":             {"", in, at(2, answers(wave, true, nil)), vals(1, 6+7i, 3, 4), noFault, 4},
	} {
		wantThen(t, name, c)
	}
}

// TestThenBehindErrors: what comes ahead of an error of the stages ahead goes to the function, and nothing behind it.
func TestThenBehindErrors(t *testing.T) {
	for name, c := range map[string]thenCase{
		"nothing":                    {"", nil, throws("never"), vals(), noFault, 0},
		"nothing let by":             {"even", vals(1, 3), throws("never"), vals(), noFault, 0},
		"no value at first":          {"", vals(none, 1), throws("never"), vals(), noItem, 0},
		"no value":                   {"", vals(1, 2, none, 3), at(0, nil), vals(1, 2), noItem, 2},
		"a wrong kind at first":      {"len", vals(1, "x"), throws("never"), vals(), wrongKind(0, "len"), 0},
		"a wrong kind":               {"add 1|twice", vals(1, 2, "x", 3), at(0, nil), vals(2, 2, 3, 3), wrongKind(0, "add"), 4},
		"all dropped ahead of it":    {"add 1", vals(1, 2, "x"), answers(none, false, nil), vals(), wrongKind(0, "add"), 2},
		"an error ahead of it":       {"add 1", vals(1, 2, "x"), at(2, answers(none, false, errOwn)), vals(2), ownFault(8, 1), 2},
		"a panic ahead of it":        {"add 1", vals(1, 2, "x"), at(1, throws("own")), vals(), ownFault(6, 1), 1},
		"too big":                    {"dft", vals(big+0i, 0i, -big+0i), at(0, nil), vals(0i), tooBig(0, "dft"), 1},
		"an error that is not taken": {"add 1|take 2", vals(1, 2, "x"), at(0, nil), vals(2, 3), noFault, 2},
		"one that shows in its turn": {"both(even;add 1)", vals(1, 2, "x"), at(0, nil), vals(2, 2), wrongKind(1, "even"), 2},
		"a sort that has nothing":    {"sort", vals(2, 1, none), throws("never"), vals(), noItem, 0},
		"lines side by side":         {"par 2(fold sum)", vals(1, 2, 3, 4, 5), at(2, answers(none, true, nil)), vals(9), ownFault(7, 2), 2},
	} {
		wantThen(t, name, c)
	}
}

// TestThenCallsInTurn: the function gets the values in their order, with zeros beside them, many more than a channel holds.
func TestThenCallsInTurn(t *testing.T) {
	var in, want, got []flow.Item
	for n := range int32(1000) {
		in = append(in, flow.Item{N: n, S: "beside", Re: 1 << 50}, flow.Item{Kind: 1, S: strconv.Itoa(int(n)), N: 1, Im: 2}, flow.Item{Kind: 2, Re: int64(n), S: "x", N: 3})
		want = append(want, num(n), wrd(strconv.Itoa(int(n))), wav(int64(n), 0))
	}
	k := wantLine(t, "").Then("sees", func(i flow.Item) (flow.Item, bool, error) {
		got = append(got, i)
		return i, true, nil
	})
	if out, err := k.Run(in); err != nil || !slices.Equal(got, want) || !slices.Equal(out, want) {
		t.Errorf("P6: %v; called with %d values, answered %d, want %d", err, len(got), len(out), len(want))
	}
}

// TestThenErrors asks for the errors by themselves.
func TestThenErrors(t *testing.T) {
	for name, c := range map[string]struct {
		does act
		err  error
	}{
		"an error":         {answers(num(1), true, errOwn), errOwn},
		"one that wraps":   {answers(num(1), true, &points{next: flow.ErrMany}), nil},
		"an error of none": {answers(none, true, nil), flow.ErrNone},
		"a panic":          {throws(errOwn), flow.ErrPanic},
	} {
		k := wantLine(t, "twice|both(;)").Then("x y", func(i flow.Item) (flow.Item, bool, error) { return c.does(1, i) })
		out, err := k.Run(vals(1))
		var s *flow.StageError
		if !errors.As(err, &s) || err != error(s) || s.At != 2 || s.Name != "x y" || len(out) != 0 || s.Unwrap() != s.Err {
			t.Errorf("P6: %s: %v, %v", name, out, err)
		} else if c.err != nil && s.Err != c.err {
			t.Errorf("P6: %s: %v in it, want %v", name, s.Err, c.err)
		}
	}
	for _, c := range []struct {
		spec  string
		in    []flow.Item
		found int
	}{{"", vals(1), 1}, {"add 1", vals(1, "x"), 1}, {"len", vals(1), 0}, {"", nil, 0}, {"", vals(1, none), 1}} {
		if _, _, _, found := plain.Shapes(c.spec, c.in); found != c.found {
			t.Errorf("P6: %q of %v: the function's own error: %d, want %d", c.spec, c.in, found, c.found)
		}
	}
}

// names: of every kind, those that are no names of stages, and those that are more than one.
var names = []string{
	"", "own", "add", "add 1", "both(;)", "par 2(", ")", "|", "||", "a|b", " ", "\n", "\x00", "\xff\xfe", "\u4e16\u754c", "through", "%s", strings.Repeat("long", 100),
}

func TestThenNames(t *testing.T) {
	for _, spec := range []string{"", "even", "add 3|both(even;twice|par 2(mul -1))", strings.Repeat("add 1|", 11) + "add 1"} {
		l := wantLine(t, spec)
		ahead := l.Names()
		for _, name := range names {
			k := l.Then(name, same)
			want := spec + "|" + name
			if spec == "" {
				want = name
			}
			if k.String() != want || !slices.Equal(k.Names(), append(slices.Clone(ahead), name)) {
				t.Errorf("P6: %q with %q: %q, %q", spec, name, k.String(), k.Names())
			}
			wantNumbers(t, k)
			fails := l.Then(name, func(i flow.Item) (flow.Item, bool, error) { return i, true, errOwn })
			if _, err := fails.Run(vals(2, 4)); flow.Tell(err) != (flow.Fault{E: 8, At: len(ahead), Name: name}) {
				t.Errorf("P6: %q with %q: %+v", spec, name, flow.Tell(err))
			}
		}
		if l.String() != spec || !slices.Equal(l.Names(), ahead) {
			t.Errorf("P6: %q has become %q, %q", spec, l.String(), l.Names())
		}
	}
}

// wantNumbers asks that a line's stages are numbered from 0 on, with the names that it tells.
func wantNumbers(t *testing.T, l *flow.Line) {
	t.Helper()
	names := l.Names()
	for n, s := range l.Stages() {
		if s.At() != n || s.Name() != names[n] {
			t.Errorf("P2: stage %d of %q: %d, %q", n, l.String(), s.At(), s.Name())
		}
	}
}

// TestThenBehindEmptyNames: the text alone says whether a `|` is between.
func TestThenBehindEmptyNames(t *testing.T) {
	l := wantLine(t, "")
	for i, c := range []struct {
		names []string
		text  string
	}{{[]string{""}, ""}, {[]string{"", ""}, ""}, {[]string{"", "", "b"}, "b"}, {[]string{"a", ""}, "a|"}, {[]string{"a", "", "b"}, "a||b"}} {
		k := l
		for _, name := range c.names {
			k = k.Then(name, adds(1))
		}
		out, err := k.Run(vals(0))
		if k.String() != c.text || !slices.Equal(k.Names(), c.names) || err != nil || !slices.Equal(out, vals(len(c.names))) {
			t.Errorf("P6: %d: %q, %q, %v, %v", i, k.String(), k.Names(), out, err)
		}
		wantNumbers(t, k)
	}
}

// TestThenOfOneLine makes several lines of each line, and of those others: none changes another one.
func TestThenOfOneLine(t *testing.T) {
	type made struct {
		line *flow.Line
		text string
		n    int
	}
	lines := []made{{wantLine(t, "add 1|add 0"), "add 1|add 0", 1}}
	for next := 0; len(lines) < 200; next++ {
		from := lines[next]
		for plus := 2; plus < 5; plus++ {
			name := "plus" + strconv.Itoa(plus)
			lines = append(lines, made{from.line.Then(name, adds(int32(plus))), from.text + "|" + name, from.n + plus})
		}
	}
	for _, m := range lines {
		out, err := m.line.Run(vals(100, 200))
		if m.line.String() != m.text || err != nil || !slices.Equal(out, vals(100+m.n, 200+m.n)) {
			t.Errorf("P6: %q, once %q: %v, %v, want %d more", m.line.String(), m.text, out, err, m.n)
		}
		names := strings.Split(strings.ReplaceAll(strings.ReplaceAll(m.text, " 1", ""), " 0", ""), "|")
		if !slices.Equal(m.line.Names(), names) {
			t.Errorf("P6: %q: %q", m.text, m.line.Names())
		}
		wantNumbers(t, m.line)
	}
}

// TestThenOften makes a line of many more stages than a text may have.
func TestThenOften(t *testing.T) {
	l := wantLine(t, strings.Repeat("add 1|", 11)+"add 1")
	for range 500 {
		l = l.Then("a long name, again and again", adds(1))
	}
	fails := l.Then("last", func(i flow.Item) (flow.Item, bool, error) { return i, true, errOwn })
	out, err := l.Run(vals(1, 2, 3))
	if err != nil || !slices.Equal(out, vals(513, 514, 515)) {
		t.Errorf("P6: 512 stages: %v, %v", out, err)
	}
	wantNumbers(t, l)
	if _, err := fails.Run(vals(1)); flow.Tell(err) != (flow.Fault{E: 8, At: 512, Name: "last"}) {
		t.Errorf("P6: the 513th stage: %v", err)
	}
}

// TestThenOfNoLine: a line that is not there is the one without stages.
func TestThenOfNoLine(t *testing.T) {
	for _, l := range []*flow.Line{nil, {}} {
		k := l.Then("own", adds(1))
		if out, err := k.Run(vals(1, none)); k.String() != "own" || !slices.Equal(out, vals(2)) || flow.Tell(err) != noItem {
			t.Errorf("P6: of no line: %q, %v, %v", k.String(), out, err)
		}
		wantNumbers(t, k)
	}
}

// TestThenOfNoFunction: to call none is a panic like another.
func TestThenOfNoFunction(t *testing.T) {
	k := wantLine(t, "even").Then("none", nil)
	wantNoneLeft(t, "a line without a function", func() {
		if out, err := k.Run(vals(1, 2, 3)); len(out) != 0 || flow.Tell(err) != (flow.Fault{E: 6, At: 1, Name: "none"}) {
			t.Errorf("P6: no function: %v, %v", out, err)
		}
		if out, err := k.Run(vals(1)); len(out) != 0 || err != nil {
			t.Errorf("P6: no function, and no value: %v, %v", out, err)
		}
	})
}

// TestThenBehindThen: each function gets what the one ahead of it lets by, all of it, even if one behind ends the stream.
func TestThenBehindThen(t *testing.T) {
	in := slices.Repeat(vals(1, 2), 100)
	for name, c := range map[string]struct {
		last  act
		out   []flow.Item
		fault flow.Fault
		calls int
	}{
		"all go on":        {at(0, nil), slices.Repeat(vals(4), 100), noFault, 100},
		"an error at once": {at(1, answers(none, true, errOwn)), vals(), flow.Fault{E: 8, At: 2, Name: "c"}, 1},
		"a panic later":    {at(3, throws("own")), vals(4, 4), flow.Fault{E: 6, At: 2, Name: "c"}, 3},
		"no value":         {at(2, answers(none, true, nil)), vals(4), flow.Fault{E: 7, At: 2, Name: "c"}, 2},
	} {
		a, b, n := 0, 0, 0
		k := wantLine(t, "").Then("a", func(i flow.Item) (flow.Item, bool, error) {
			a++
			return i, i.N == 2, nil
		}).Then("b", func(i flow.Item) (flow.Item, bool, error) {
			b++
			return num(i.N * 2), true, nil
		}).Then("c", func(i flow.Item) (flow.Item, bool, error) {
			n++
			return c.last(n, i)
		})
		wantNoneLeft(t, name, func() {
			out, err := k.Run(in)
			if !slices.Equal(out, c.out) || flow.Tell(err) != c.fault || a != 200 || b != 100 || n != c.calls {
				t.Errorf("P6: %s: %v, %v, called %d, %d, %d times", name, out, err, a, b, n)
			}
		})
	}
}

// TestThenInALoopThatEnds: how often a function is called does not hang on where a loop ends.
func TestThenInALoopThatEnds(t *testing.T) {
	in := slices.Repeat(vals(1), 500)
	calls := 0
	k := wantLine(t, "twice").Then("counts", func(i flow.Item) (flow.Item, bool, error) {
		calls++
		return i, true, nil
	})
	for n := range 40 {
		wantNoneLeft(t, "a loop that ends", func() {
			plain.Loop(k, in, n+1)
			plain.Through(k, in, n+1, false)
			plain.Through(k, in, n+1, true)
		})
		if calls != 3000 {
			t.Fatalf("P1: loops that end behind %d: %d calls, want 3000", n+1, calls)
		}
		calls = 0
	}
}

// TestThenNeverTwoAtATime runs a line, and lines made of it, side by side: its function writes without a lock of its own.
func TestThenNeverTwoAtATime(t *testing.T) {
	calls, inside := 0, false
	k := wantLine(t, "add 1").Then("once", func(i flow.Item) (flow.Item, bool, error) {
		if inside {
			t.Errorf("P6: called two times at a time")
		}
		inside = true
		runtime.Gosched()
		calls++
		inside = false
		if i.N == 13 {
			panic("own")
		}
		return i, true, nil
	})
	lines := []*flow.Line{k, k.Then("more", same), flow.Count(k).Line, k.Then("again", same).Then("and again", same)}
	var all sync.WaitGroup
	for n := range 40 {
		all.Go(func() {
			out, err := lines[n%len(lines)].Run(vals(1, 2, 3, 4, 5, 12, 6))
			if !slices.Equal(out, vals(2, 3, 4, 5, 6)) || flow.Tell(err) != (flow.Fault{E: 6, At: 1, Name: "once"}) {
				t.Errorf("P6: side by side: %v, %v", out, err)
			}
		})
	}
	all.Wait()
	if calls != 40*6 {
		t.Errorf("P6: %d calls, want %d", calls, 40*6)
	}
}

// TestThenWithinALoop runs a line in a loop over the same line, while its stage waits until the loop takes more.
func TestThenWithinALoop(t *testing.T) {
	k := wantLine(t, "").Then("more", adds(1)).Then("more", adds(1))
	in, want := slices.Repeat(vals(1), 100), slices.Repeat(vals(3), 100)
	n := 0
	for _, err := range k.Each(in) {
		n++
		if out, inner := k.Run(in); err != nil || inner != nil || !slices.Equal(out, want) {
			t.Fatalf("P6: within a loop: %v, %v", inner, out)
		}
	}
	if n != 100 {
		t.Errorf("P6: %d rounds", n)
	}
}

// TestThenRunsTheLineAhead: a function may run the line of which its own was made, with that one's functions.
func TestThenRunsTheLineAhead(t *testing.T) {
	a := wantLine(t, "").Then("a", adds(1))
	b := a.Then("b", func(i flow.Item) (flow.Item, bool, error) {
		out, err := a.Run([]flow.Item{i, i})
		return num(out[0].N + out[1].N), true, err
	})
	out, err := b.Run(slices.Repeat(vals(1), 200))
	if err != nil || !slices.Equal(out, slices.Repeat(vals(6), 200)) {
		t.Errorf("P6: %v, %v", out, err)
	}
}

// TestThenSideBySide has two functions of a line wait for each other: one after the other they would never end.
func TestThenSideBySide(t *testing.T) {
	meet := make(chan int)
	waits := func(what string, f func() bool) {
		t.Helper()
		if !f() {
			t.Errorf("P1: %s has waited for nothing", what)
		}
	}
	first := 0
	k := wantLine(t, "").Then("first", func(i flow.Item) (flow.Item, bool, error) {
		first++
		if first > 1 {
			waits("the second call", func() bool {
				select {
				case meet <- first:
					return true
				case <-time.After(time.Minute):
					return false
				}
			})
		}
		return i, true, nil
	}).Then("second", func(i flow.Item) (flow.Item, bool, error) {
		if i.N < 3 {
			waits("the stage behind", func() bool {
				select {
				case <-meet:
					return true
				case <-time.After(time.Minute):
					return false
				}
			})
		}
		return i, true, nil
	})
	if out, err := k.Run(vals(1, 2, 3)); err != nil || !slices.Equal(out, vals(1, 2, 3)) {
		t.Errorf("P1: %v, %v", out, err)
	}
}

// TestThenWithAGoexit: a function that ends its goroutine does not answer either; the run goes on without it.
func TestThenWithAGoexit(t *testing.T) {
	k := wantLine(t, "add 1").Then("ends", func(i flow.Item) (flow.Item, bool, error) {
		if i.N == 3 {
			runtime.Goexit()
		}
		return i, true, nil
	})
	for _, l := range []*flow.Line{k, k.Then("behind", same)} {
		for range 3 {
			wantNoneLeft(t, "a function that ends its goroutine", func() {
				out, err := l.Run(slices.Repeat(vals(1, 2, 3), 50))
				if !slices.Equal(out, vals(2)) || flow.Tell(err) != (flow.Fault{E: 6, At: 1, Name: "ends"}) {
					t.Errorf("P6: %v, %v", out, err)
				}
			})
		}
	}
}

func TestThenAsPlain(t *testing.T) {
	told := plain.Then(wantLine(t, "add 1"), "own", 5, 0, vals(1, 2, 3, "x"))
	if !slices.Equal(told.Out, vals(3, 7)) || told.Fault != wrongKind(0, "add") || told.Calls != 3 || told.Text != "add 1|own" || !slices.Equal(told.Names, []string{"add", "own"}) {
		t.Errorf("P6: %+v", told)
	}
}
