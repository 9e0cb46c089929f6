package flow_test

import (
	"errors"
	"math"
	"slices"
	"strings"
	"sync"
	"testing"

	"flowline/flow"
	"flowline/plain"
)

func num(n int32) flow.Item { return flow.Item{N: n} }

func wrd(s string) flow.Item { return flow.Item{Kind: 1, S: s} }

func wav(re, im int64) flow.Item { return flow.Item{Kind: 2, Re: re, Im: im} }

const (
	least = math.MinInt32
	most  = math.MaxInt32
	big   = 1 << 40
)

// vals makes items: of ints numbers, of strings words, of complex numbers waves.
func vals(list ...any) []flow.Item {
	items := []flow.Item{}
	for _, v := range list {
		switch v := v.(type) {
		case int:
			items = append(items, num(int32(v)))
		case string:
			items = append(items, wrd(v))
		case complex128:
			items = append(items, wav(int64(real(v)), int64(imag(v))))
		case flow.Item:
			items = append(items, v)
		}
	}
	return items
}

var (
	noFault = flow.Fault{}
	noItem  = flow.Fault{E: 7, At: -1}
	none    = flow.Item{Kind: 3}
)

func wrongKind(at int, name string) flow.Fault { return flow.Fault{E: 4, At: at, Name: name} }

func tooBig(at int, name string) flow.Fault { return flow.Fault{E: 5, At: at, Name: name} }

type runCase struct {
	spec  string
	in    []flow.Item
	out   []flow.Item
	fault flow.Fault
}

// wantRun asks Run, and the loop over Each, for the same.
func wantRun(t *testing.T, c runCase) {
	t.Helper()
	l := wantLine(t, c.spec)
	was := slices.Clone(c.in)
	out, err := l.Run(c.in)
	if got := flow.Tell(err); got != c.fault || !slices.Equal(out, c.out) {
		t.Errorf("P3: %q of %v = %v, %+v, want %v, %+v", c.spec, c.in, out, got, c.out, c.fault)
	}
	looped, fault, odd := plain.Loop(l, c.in, 0)
	if fault != c.fault || !slices.Equal(looped, c.out) || odd != 0 {
		t.Errorf("P4: the loop over %q of %v = %v, %+v, want %v, %+v; odd %d", c.spec, c.in, looped, fault, c.out, c.fault, odd)
	}
	if !slices.Equal(c.in, was) {
		t.Errorf("P1: %q: the argument was changed", c.spec)
	}
}

func wantRuns(t *testing.T, cases []runCase) {
	t.Helper()
	for _, c := range cases {
		wantRun(t, c)
	}
}

func TestRunExamples(t *testing.T) {
	wantRuns(t, []runCase{
		{"add 3|even", vals(1, 2, 5), vals(4, 8), noFault},
		{"add 1", vals(most), vals(least), noFault},
		{"even|add 1", vals(2, 4, "x", 6), vals(3, 5), wrongKind(0, "even")},
		{"turn", vals("abc", "h\u00e9llo", "a\xffb"), vals("cba", "oll\u00e9h", "b\ufffda"), noFault},
		{"len", vals("h\u00e9llo"), vals(5), noFault},
		{"pair", vals(1, 2, 3), vals(1+2i, 3+0i), noFault},
		{"spin 1", vals(3 + 2i), vals(-2 + 3i), noFault},
		{"norm", vals(3+4i, 1<<31+5+7i), vals(25, 74), noFault},
		{"dft", vals(1+0i, 2+0i, 3+0i, 4+0i), vals(10+0i, -2+2i, -2+0i, -2-2i), noFault},
		{"dft", vals(big+0i, 0i, -big+0i, 0i), vals(0i), tooBig(0, "dft")},
		{"sum 3", vals(1, 2, 3, 4, 5), vals(6, 9), noFault},
		{"fold max", vals(3, 9, -4), vals(9), noFault},
		{"count", vals("b", "a", "b", 7, 7), vals("7*2", "a*1", "b*2"), noFault},
		{"add 1|take 2", vals(1, 2, "x"), vals(2, 3), noFault},
		{"add 1|take 3", vals(1, 2, "x"), vals(2, 3), wrongKind(0, "add")},
		{"both(add 1;mul 2)", vals(1, 2, 3), vals(2, 2, 3, 4, 4, 6), noFault},
		{"both(fold sum;)", vals(1, 2, 3), vals(6, 1, 2, 3), noFault},
		{"both(even;add 1)", vals(1, 2, "x"), vals(2, 2), wrongKind(1, "even")},
		{"par 2(twice)", vals(1, 2, 3), vals(1, 2, 1, 2, 3, 3), noFault},
		{"par 2(fold sum)", vals(1, 2, 3, 4, 5), vals(9, 6), noFault},
		{"add 1", vals(1, none, 2), vals(2), noItem},
	})
}

func TestRunOfNumbers(t *testing.T) {
	wantRuns(t, []runCase{
		{"add 999", vals(0, -999, most, least), vals(999, 0, least+998, least+999), noFault},
		{"add -999", vals(0, 999, least), vals(-999, 0, most-998), noFault},
		{"add 0", vals(5, most, least), vals(5, most, least), noFault},
		{"mul 2", vals(3, -4, most, least, 1<<30), vals(6, -8, -2, 0, least), noFault},
		{"mul -1", vals(3, least, most), vals(-3, least, -most), noFault},
		{"mul 999", vals(most), vals(most - 998), noFault},
		{"mul 0", vals(3, least), vals(0, 0), noFault},
		{"even", vals(-4, -3, -2, -1, 0, 1, 2, 3, most, least), vals(-4, -2, 0, 2, least), noFault},
		{"sum 1", vals(1, 2, 3), vals(1, 2, 3), noFault},
		{"sum 2", vals(most, 1, least, -1), vals(least, most), noFault},
		{"sum 2", vals(1, 2, 3, 4), vals(3, 7), noFault},
		{"sum 3", vals(1, 2, 3, 10, 20), vals(6, 30), noFault},
		{"sum 3", vals(1, 2, 3, 10), vals(6, 10), noFault},
		{"sum 9", vals(1, 2), vals(3), noFault},
		{"sum 2", vals(0, 0, 0), vals(0, 0), noFault},
		{"fold max", vals(3, 9, -4), vals(9), noFault},
		{"fold max", vals(least), vals(least), noFault},
		{"fold max", vals(-7, -5, -9), vals(-5), noFault},
		{"fold min", vals(3, 9, 4), vals(3), noFault},
		{"fold min", vals(3, -9, most), vals(-9), noFault},
		{"fold sum", vals(1, 2, 3), vals(6), noFault},
		{"fold sum", vals(most, most, 3), vals(1), noFault},
		{"fold sum", vals(0), vals(0), noFault},
		{"pair", vals(1, 2, 3, 4), vals(1+2i, 3+4i), noFault},
		{"pair", vals(5), vals(5 + 0i), noFault},
		{"pair", vals(most, least, least), vals(complex(most, least), complex(least, 0)), noFault},
	})
}

func TestRunOfWords(t *testing.T) {
	wantRuns(t, []runCase{
		{"turn", vals("", "a", "ab", "\u4e16\u754c", "e\u0301"), vals("", "a", "ba", "\u754c\u4e16", "\u0301e"), noFault},
		{"turn", vals("\xff", "a\xe4\xb8", "\xed\xa0\x80", "x\x00y"), vals("\ufffd", "\ufffd\ufffda", "\ufffd\ufffd\ufffd", "y\x00x"), noFault},
		{"turn|turn", vals("a\xff"), vals("a\ufffd"), noFault},
		{"turn", vals("\U0001f600a"), vals("a\U0001f600"), noFault},
		{"len", vals("", "abc", "\u4e16\u754c", "\xff\xfe", "\U0001f600", "\xe4\xb8"), vals(0, 3, 2, 2, 1, 2), noFault},
		{"len", vals(strings.Repeat("\u00e9", 100000)), vals(100000), noFault},
	})
}

func TestRunOfWaves(t *testing.T) {
	wantRuns(t, []runCase{
		{"spin 0", vals(3 + 2i), vals(3 + 2i), noFault},
		{"spin 2", vals(3 + 2i), vals(-3 - 2i), noFault},
		{"spin 3", vals(3 + 2i), vals(2 - 3i), noFault},
		{"spin 4", vals(3 + 2i), vals(3 + 2i), noFault},
		{"spin -1", vals(3 + 2i), vals(2 - 3i), noFault},
		{"spin -2", vals(3 + 2i), vals(-3 - 2i), noFault},
		{"spin -3", vals(3 + 2i), vals(-2 + 3i), noFault},
		{"spin 999", vals(1 + 0i), vals(-1i), noFault},
		{"spin -999", vals(1 + 0i), vals(1i), noFault},
		{"spin 1", vals(big-big*1i, 0i), vals(big+big*1i, 0i), noFault},
		{"spin 1|spin 1|count", vals(0i, -1+0i, 1i), vals("0-1i*1", "0+0i*1", "1+0i*1"), noFault},
		{"norm", vals(0i, -5+0i, -3-4i), vals(0, 25, 25), noFault},
		{"norm", vals(big+big*1i, big-1+0i, 1<<16+0i, 46341+0i), vals(0, 1, 0, 46341*46341-1<<32), noFault},
		{"norm", vals(complex(1<<30+1, 1<<20+3), complex(-(1<<39+12345), 1<<38+77)), vals(-2147483648+1+6*(1<<20)+9, 12345*12345+77*77), noFault},
		{"dft", vals(1+2i, 3+4i, 5+6i, 7+8i), vals(16+20i, -8+0i, -4-4i, -8i), noFault},
		{"dft", vals(1i, 0i, 0i, 0i, 2+0i), vals(1i, 1i, 1i, 1i, 2+0i, 2+0i, 2+0i, 2+0i), noFault},
		{"dft", vals(1+0i, 2+0i), vals(3+0i, 1-2i, -1+0i, 1+2i), noFault},
		{"dft", vals(1+0i, 2+0i, 3+0i), vals(6+0i, -2-2i, 2+0i, -2+2i), noFault},
		{"dft|take 4|skip 3", vals(0i, 1+0i), vals(1i), noFault},
		{"dft", vals(big + 0i), vals(big+0i, big+0i, big+0i, big+0i), noFault},
		{"dft", vals(big+0i, 1+0i), vals(), tooBig(0, "dft")},
		{"dft", vals(-big+0i, -1+0i), vals(), tooBig(0, "dft")},
		{"dft", vals(big*1i, 0i, 0i, 1i), vals(), tooBig(0, "dft")},
		{"dft", vals(-big*1i, 0i, -1i), vals(), tooBig(0, "dft")},
		{"dft", vals(big+0i, -1+0i), vals(big-1+0i, big+1i), tooBig(0, "dft")},
		{"dft", vals(1+0i, 0i, 0i, 0i, big+0i, big+0i), vals(1+0i, 1+0i, 1+0i, 1+0i), tooBig(0, "dft")},
		{"twice|dft", vals(big/2 + 0i), vals(big+0i, big/2-big/2*1i, 0i, big/2+big/2*1i), noFault},
		{"dft|dft", vals(big/2 + 0i), vals(), tooBig(1, "dft")},
		{"dft|dft", vals(big/4+0i, 1+0i), vals(big+0i, 4i-4i, 0i, 4+0i), noFault},
	})
}

func TestRunOfAllKinds(t *testing.T) {
	mixed := vals("b", 2, 3i, "a", 1, -1i, 2)
	wantRuns(t, []runCase{
		{"", mixed, mixed, noFault},
		{"ints", mixed, vals(2, 1, 2), noFault},
		{"words", mixed, vals("b", "a"), noFault},
		{"waves", mixed, vals(3i, -1i), noFault},
		{"ints|words", mixed, vals(), noFault},
		{"sort", mixed, vals(1, 2, 2, "a", "b", -1i, 3i), noFault},
		{"sort", vals("b", "", "B", "a\x00", "a", "\xff", "\u00e9", "ab"), vals("", "B", "a", "a\x00", "ab", "b", "\u00e9", "\xff"), noFault},
		{"sort", vals(most, 0, least, -1, 10, 9), vals(least, -1, 0, 9, 10, most), noFault},
		{"sort", vals(1+1i, 1-1i, -1+5i, big-big*1i, -big+0i, 1+0i), vals(-big+0i, -1+5i, 1-1i, 1+0i, 1+1i, big-big*1i), noFault},
		{"count", mixed, vals("1*1", "2*2", "a*1", "b*1", "0-1i*1", "0+3i*1"), noFault},
		{"count", vals(least, "", "a*1", 3-2i, -3+0i, big-big*1i, 3-2i), vals("-2147483648*1", "*1", "a*1*1", "-3+0i*1", "3-2i*2", "1099511627776-1099511627776i*1"), noFault},
		{"count", vals("1", 1, "1+0i", 1+0i), vals("1*1", "1*1", "1+0i*1", "1+0i*1"), noFault},
		{"count", slices.Repeat(vals("x"), 1234), vals("x*1234"), noFault},
		{"count|sort", vals(10, 9, 10), vals("10*2", "9*1"), noFault},
		{"take 3", mixed, mixed[:3], noFault},
		{"take 0", mixed, vals(), noFault},
		{"take 7", mixed, mixed, noFault},
		{"take 99", mixed, mixed, noFault},
		{"take 99", slices.Repeat(vals(1), 150), slices.Repeat(vals(1), 99), noFault},
		{"skip 3", mixed, mixed[3:], noFault},
		{"skip 0", mixed, mixed, noFault},
		{"skip 7", mixed, vals(), noFault},
		{"skip 99", mixed, vals(), noFault},
		{"skip 99", slices.Repeat(vals(1), 150), slices.Repeat(vals(1), 51), noFault},
		{"twice", vals("a", 1, 2i), vals("a", "a", 1, 1, 2i, 2i), noFault},
		{"twice|twice|sum 4", vals(1, 2), vals(4, 8), noFault},
	})
}

func TestRunOfNothing(t *testing.T) {
	for _, spec := range allStages {
		wantRun(t, runCase{spec, nil, vals(), noFault})
		wantRun(t, runCase{spec, vals(), vals(), noFault})
		fault := noItem
		if strings.HasSuffix(spec, " 0") && strings.HasPrefix(spec, "take") {
			fault = noFault
		}
		wantRun(t, runCase{spec, vals(none), vals(), fault})
	}
}

// allStages: each stage of the table once, or more than once where its K matters.
var allStages = []string{
	"", "add 1", "mul 2", "even", "ints", "words", "waves", "turn", "len", "pair", "spin 1", "norm", "dft", "sum 1", "sum 3", "fold max", "fold min", "fold sum",
	"sort", "count", "take 0", "take 1", "take 99", "skip 0", "skip 99", "twice", "both(;)", "both(even;)", "par 1()", "par 4()", "par 4(even)", "par 2(both(;))",
}

// TestRunOfWrongKinds hands each stage that takes one kind alone the two others, ahead and behind values that it takes.
func TestRunOfWrongKinds(t *testing.T) {
	for kind, specs := range [][]string{
		{"add 1", "mul 1", "even", "pair", "sum 2", "fold max", "fold min", "fold sum"},
		{"turn", "len"},
		{"spin 1", "norm", "dft"},
	} {
		right := vals(2, "a", 2i)[kind]
		for _, spec := range specs {
			name, _, _ := strings.Cut(spec, " ")
			for other, wrong := range vals(2, "a", 2i) {
				if other == kind {
					continue
				}
				wantRun(t, runCase{spec, []flow.Item{wrong}, vals(), wrongKind(0, name)})
				wantRun(t, runCase{"twice|skip 1|" + spec, []flow.Item{wrong, right}, vals(), wrongKind(2, name)})
				wantRun(t, runCase{spec, []flow.Item{wrong, none}, vals(), wrongKind(0, name)})
				wantRun(t, runCase{"take 0|" + spec, []flow.Item{wrong}, vals(), noFault})
			}
			wantRun(t, runCase{spec, []flow.Item{right, none}, wantLineRun(t, spec, right), noItem})
		}
	}
}

// wantLineRun is what a stage makes of one value alone, but of a stage that waits for more: nothing.
func wantLineRun(t *testing.T, spec string, item flow.Item) []flow.Item {
	t.Helper()
	for _, waits := range []string{"pair", "sum 2", "fold", "dft"} {
		if strings.HasPrefix(spec, waits) {
			return vals()
		}
	}
	out, err := wantLine(t, spec).Run([]flow.Item{item})
	if err != nil || len(out) != 1 {
		t.Errorf("P3: %q of %v = %v, %v", spec, item, out, err)
	}
	return out
}

// TestRunBehindErrors: of values of which a stage has not made anything yet nothing comes.
func TestRunBehindErrors(t *testing.T) {
	wantRuns(t, []runCase{
		{"pair", vals(1, 2, 3, "x", 4), vals(1 + 2i), wrongKind(0, "pair")},
		{"pair", vals(1, 2, 3, none, 4), vals(1 + 2i), noItem},
		{"sum 2", vals(1, 2, 3, "x"), vals(3), wrongKind(0, "sum")},
		{"sum 2", vals(1, 2, 3, none), vals(3), noItem},
		{"sum 2", vals(1, 2, 3, 4, none), vals(3, 7), noItem},
		{"dft", vals(1+0i, 1+0i, 1+0i, 1+0i, 1+0i, 7), vals(4+0i, 0i, 0i, 0i), wrongKind(0, "dft")},
		{"dft", vals(1+0i, 1+0i, 1+0i, 1+0i, 1+0i, none), vals(4+0i, 0i, 0i, 0i), noItem},
		{"fold sum", vals(1, 2, "x"), vals(), wrongKind(0, "fold")},
		{"fold sum", vals(1, 2, none), vals(), noItem},
		{"sort", vals(2, 1, none), vals(), noItem},
		{"count", vals(2, 1, none), vals(), noItem},
		{"add 1|sort", vals(2, 1, "x"), vals(), wrongKind(0, "add")},
		{"add 1|count", vals(2, 1, "x"), vals(), wrongKind(0, "add")},
		{"add 1|mul 2|even", vals(2, 1, "x", 3), vals(6, 4), wrongKind(0, "add")},
		{"add 1|len", vals(2, "x"), vals(), wrongKind(1, "len")},
		{"twice", vals(1, none), vals(1, 1), noItem},
		{"ints", vals(1, "x", none), vals(1), noItem},
		{"words", vals(1, "x", none), vals("x"), noItem},
		{"waves", vals(1, "x", none), vals(), noItem},
		{"skip 1", vals(1, 2, none), vals(2), noItem},
		{"skip 9", vals(1, 2, none), vals(), noItem},
		{"take 2", vals(1, 2, none), vals(1, 2), noFault},
		{"take 3", vals(1, 2, none), vals(1, 2), noItem},
		{"take 0", vals(none), vals(), noFault},
		{"take 1|take 0", vals(1, none), vals(), noFault},
		{"dft|take 1", vals(big+0i, 0i, -big+0i), vals(0i), noFault},
		{"dft|take 2", vals(big+0i, 0i, -big+0i), vals(0i), tooBig(0, "dft")},
	})
}

func TestRunOfItems(t *testing.T) {
	full := flow.Item{N: 5, S: "x", Re: 9, Im: -9}
	word, wave, beyond := full, full, full
	word.Kind, wave.Kind = 1, 2
	beyond.Re = math.MinInt64
	for _, spec := range []string{"", "take 9", "both(;take 0)", "par 2()", "sort", "skip 0"} {
		wantRun(t, runCase{spec, []flow.Item{full, word, wave}, vals(5, "x", 9-9i), noFault})
		wantRun(t, runCase{spec, []flow.Item{beyond}, vals(5), noFault})
	}
	for _, edge := range []flow.Item{wav(big, big), wav(-big, -big), wav(big, -big)} {
		wantRun(t, runCase{"", []flow.Item{edge}, []flow.Item{edge}, noFault})
	}
	for _, bad := range []flow.Item{
		{Kind: 3}, {Kind: -1}, {Kind: math.MaxInt}, {Kind: math.MinInt}, {Kind: 4, N: 7, S: "x"}, wav(big+1, 0), wav(-big-1, 0), wav(0, big+1), wav(0, -big-1),
		wav(math.MaxInt64, 0), wav(math.MinInt64, 0), wav(0, math.MaxInt64), wav(0, math.MinInt64), wav(math.MinInt64, math.MinInt64),
	} {
		wantRun(t, runCase{"", []flow.Item{bad}, vals(), noItem})
		wantRun(t, runCase{"twice", []flow.Item{num(1), bad, num(2), bad}, vals(1, 1), noItem})
		wantRun(t, runCase{"take 1", []flow.Item{num(1), bad}, vals(1), noFault})
		wantRun(t, runCase{"ints", []flow.Item{bad}, vals(), noItem})
	}
}

func TestRunOfBoth(t *testing.T) {
	wantRuns(t, []runCase{
		{"both(;)", vals(1, "x"), vals(1, 1, "x", "x"), noFault},
		{"both(;take 1)", vals(1, 2, 3), vals(1, 1, 2, 3), noFault},
		{"both(take 1;)", vals(1, 2, 3), vals(1, 1, 2, 3), noFault},
		{"both(take 0;)", vals(1, 2), vals(1, 2), noFault},
		{"both(;take 0)", vals(1, 2), vals(1, 2), noFault},
		{"both(sort;twice)", vals(2, 1), vals(1, 2, 2, 2, 1, 1), noFault},
		{"both(both(add 1;add 2);add 3)", vals(10, 20), vals(11, 13, 12, 23, 21, 22), noFault},
		{"both(;both(;both(;)))", vals(1, 2), vals(1, 1, 2, 1, 2, 1, 2, 2), noFault},
		{"both(fold sum;fold max)|fold min", vals(1, 2), vals(2), noFault},
		{"both(ints;words)", vals("a", 1, "b", "c"), vals(1, "a", "b", "c"), noFault},
		{"both(;)", vals(1, none), vals(1, 1), noItem},
		{"both(take 1;)", vals(1, none), vals(1, 1), noItem},
		{"both(take 1;take 1)", vals(1, none), vals(1, 1), noFault},
		{"both(take 0;take 0)", vals(none), vals(), noFault},
		{"both(take 0;)", vals(none), vals(), noItem},
		{"both(sort;)", vals(1, none), vals(), noItem},
		{"both(;sort)", vals(1, none), vals(1), noItem},
		{"both(len;add 1)", vals(1), vals(), wrongKind(1, "len")},
		{"both(add 1;len)", vals(1), vals(2), wrongKind(2, "len")},
		{"both(len;turn)", vals(1), vals(), wrongKind(1, "len")},
		{"both(take 1|add 1;len)", vals(1, "x"), vals(2), wrongKind(3, "len")},
		{"both(even;add 1)|take 2", vals(1, 2, "x"), vals(2, 2), noFault},
		{"both(even;add 1)|take 3", vals(1, 2, "x"), vals(2, 2), wrongKind(1, "even")},
		{"add 1|both(twice;)", vals(1, "x"), vals(2, 2, 2), wrongKind(0, "add")},
		{"both(dft;)", vals(big+0i, 0i, -big+0i), vals(0i, big+0i), tooBig(1, "dft")},
	})
}

func TestRunOfPar(t *testing.T) {
	wantRuns(t, []runCase{
		{"par 1()", vals(1, 2, 3), vals(1, 2, 3), noFault},
		{"par 4()", vals(1, 2, 3), vals(1, 2, 3), noFault},
		{"par 3()", vals(1, 2, 3, 4, 5, 6, 7), vals(1, 2, 3, 4, 5, 6, 7), noFault},
		{"par 2(twice)", vals(1, 2), vals(1, 2, 1, 2), noFault},
		{"par 2(even)", vals(1, 2, 3, 4, 5, 7), vals(2, 4), noFault},
		{"par 2(even)", vals(2, 1, 4, 3, 6), vals(2, 4, 6), noFault},
		{"par 3(fold sum)", vals(1, 2), vals(1, 2), noFault},
		{"par 3(take 1)", vals(1, 2, 3, 4, 5, 6), vals(1, 2, 3), noFault},
		{"par 3(skip 1)", vals(1, 2, 3, 4), vals(4), noFault},
		{"par 4(sum 2)", vals(1, 2, 3, 4, 5, 6), vals(6, 8, 3, 4), noFault},
		{"par 2(par 2(fold sum))", vals(1, 2, 3, 4, 5), vals(6, 2, 3, 4), noFault},
		{"par 2(both(add 1;mul 10))", vals(1, 2, 3), vals(2, 3, 10, 20, 4, 30), noFault},
		{"both(par 2(twice);par 3())", vals(1, 2, 3), vals(1, 1, 2, 2, 1, 3, 2, 3, 3), noFault},
		{"par 2(add 1)", vals(1, "x", 3), vals(2), wrongKind(1, "add")},
		{"par 2(add 1)", vals("x", 2, 3), vals(), wrongKind(1, "add")},
		{"par 2(add 1)", vals(1, 2, "x", 4), vals(2, 3), wrongKind(1, "add")},
		{"par 2(add 1)", vals(1, 2, 3, "x", 5), vals(2, 3, 4), wrongKind(1, "add")},
		{"par 2(len)", vals("a", 1), vals(1), wrongKind(1, "len")},
		{"par 2()", vals(1, none), vals(1), noItem},
		{"par 2()", vals(1, 2, none), vals(1, 2), noItem},
		{"par 2()", vals(1, 2, 3, none), vals(1, 2, 3), noItem},
		{"par 4()", vals(1, 2, none), vals(1, 2), noItem},
		{"par 4(even)", vals(1, 2, none), vals(), noItem},
		{"par 4(even)", vals(2, 1, none), vals(2), noItem},
		{"par 2(even)", vals(2, 1, 4, none), vals(2), noItem},
		{"par 3(even)", vals(2, 4, 1, 6, 8, none), vals(2, 4), noItem},
		{"par 4(sort)", vals(2, 1, none), vals(), noItem},
		{"par 4(take 1)", vals(2, none), vals(2), noItem},
		{"par 2(take 1)", vals(1, 2, none), vals(1, 2), noFault},
		{"par 4(take 0)", vals(2, none), vals(), noFault},
		{"par 4(both(take 0;))", vals(2, none), vals(2), noItem},
		{"par 2(twice|add 1)|take 4", vals(1, 2, "x"), vals(2, 3, 2, 3), noFault},
		{"par 2(twice|add 1)|take 5", vals(1, 2, "x"), vals(2, 3, 2, 3), wrongKind(2, "add")},
		{"par 4(par 4(par 4(par 4())))", vals(1, 2, 3, none), vals(1, 2, 3), noItem},
	})
}

func TestRunOfLongLines(t *testing.T) {
	numbers := func(n int) []flow.Item {
		var in []flow.Item
		for i := range n {
			in = append(in, num(int32(i)))
		}
		return in
	}
	nested := strings.Repeat("par 4(", 12) + strings.Repeat(")", 12)
	doubled := strings.Repeat("both(;", 11) + strings.Repeat(")", 11)
	in := numbers(3000)
	for _, c := range []runCase{
		{strings.Repeat("add 1|", 11) + "add -11", in, in, noFault},
		{nested, in, in, noFault},
		{nested, append(numbers(20), none), numbers(20), noItem},
		{strings.Repeat("twice|", 11) + "fold sum", vals(1, 2), vals(2048 * 3), noFault},
		{doubled + "|fold sum", vals(1, 2), vals(12 * 3), noFault},
		{"both(sort;sort)|both(count;)|par 4(both(;))|take 2", in, vals("0*2", 0), noFault},
		{"take 1", numbers(100000), vals(0), noFault},
		{"add 1|take 0|add 1", numbers(100000), vals(), noFault},
	} {
		l := wantLine(t, c.spec)
		withinTime(t, c.spec, func() {
			out, err := l.Run(c.in)
			if got := flow.Tell(err); got != c.fault || !slices.Equal(out, c.out) {
				t.Errorf("P3: %q of %d items = %d items, %+v, want %d, %+v", c.spec, len(c.in), len(out), got, len(c.out), c.fault)
			}
		})
	}
}

func TestRunsErrors(t *testing.T) {
	for _, c := range []struct {
		spec string
		in   []flow.Item
		want flow.StageError
	}{
		{"add 1|len", vals(1), flow.StageError{At: 1, Name: "len", Err: flow.ErrKind}},
		{"twice|dft", vals(big + 0i), flow.StageError{At: 1, Name: "dft", Err: flow.ErrBig}},
		{"", vals(none), flow.StageError{At: -1, Name: "", Err: flow.ErrNone}},
		{"par 2(both(;fold sum))", vals("x"), flow.StageError{At: 2, Name: "fold", Err: flow.ErrKind}},
	} {
		l := wantLine(t, c.spec)
		_, err := l.Run(c.in)
		var s *flow.StageError
		if !errors.As(err, &s) || err != error(s) || *s != c.want {
			t.Errorf("P3: the error of %q of %v is %v, want %v", c.spec, c.in, err, &c.want)
		}
		*s = flow.StageError{}
		if _, err := l.Run(c.in); !errors.As(err, &s) || *s != c.want {
			t.Errorf("P1: the error of %q is another one the next time: %v", c.spec, err)
		}
	}
}

func TestRunsAnswersAreNew(t *testing.T) {
	in := vals(1, 2, 3)
	for _, spec := range []string{"", "add 0", "both(;)|take 3", "par 2()", "sort", "take 9"} {
		l := wantLine(t, spec)
		first, _ := l.Run(in)
		want := slices.Clone(first)
		for i := range first {
			first[i] = none
		}
		_ = append(first[:1], none)
		if !slices.Equal(in, vals(1, 2, 3)) {
			t.Fatalf("P1: the answer of %q shares memory with the argument", spec)
		}
		if again, _ := l.Run(in); !slices.Equal(again, want) {
			t.Errorf("P1: %q answers %v, then %v", spec, want, again)
		}
	}
}

func TestRunSideBySide(t *testing.T) {
	l := wantLine(t, "par 3(both(twice;sum 2|twice))|count|both(len|fold sum;take 4)")
	var in []flow.Item
	for i := range 300 {
		in = append(in, num(int32(i%11)))
	}
	want, err := l.Run(in)
	if err != nil || len(want) != 5 {
		t.Fatalf("P3: %v, %v", want, err)
	}
	var all sync.WaitGroup
	for range 50 {
		all.Go(func() {
			if out, err := l.Run(in); err != nil || !slices.Equal(out, want) {
				t.Errorf("P1: side by side another answer: %v, %v", out, err)
			}
		})
	}
	all.Wait()
}
