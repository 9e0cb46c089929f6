package flow_test

import (
	"cmp"
	"math/rand"
	"slices"
	"strconv"
	"strings"
	"testing"

	"flowline/flow"
	"flowline/plain"
)

// This file holds runs against a model: the document's table on lists, without goroutines, channels and complex numbers.

// row is a stream as a list.
type row struct {
	items []flow.Item
	fault flow.Fault
}

// step is a stage of the model.
type step struct {
	name string
	at   int
	k    int
	how  string
	a, b []*step
}

func text(steps []*step) string {
	var parts []string
	for _, s := range steps {
		switch {
		case s.name == "both":
			parts = append(parts, "both("+text(s.a)+";"+text(s.b)+")")
		case s.name == "par":
			parts = append(parts, "par "+strconv.Itoa(s.k)+"("+text(s.a)+")")
		case s.name == "fold":
			parts = append(parts, "fold "+s.how)
		case slices.Contains(withK, s.name):
			parts = append(parts, s.name+" "+strconv.Itoa(s.k))
		default:
			parts = append(parts, s.name)
		}
	}
	return strings.Join(parts, "|")
}

var withK = []string{"add", "mul", "spin", "sum", "take", "skip"}

// through is what a line makes of a stream.
func through(steps []*step, r row) row {
	for _, s := range steps {
		r = s.makes(r)
	}
	return r
}

func (s *step) makes(r row) row {
	switch s.name {
	case "take":
		if len(r.items) >= s.k {
			return row{items: r.items[:s.k]}
		}
		return r
	case "skip":
		return row{r.items[min(s.k, len(r.items)):], r.fault}
	case "both":
		return merged([]row{through(s.a, r), through(s.b, r)})
	case "par":
		lines := make([]row, s.k)
		for i, item := range r.items {
			lines[i%s.k].items = append(lines[i%s.k].items, item)
		}
		for i := range lines {
			lines[i].fault = r.fault
			lines[i] = through(s.a, lines[i])
		}
		return merged(lines)
	}
	// The others see values in groups: what is whole is made as it comes, what is left only if no error comes.
	size := s.group()
	var out []flow.Item
	for len(r.items) > 0 {
		n := min(size, len(r.items))
		group := r.items[:n]
		if i := slices.IndexFunc(group, func(i flow.Item) bool { return !s.takes(i.Kind) }); i >= 0 {
			return row{out, flow.Fault{E: 4, At: s.at, Name: s.name}}
		}
		if n < size && r.fault.E != 0 {
			break
		}
		made, big := s.of(group)
		out = append(out, made...)
		if big {
			return row{out, flow.Fault{E: 5, At: s.at, Name: s.name}}
		}
		r.items = r.items[n:]
	}
	return row{out, r.fault}
}

func merged(lines []row) row {
	var out row
	ended := make([]bool, len(lines))
	for left := len(lines); left > 0; {
		for i := range lines {
			l := &lines[i]
			switch {
			case ended[i]:
			case len(l.items) > 0:
				out.items = append(out.items, l.items[0])
				l.items = l.items[1:]
			case l.fault.E != 0:
				out.fault = l.fault
				return out
			default:
				ended[i] = true
				left--
			}
		}
	}
	return out
}

func (s *step) group() int {
	switch s.name {
	case "pair":
		return 2
	case "dft":
		return 4
	case "sum":
		return s.k
	case "fold", "sort", "count":
		return 1 << 30
	}
	return 1
}

func (s *step) takes(kind int) bool {
	switch s.name {
	case "add", "mul", "even", "pair", "sum", "fold":
		return kind == 0
	case "turn", "len":
		return kind == 1
	case "spin", "norm", "dft":
		return kind == 2
	}
	return true
}

// of is what a stage makes of a group of values, none of a kind that it does not take; true: and behind it ErrBig.
func (s *step) of(g []flow.Item) ([]flow.Item, bool) {
	number := func(n int64) []flow.Item { return []flow.Item{num(int32(n))} }
	first := g[0]
	n := int64(first.N)
	switch s.name {
	case "add":
		return number(n + int64(s.k)), false
	case "mul":
		return number(n * int64(s.k)), false
	case "even":
		return kept(first, first.N&1 == 0), false
	case "ints":
		return kept(first, first.Kind == 0), false
	case "words":
		return kept(first, first.Kind == 1), false
	case "waves":
		return kept(first, first.Kind == 2), false
	case "turn":
		turned := ""
		for _, r := range first.S {
			turned = string(r) + turned
		}
		return []flow.Item{wrd(turned)}, false
	case "len":
		return number(int64(len([]rune(first.S)))), false
	case "pair":
		w := wav(n, 0)
		if len(g) == 2 {
			w.Im = int64(g[1].N)
		}
		return []flow.Item{w}, false
	case "spin":
		return []flow.Item{spun(first, s.k)}, false
	case "norm":
		return number(first.Re*first.Re + first.Im*first.Im), false
	case "dft":
		return transformed(g)
	case "sum", "fold":
		return number(foldedBy(s, g)), false
	case "sort":
		return ordered(g), false
	case "count":
		return counted(ordered(g)), false
	case "twice":
		return []flow.Item{first, first}, false
	}
	panic("no stage " + s.name)
}

func kept(i flow.Item, keep bool) []flow.Item {
	if keep {
		return []flow.Item{i}
	}
	return nil
}

func spun(w flow.Item, k int) flow.Item {
	for range ((k % 4) + 4) % 4 {
		w = wav(-w.Im, w.Re)
	}
	return w
}

func transformed(g []flow.Item) ([]flow.Item, bool) {
	var out []flow.Item
	for k := range 4 {
		sum := wav(0, 0)
		for j, w := range g {
			w = spun(w, -j*k)
			sum.Re += w.Re
			sum.Im += w.Im
		}
		if max(sum.Re, -sum.Re, sum.Im, -sum.Im) > 1<<40 {
			return out, true
		}
		out = append(out, sum)
	}
	return out, false
}

func foldedBy(s *step, g []flow.Item) int64 {
	var all []int64
	total := int64(0)
	for _, i := range g {
		all = append(all, int64(i.N))
		total += int64(i.N)
	}
	switch s.how {
	case "max":
		return slices.Max(all)
	case "min":
		return slices.Min(all)
	}
	return total
}

func ordered(g []flow.Item) []flow.Item {
	g = slices.Clone(g)
	slices.SortFunc(g, func(a, b flow.Item) int {
		return cmp.Or(a.Kind-b.Kind, cmp.Compare(a.N, b.N), strings.Compare(a.S, b.S), cmp.Compare(a.Re, b.Re), cmp.Compare(a.Im, b.Im))
	})
	return g
}

func counted(g []flow.Item) []flow.Item {
	var out []flow.Item
	for len(g) > 0 {
		n := 1
		for n < len(g) && g[n] == g[0] {
			n++
		}
		t := g[0].S
		switch g[0].Kind {
		case 0:
			t = strconv.Itoa(int(g[0].N))
		case 2:
			t = strconv.Itoa(int(g[0].Re)) + map[bool]string{true: "-", false: "+"}[g[0].Im < 0] + strconv.Itoa(int(max(g[0].Im, -g[0].Im))) + "i"
		}
		out = append(out, wrd(t+"*"+strconv.Itoa(n)))
		g = g[n:]
	}
	return out
}

// anyLine makes a line by chance, of at most some stages; the next number is that of the stage behind them.
func anyLine(r *rand.Rand, most int, next *int) []*step {
	names := []string{"add", "mul", "even", "ints", "words", "waves", "turn", "len", "pair", "spin", "norm", "dft", "sum", "fold", "sort", "count", "take", "skip", "twice", "both", "both", "par", "par"}
	var line []*step
	for n := r.Intn(most + 1); n > 0 && *next < 12; n-- {
		s := &step{name: names[r.Intn(len(names))], at: *next}
		*next++
		switch s.name {
		case "add", "mul", "spin":
			s.k = r.Intn(1999) - 999
		case "sum":
			s.k = 1 + r.Intn(9)
		case "take", "skip":
			s.k = r.Intn(6)
		case "fold":
			s.how = []string{"max", "min", "sum"}[r.Intn(3)]
		case "both":
			s.a = anyLine(r, 2, next)
			s.b = anyLine(r, 2, next)
		case "par":
			s.k = 1 + r.Intn(4)
			s.a = anyLine(r, 3, next)
		}
		line = append(line, s)
	}
	return line
}

// anyItems makes items by chance: mostly of one kind, so that lines come far; now and then one of another kind, or one that is no value, often behind all others.
func anyItems(r *rand.Rand) []flow.Item {
	var in []flow.Item
	kind := r.Intn(3)
	odd := []int{1000, 20, 5, 1}[r.Intn(4)]
	for range r.Intn(14) {
		k := kind
		if r.Intn(odd) == 0 {
			k = r.Intn(3)
		}
		if r.Intn(50) == 0 {
			k = 3 + r.Intn(2)
		}
		in = append(in, anyItem(r, k))
	}
	if r.Intn(3) == 0 {
		in = append(in, none)
	}
	return in
}

func anyItem(r *rand.Rand, kind int) flow.Item {
	switch kind {
	case 0:
		return num([]int32{0, 1, 2, -3, 7, 7, 1<<31 - 1, -1 << 31, int32(r.Uint32())}[r.Intn(9)])
	case 1:
		return wrd([]string{"", "a", "b", "ab", "a", "7", "h\u00e9", "\xff\xfe", "\u4e16\u754c"}[r.Intn(9)])
	case 2:
		parts := []int64{0, 1, -1, 5, 0, 2, 1 << 40, -1 << 40, 1 << 39}
		return wav(parts[r.Intn(9)], parts[r.Intn(9)])
	case 3:
		return wav(r.Int63n(9), 1<<40+1)
	}
	return flow.Item{Kind: r.Intn(9) + 3}
}

// asStream ends a list where an item is no value.
func asStream(in []flow.Item) row {
	for i, item := range in {
		if item.Kind > 2 || item.Kind == 2 && max(item.Re, -item.Re, item.Im, -item.Im) > 1<<40 {
			return row{in[:i], flow.Fault{E: 7, At: -1}}
		}
	}
	return row{items: in}
}

func TestRunAgainstTheModel(t *testing.T) {
	r := rand.New(rand.NewSource(1))
	faults := map[flow.Fault]int{}
	for range 20000 {
		next := 0
		steps := anyLine(r, 6, &next)
		spec := text(steps)
		if len(spec) > 120 {
			continue
		}
		l := wantLine(t, spec)
		for range 3 {
			in := anyItems(r)
			want := through(steps, asStream(in))
			out, err := l.Run(in)
			if got := flow.Tell(err); got != want.fault || !slices.Equal(out, want.items) {
				t.Fatalf("P3: %q of %v = %v, %+v, want %v, %+v", spec, in, out, got, want.items, want.fault)
			}
			faults[flow.Fault{E: want.fault.E}]++
		}
	}
	for _, e := range []int{0, 4, 5, 7} {
		if faults[flow.Fault{E: e}] < 100 {
			t.Errorf("the lines made by chance seldom end with E %d: %v", e, faults)
		}
	}
}

// called is what a function makes of a stream that does what plain.Act does, and how often it is called.
func called(r row, at int, name string, mode, m int) (row, int) {
	var out []flow.Item
	for n, item := range r.items {
		if n+1 == m && mode >= 1 && mode <= 4 {
			return row{out, flow.Fault{E: []int{0, 8, 6, 7, 7}[mode], At: at, Name: name}}, m
		}
		made, goesOn, _ := plain.Act(mode, 0, n+1, item)
		if goesOn {
			made.N *= int32(1 - min(made.Kind, 1))
			out = append(out, made)
		}
	}
	return row{out, r.fault}, len(r.items)
}

// TestThenAgainstTheModel puts up to three functions behind lines made by chance, and runs those lines by each of their ways.
func TestThenAgainstTheModel(t *testing.T) {
	r := rand.New(rand.NewSource(2))
	for range 10000 {
		next := 0
		steps := anyLine(r, 4, &next)
		if len(text(steps)) > 120 {
			continue
		}
		in := anyItems(r)
		want := through(steps, asStream(in))
		l := wantLine(t, text(steps))
		var calls, wantCalls [3]int
		for i := range r.Intn(4) {
			name, mode, m := names[r.Intn(len(names))], r.Intn(9), 1+r.Intn(5)
			l = l.Then(name, func(item flow.Item) (flow.Item, bool, error) {
				calls[i]++
				return plain.Act(mode, m, calls[i], item)
			})
			want, wantCalls[i] = called(want, next+i, name, mode, m)
		}
		ways := []func() ([]flow.Item, flow.Fault){
			func() ([]flow.Item, flow.Fault) { return plain.Run(l, in) },
			func() ([]flow.Item, flow.Fault) { out, f, _ := plain.Loop(l, in, 0); return out, f },
			func() ([]flow.Item, flow.Fault) { return plain.Through(l, in, 0, false) },
			func() ([]flow.Item, flow.Fault) {
				c := flow.Count(l)
				out, err := c.Run(in)
				wantSeen(t, l.String(), c, len(want.items))
				return out, flow.Tell(err)
			},
		}
		for way, run := range ways {
			clear(calls[:])
			out, fault := run()
			if !slices.Equal(out, want.items) || fault != want.fault || calls != wantCalls {
				t.Fatalf("P6: %q of %v, way %d = %v, %+v, %v calls, want %v, %+v, %v", l, in, way, out, fault, calls, want.items, want.fault, wantCalls)
			}
		}
	}
}

// TestRunAllAgainstTheModel runs lines made by chance side by side, some of them no lines.
func TestRunAllAgainstTheModel(t *testing.T) {
	r := rand.New(rand.NewSource(3))
	for range 500 {
		in := anyItems(r)
		var specs []string
		var want []row
		for range r.Intn(20) {
			next := 0
			steps := anyLine(r, 6, &next)
			spec, answer := text(steps), through(steps, asStream(in))
			if r.Intn(5) == 0 {
				spec += "?"
			}
			if _, f := plain.Parse(spec); f != noFault {
				answer = row{nil, f}
			}
			specs = append(specs, spec)
			want = append(want, answer)
		}
		outs, fs := plain.RunAll(specs, in)
		if len(outs) != len(specs) || len(fs) != len(specs) {
			t.Fatalf("P7: %d specs: %d answers, %d errors", len(specs), len(outs), len(fs))
		}
		for i, w := range want {
			if !slices.Equal(outs[i], w.items) || fs[i] != w.fault {
				t.Errorf("P7: %q of %v = %v, %+v, want %v, %+v", specs[i], in, outs[i], fs[i], w.items, w.fault)
			}
		}
	}
}
