package flow

const (
	mostBytes  = 120
	mostStages = 12
)

// form is what stands behind a stage's name.
type form int

const (
	formBare form = iota
	formK
	formHow
	formBoth
	formPar
)

// pattern is a stage as it may stand in a text; low and high are the bounds of its K.
type pattern struct {
	name      string
	form      form
	low, high int
}

// patterns: no name begins with another one, and no low is above 1: word and number rely on that.
var patterns = [...]pattern{
	{"add", formK, -999, 999},
	{"mul", formK, -999, 999},
	{"even", formBare, 0, 0},
	{"ints", formBare, 0, 0},
	{"words", formBare, 0, 0},
	{"waves", formBare, 0, 0},
	{"turn", formBare, 0, 0},
	{"len", formBare, 0, 0},
	{"pair", formBare, 0, 0},
	{"spin", formK, -999, 999},
	{"norm", formBare, 0, 0},
	{"dft", formBare, 0, 0},
	{"sum", formK, 1, 9},
	{"fold", formHow, 0, 0},
	{"sort", formBare, 0, 0},
	{"count", formBare, 0, 0},
	{"take", formK, 0, 99},
	{"skip", formK, 0, 99},
	{"twice", formBare, 0, 0},
	{"both", formBoth, 0, 0},
	{"par", formPar, 1, 4},
}

// Parse builds a line from a text (P2).
func Parse(spec string) (*Line, error) {
	if len(spec) > mostBytes {
		return nil, ErrLong
	}
	r := reader{spec: spec}
	row, ok := r.line(0)
	if !ok {
		return nil, &SyntaxError{At: r.at}
	}
	if r.stages > mostStages {
		return nil, ErrMany
	}
	return &Line{spec: spec, row: row}, nil
}

// reader goes through a text once, never past a byte with which no line goes on: where one of its methods answers false, at is the place of the fault.
type reader struct {
	spec   string
	at     int
	stages int
}

// line reads a LINE and the byte that closes it: 0 stands for the end of the text.
func (r *reader) line(end byte) ([]stage, bool) {
	var row []stage
	if r.closes(end) {
		return row, true
	}
	for {
		s, ok := r.stage()
		if !ok {
			return nil, false
		}
		row = append(row, s)
		if r.closes(end) {
			return row, true
		}
		if !r.skip('|') {
			return nil, false
		}
	}
}

func (r *reader) closes(end byte) bool {
	if end == 0 {
		return r.at == len(r.spec)
	}
	return r.skip(end)
}

func (r *reader) skip(b byte) bool {
	if r.at == len(r.spec) || r.spec[r.at] != b {
		return false
	}
	r.at++
	return true
}

func (r *reader) stage() (stage, bool) {
	p, ok := r.named()
	if !ok {
		return nil, false
	}
	m := mark{name: p.name, at: r.stages}
	r.stages++
	switch p.form {
	case formK:
		return r.withK(m, p)
	case formHow:
		return r.withHow(m)
	case formBoth:
		return r.withTwo(m)
	case formPar:
		return r.withInner(m, p)
	}
	return &simpleStage{mark: m}, true
}

func (r *reader) withK(m mark, p pattern) (stage, bool) {
	if !r.skip(' ') {
		return nil, false
	}
	k, ok := r.number(p.low, p.high)
	if p.name == "take" {
		return &takeStage{mark: m, k: k}, ok
	}
	return &simpleStage{mark: m, k: k}, ok
}

func (r *reader) withHow(m mark) (stage, bool) {
	if !r.skip(' ') {
		return nil, false
	}
	hows := []string{"max", "min", "sum"}
	i, ok := r.word(hows)
	if !ok {
		return nil, false
	}
	return &foldStage{mark: m, how: hows[i]}, true
}

func (r *reader) withTwo(m mark) (stage, bool) {
	if !r.skip('(') {
		return nil, false
	}
	first, ok := r.line(';')
	if !ok {
		return nil, false
	}
	second, ok := r.line(')')
	return &bothStage{mark: m, first: first, second: second}, ok
}

func (r *reader) withInner(m mark, p pattern) (stage, bool) {
	if !r.skip(' ') {
		return nil, false
	}
	k, ok := r.number(p.low, p.high)
	if !ok || !r.skip('(') {
		return nil, false
	}
	inner, ok := r.line(')')
	return &parStage{mark: m, k: k, inner: inner}, ok
}

func (r *reader) named() (pattern, bool) {
	var names []string
	for _, p := range patterns {
		names = append(names, p.name)
	}
	i, ok := r.word(names)
	if !ok {
		return pattern{}, false
	}
	return patterns[i], true
}

// word reads one of some words. Where none stands, the fault is behind the bytes that at least one of them shares with the text.
func (r *reader) word(words []string) (int, bool) {
	rest := r.spec[r.at:]
	far := 0
	for i, w := range words {
		n := shared(rest, w)
		if n == len(w) {
			r.at += n
			return i, true
		}
		far = max(far, n)
	}
	r.at += far
	return 0, false
}

// shared tells with how many bytes both texts begin.
func shared(a, b string) int {
	n := 0
	for n < len(a) && n < len(b) && a[n] == b[n] {
		n++
	}
	return n
}

// number reads a K. As no low is above 1, what stands ahead of a K's last digit is within the bounds if the K is: so the first digit that leaves them is the fault.
func (r *reader) number(low, high int) (int, bool) {
	sign := 1
	if low < 0 && r.skip('-') {
		sign = -1
	}
	k, digits := 0, 0
	for ; r.at < len(r.spec); r.at++ {
		b := r.spec[r.at]
		if b < '0' || b > '9' {
			break
		}
		next := k*10 + sign*int(b-'0')
		zeroAhead := k == 0 && (digits > 0 || sign < 0 && next == 0)
		if zeroAhead || next < low || next > high {
			break
		}
		k = next
		digits++
	}
	return k, digits > 0
}
