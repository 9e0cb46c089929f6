package flow_test

import (
	"errors"
	"slices"
	"strconv"
	"strings"
	"testing"

	"flowline/flow"
	"flowline/plain"
)

// wantFault asks that a text is refused at a place, with nothing beside the error.
func wantFault(t *testing.T, spec string, at int) {
	t.Helper()
	l, err := flow.Parse(spec)
	var s *flow.SyntaxError
	if l != nil || !errors.As(err, &s) || err != error(s) || s.At != at || !errors.Is(err, flow.ErrSyntax) {
		t.Errorf("P2: Parse(%q) = %v, %v; want a fault at %d", spec, l, err, at)
	}
}

// wantLine asks that a text is a line that tells that text.
func wantLine(t *testing.T, spec string) *flow.Line {
	t.Helper()
	l, err := flow.Parse(spec)
	if l == nil || err != nil || l.String() != spec {
		t.Fatalf("P2: Parse(%q) = %v, %v; want a line", spec, l, err)
	}
	return l
}

// wantError asks for one of the errors that stand by themselves.
func wantError(t *testing.T, spec string, want error) {
	t.Helper()
	if l, err := flow.Parse(spec); l != nil || err != want {
		t.Errorf("P2: Parse(%.30q), of %d bytes = %v, %v; want %v", spec, len(spec), l, err, want)
	}
}

func TestParseExamples(t *testing.T) {
	l := wantLine(t, "add 3|both(even;twice|par 2(mul -1))")
	if got := strings.Join(l.Names(), ", "); got != "add, both, even, twice, par, mul" {
		t.Errorf("P2: Names() = %q", got)
	}
	wantFault(t, "add 01", 5)
	wantFault(t, "even|", 5)
	wantFault(t, "sum 0", 4)
	wantFault(t, "both(even)", 9)
	wantFault(t, "ev", 2)
}

func TestParseBoundsOfK(t *testing.T) {
	for _, c := range []struct {
		ahead, behind string
		low, high     int
	}{
		{"add ", "", -999, 999}, {"mul ", "", -999, 999}, {"spin ", "", -999, 999}, {"sum ", "", 1, 9},
		{"take ", "", 0, 99}, {"skip ", "", 0, 99}, {"par ", "(even)", 1, 4},
	} {
		for k := -1100; k <= 1100; k++ {
			spec := c.ahead + strconv.Itoa(k) + c.behind
			if k >= c.low && k <= c.high {
				wantLine(t, spec)
			} else if l, err := flow.Parse(spec); l != nil || !errors.Is(err, flow.ErrSyntax) {
				t.Errorf("P2: Parse(%q) = %v, %v; its K is out of bounds", spec, l, err)
			}
		}
		wantFault(t, c.ahead+c.behind, len(c.ahead))
		wantFault(t, c.ahead+"+1"+c.behind, len(c.ahead))
		wantFault(t, c.ahead+" 1"+c.behind, len(c.ahead))
		wantFault(t, c.ahead+"1 "+c.behind, len(c.ahead)+1)
		wantFault(t, c.ahead+"18446744073709551617"+c.behind, len(c.ahead)+len(strconv.Itoa(c.high)))
	}
	wantFault(t, "add -01", 5)
	wantFault(t, "add -", 5)
	wantFault(t, "mul -9991", 8)
}

func TestParseLength(t *testing.T) {
	longest := strings.Repeat("spin -999|", 11) + "spin -999" // 119 bytes: with 12 stages no line is longer
	wantLine(t, longest)
	wantFault(t, longest+"|", 120)
	wantFault(t, longest+" ", 119)
	wantError(t, longest+"|e", flow.ErrLong)
	wantError(t, strings.Repeat("even|", 23)+"words", flow.ErrMany) // 120 bytes
	wantError(t, strings.Repeat("even|", 22)+"words|words", flow.ErrLong)
	wantFault(t, strings.Repeat("?", 120), 0)
	wantError(t, strings.Repeat("?", 121), flow.ErrLong)
	wantError(t, strings.Repeat("\xff", 1<<20), flow.ErrLong)
}

func TestParseManyStages(t *testing.T) {
	wantLine(t, strings.Repeat("len|", 11)+"len")
	wantError(t, strings.Repeat("len|", 12)+"len", flow.ErrMany)
	wantLine(t, "both("+strings.Repeat("len|", 4)+"len;par 1("+strings.Repeat("len|", 4)+"len))")
	wantError(t, "both("+strings.Repeat("len|", 5)+"len;par 1("+strings.Repeat("len|", 4)+"len))", flow.ErrMany)
	wantLine(t, strings.Repeat("par 1(", 12)+strings.Repeat(")", 12))
	wantError(t, strings.Repeat("par 1(", 13)+strings.Repeat(")", 13), flow.ErrMany)
	// A fault shows behind too many stages too.
	wantFault(t, strings.Repeat("len|", 13), 52)
	wantFault(t, strings.Repeat("len|", 13)+"lex", 54)
	wantFault(t, strings.Repeat("both(", 24), 120)
}

func TestParseBlanksAndCase(t *testing.T) {
	for spec, at := range map[string]int{
		" ": 0, "even ": 4, "even | even": 4, "even| even": 5, "add  1": 4, "add 1 ": 5, "add\t1": 3, "add1": 3,
		"both (even;even)": 4, "both( ;)": 5, "both(; )": 6, "par2()": 3, "par 2 ()": 5, "Even": 0, "even|EVEN": 5,
		"even\n": 4, "even\x00": 4, "\x00": 0, "é": 0, "fold  max": 5, "fold maxi": 8, "fold sum 3": 8, "even 3": 4,
		";": 0, ")": 0, "(": 0, "even)": 4, "even;even": 4, "(even)": 0, "both(;;)": 6, "both(;))": 7, "par 1(;)": 6, "both": 4, "par": 3,
	} {
		wantFault(t, spec, at)
	}
}

func TestStagesAndNames(t *testing.T) {
	for spec, want := range map[string]string{
		"":                      "",
		"add -1":                "add",
		"fold sum|take 7":       "fold take",
		"both(;)|par 3()":       "both par",
		"both(both(len;);turn)": "both both len turn",
		"par 2(both(ints;words|waves)|sort)|skip 0|pair": "par both ints words waves sort skip pair",
		"mul 2|spin 3|norm|dft|sum 4|count|twice|even":   "mul spin norm dft sum count twice even",
	} {
		l := wantLine(t, spec)
		names, ats := plain.Stages(l)
		if got := strings.Join(names, " "); got != want || !slices.Equal(names, l.Names()) {
			t.Errorf("P2: of %q: Stages %q, Names %q; want %q", spec, got, l.Names(), want)
		}
		for i, at := range ats {
			if at != i {
				t.Errorf("P2: of %q stage %d has the number %d", spec, i, at)
			}
		}
	}
}

// TestParseNextBytes holds each byte behind each beginning of some texts against the document's grammar.
func TestParseNextBytes(t *testing.T) {
	for _, spec := range []string{
		"add -999|mul 999|even|ints|words|waves|turn|len|pair|spin -10",
		"norm|dft|sum 9|fold max|fold min|fold sum|sort|count|take 99|skip 10|twice",
		"both(add 0;par 4(both(;)|take 0))|par 1()|skip 5|sum 1|even",
		"both(both(len|turn;);mul -1|even)",
		"len|len|len|len|len|len|len|len|len|len|len|len|len|len",
	} {
		rows := [][]string{{"LINE"}}
		for i := 0; i <= len(spec); i++ {
			checkNextBytes(t, spec[:i], rows)
			if i < len(spec) {
				rows = goOn(rows, spec[i])
			}
		}
	}
}

func checkNextBytes(t *testing.T, ahead string, rows [][]string) {
	t.Helper()
	rows = opened(rows)
	for b := 0; b < 256; b++ {
		spec := ahead + string([]byte{byte(b)})
		next := goOn(rows, byte(b))
		switch {
		case len(next) == 0:
			wantFault(t, spec, len(ahead))
			wantFault(t, spec+"|even)", len(ahead))
		case !mayEnd(next):
			wantFault(t, spec, len(spec))
		default:
			if l, err := flow.Parse(spec); (l == nil || err != nil) && err != flow.ErrMany {
				t.Errorf("P2: Parse(%q) = %v, %v; want a line", spec, l, err)
			}
		}
	}
}

// standsFor is the document's grammar: all that a sign may stand for; nil of what is no sign but a text.
func standsFor(sign string) [][]string {
	switch sign {
	case "LINE":
		return [][]string{{}, {"STAGE", "MORE"}}
	case "MORE":
		return [][]string{{}, {"|", "STAGE", "MORE"}}
	case "STAGE":
		l := [][]string{
			{"fold max"}, {"fold min"}, {"fold sum"}, {"both(", "LINE", ";", "LINE", ")"}, {"par ", "K 1 4", "(", "LINE", ")"},
			{"add ", "K -999 999"}, {"mul ", "K -999 999"}, {"spin ", "K -999 999"}, {"sum ", "K 1 9"}, {"take ", "K 0 99"}, {"skip ", "K 0 99"},
		}
		for _, name := range strings.Fields("even ints words waves turn len pair norm dft sort count twice") {
			l = append(l, []string{name})
		}
		return l
	}
	bounds := strings.Fields(sign)
	if len(bounds) != 3 || bounds[0] != "K" {
		return nil
	}
	low, _ := strconv.Atoi(bounds[1])
	high, _ := strconv.Atoi(bounds[2])
	var l [][]string
	for k := low; k <= high; k++ {
		l = append(l, []string{strconv.Itoa(k)})
	}
	return l
}

// opened answers rows that begin with a text, or are empty, for rows that begin with a sign.
func opened(rows [][]string) [][]string {
	var out [][]string
	for _, row := range rows {
		if len(row) == 0 || standsFor(row[0]) == nil {
			out = append(out, row)
			continue
		}
		for _, l := range standsFor(row[0]) {
			out = append(out, opened([][]string{slices.Concat(l, row[1:])})...)
		}
	}
	return out
}

// goOn answers what may stand behind a byte, of rows that may stand ahead of it.
func goOn(rows [][]string, b byte) [][]string {
	var out [][]string
	for _, row := range opened(rows) {
		if len(row) == 0 || row[0][0] != b {
			continue
		}
		rest := row[1:]
		if len(row[0]) > 1 {
			rest = slices.Concat([]string{row[0][1:]}, rest)
		}
		out = append(out, rest)
	}
	return out
}

func mayEnd(rows [][]string) bool {
	return slices.ContainsFunc(opened(rows), func(row []string) bool { return len(row) == 0 })
}
