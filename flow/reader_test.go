package flow

import (
	"slices"
	"strconv"
	"strings"
	"testing"
)

// written writes a row of stages out again, from what was kept of it.
func written(row []stage) string {
	var parts []string
	for _, s := range row {
		switch s := s.(type) {
		case *simpleStage:
			i := slices.IndexFunc(patterns[:], func(p pattern) bool { return p.name == s.name })
			if patterns[i].form == formK {
				parts = append(parts, s.name+" "+strconv.Itoa(s.k))
			} else {
				parts = append(parts, s.name)
			}
		case *takeStage:
			parts = append(parts, s.name+" "+strconv.Itoa(s.k))
		case *foldStage:
			parts = append(parts, s.name+" "+s.how)
		case *bothStage:
			parts = append(parts, s.name+"("+written(s.first)+";"+written(s.second)+")")
		case *parStage:
			parts = append(parts, s.name+" "+strconv.Itoa(s.k)+"("+written(s.inner)+")")
		}
	}
	return strings.Join(parts, "|")
}

func TestParseKeepsAllOfALine(t *testing.T) {
	for _, spec := range []string{
		"", "even", "add 3|both(even;twice|par 2(mul -1))", "fold max|fold min|fold sum", "both(;)|par 4()|both(len;)|both(;len)",
		"add -999|mul 999|spin 0|sum 9|take 99|skip 10", "par 3(par 1(both(take 0;skip 7)|dft)|norm)|sort",
	} {
		l, err := Parse(spec)
		if err != nil {
			t.Fatalf("P2: Parse(%q): %v", spec, err)
		}
		if got := written(l.row); got != spec {
			t.Errorf("P2: of %q was kept %q", spec, got)
		}
	}
}

// TestPatterns asks for what word and number rely on.
func TestPatterns(t *testing.T) {
	for i, p := range patterns {
		if p.low > 1 || p.high < 0 {
			t.Errorf("%s: bounds %d to %d", p.name, p.low, p.high)
		}
		for j, q := range patterns {
			if i != j && strings.HasPrefix(p.name, q.name) {
				t.Errorf("%s begins with %s", p.name, q.name)
			}
		}
	}
}
