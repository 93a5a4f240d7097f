package pointsman

import (
	"slices"
	"strings"
	"testing"

	"pointsman/api"
)

// told is what an analysis tells of a text.
type told struct {
	text  string
	facts []string // as what is seen in runs is written
	reach []string
}

func toldOf(t *testing.T, text string) told {
	t.Helper()
	result := analysed(t, text)
	return told{text, facts(t, text, result), result.Reach()}
}

// wantTold asks that all that a run sees is told, and each function that it
// enters: what it has seen tells some of these, the second runner all.
func (a told) wantTold(t *testing.T, choices string, steps int) (seen, entered int) {
	t.Helper()
	trace, fault, _ := Run(a.text, choices, steps)
	if fault != api.OK {
		t.Fatalf("P5: Run(%q): %d", a.text, fault)
	}
	for _, sight := range trace.Seen {
		if _, is := slices.BinarySearch(a.facts, sight); !is {
			t.Fatalf("P9: Run(%q, %q, %d) sees %s, but told are %q", a.text, choices, steps, sight, a.facts)
		}
		if name := enteredBy(sight); name != "" && !slices.Contains(a.reach, name) {
			t.Fatalf("P9: Run(%q, %q, %d) sees %s, but Reach tells %q", a.text, choices, steps, sight, a.reach)
		}
	}
	_, names := referenceRun(tokensOf(t, a.text), choices, steps)
	for _, name := range names {
		if !slices.Contains(a.reach, name) {
			t.Fatalf("P9: Run(%q, %q, %d) enters %s, but Reach tells %q", a.text, choices, steps, name, a.reach)
		}
	}
	return len(trace.Seen), len(names)
}

// enteredBy tells the function that must have been entered where that is seen.
func enteredBy(sight string) string {
	cell, target, _ := strings.Cut(sight, ">")
	owner, _, _ := strings.Cut(cell, ".")
	switch {
	case cell[0] == '!':
		return target
	case cell[0] >= '0' && cell[0] <= '9':
		return ""
	}
	return owner
}

func TestP9WrittenPrograms(t *testing.T) {
	texts := append(corpus(), holder, made+"}",
		"fn f() { } fn g() { var a; a = f(); } fn main() { var a; a = g(); a = @f; a = (*a)(); }",
		"fn main() { var a; if ? { a = @f; } else { a = @g; } while ? { a = (*a)(a); } } fn f(x) { x = @g; return x; } fn g(x) { x = new; *x = x; x = @f; return x; }",
		"fn main() { var a; a = deep(a); } fn deep(x) { var y; y = &x; if ? { y = @deep; x = (*y)(y); } else { x = deep(y); } return y; }",
		"fn push(l v) { var n; n = new; *n = l; l = &n.1; *l = v; return n; } fn main() { var l; var v; while ? { v = new; l = push(l v); } while ? { v = &l.1; v = *v; l = *l; } }")
	for _, text := range texts {
		a := toldOf(t, text)
		for bits := range 1 << 6 {
			choices := ""
			for bit := range 6 {
				choices += string("01"[bits>>bit&1])
			}
			for _, steps := range []int{-1, 0, 1, 2, 3, 5, 8, 13, 30, api.MaxSteps} {
				a.wantTold(t, choices, steps)
			}
		}
		a.wantTold(t, strings.Repeat("1", api.MaxSteps), api.MaxSteps)
	}
}

func TestP9DrawnPrograms(t *testing.T) {
	d := &dice{13}
	sights, beyond, several, outside := 0, 0, 0, 0
	for range 1500 {
		for _, text := range []string{writeProgram(d), writeTangle(d)} {
			a := toldOf(t, text)
			if len(a.reach) < count(tokensOf(t, text), "fn") {
				outside++
			}
			for _, steps := range []int{api.MaxSteps, api.MaxSteps, api.MaxSteps, d.below(40)} {
				seen, entered := a.wantTold(t, writeChoices(d), steps)
				sights += seen
				if seen < len(a.facts) {
					beyond++
				}
				if entered > 1 {
					several++
				}
			}
		}
	}
	if sights < 10000 || beyond < 1000 || several < 500 || outside < 500 {
		t.Errorf("the runs show too little: %d seen, %d times less than is told, %d times several entered, %d programs with functions out of reach", sights, beyond, several, outside)
	}
}
