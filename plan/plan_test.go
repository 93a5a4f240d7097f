package plan

import (
	"slices"
	"testing"

	"pointsman/api"
	"pointsman/check"
	"pointsman/scan"
	"pointsman/syntax"
)

func planOf(t *testing.T, text string) Program {
	t.Helper()
	tokens, _, _ := scan.Tokens(text)
	tree, fault, place := syntax.Parse(tokens)
	if fault == api.OK {
		fault, place = check.Program(tree)
	}
	if fault != api.OK {
		t.Fatalf("%q: %d, %d", text, fault, place)
	}
	return Of(tree)
}

func TestNumbersInTextOrder(t *testing.T) {
	program := planOf(t, `
		fn f(a b) { a = new; if ? { a = (*a)(); var c; c = new; } else { c = new; c = (*b)(c); } while ? { c = new; } c = (*c)(c c); }
		fn main() { var a; a = new; a = (*a)(); a = f(a a); a = @main; }`)
	var places, calls, named []int
	for _, function := range program.Functions {
		for _, step := range function.Steps {
			switch step.Kind {
			case syntax.Make:
				places = append(places, step.Number)
			case syntax.CallThrough:
				calls = append(calls, step.Number)
			case syntax.Call, syntax.TakeFunction:
				named = append(named, step.Source)
			default:
				if step.Number != 0 {
					t.Errorf("kind %d has the number %d", step.Kind, step.Number)
				}
			}
		}
	}
	if !slices.Equal(places, []int{1, 2, 3, 4, 5}) || !slices.Equal(calls, []int{1, 2, 3, 4}) || !slices.Equal(named, []int{0, 1}) {
		t.Errorf("places %v, calls %v, functions by name %v", places, calls, named)
	}
	if program.Places != 5 || program.Calls != 4 {
		t.Errorf("%d places, %d calls", program.Places, program.Calls)
	}
	f := program.Functions[0]
	if program.Main != 1 || f.Name != "f" || f.Parameters != 2 || !slices.Equal(f.Variables, []string{"a", "b", "c"}) {
		t.Errorf("main is %d, f is %v", program.Main, f)
	}
}

func TestVariablesOfEachFunction(t *testing.T) {
	program := planOf(t, "fn main() { var b; var a; a = f(b a a); *a = b; a = &b.3; return a; } fn f(x a y) { x = (*a)(y); }")
	steps := program.Functions[0].Steps
	if s := steps[2]; s.Target != 1 || s.Source != 1 || !slices.Equal(s.Arguments, []int{0, 1, 1}) {
		t.Errorf("a = f(b a a): %v", s)
	}
	if s := steps[3]; s.Target != 1 || s.Source != 0 {
		t.Errorf("*a = b: %v", s)
	}
	if s := steps[4]; s.Target != 1 || s.Source != 0 || s.Field != 3 {
		t.Errorf("a = &b.3: %v", s)
	}
	if s := steps[5]; s.Source != 1 {
		t.Errorf("return a: %v", s)
	}
	if s := program.Functions[1].Steps[0]; s.Target != 0 || s.Source != 1 || !slices.Equal(s.Arguments, []int{2}) {
		t.Errorf("x = (*a)(y): %v", s)
	}
}

func TestWhatFollows(t *testing.T) {
	for body, want := range map[string][][2]int{ // of each step what follows, and what does if the choice is 1
		"":                                {},
		"var a;":                          {{1, 0}},
		"var a; a = a;":                   {{1, 0}, {2, 0}},
		"if ? { }":                        {{1, 1}},
		"if ? { } else { }":               {{1, 1}},
		"if ? { var a; } var b;":          {{2, 1}, {2, 0}, {3, 0}},
		"if ? { } else { var a; } var b;": {{1, 2}, {2, 0}, {3, 0}},
		"if ? { var a; } else { var b; }": {{2, 1}, {3, 0}, {3, 0}},
		"if ? { var a; } else { }":        {{2, 1}, {2, 0}},
		"while ? { }":                     {{1, 0}},
		"while ? { } var a;":              {{1, 0}, {2, 0}},
		"while ? { var a; var b; }":       {{3, 1}, {2, 0}, {0, 0}},
		"var a; while ? { while ? { } }":  {{1, 0}, {3, 2}, {1, 2}},
		"while ? { if ? { var a; } else { } while ? { var b; } } return a;": {{5, 1}, {3, 2}, {3, 0}, {0, 4}, {3, 0}, {6, 0}},
		"if ? { while ? { var a; } } else { if ? { var b; } } var c;":       {{3, 1}, {5, 2}, {1, 0}, {5, 4}, {5, 0}, {6, 0}},
	} {
		steps := planOf(t, "fn main() { "+body+" }").Functions[0].Steps
		var got [][2]int
		for _, step := range steps {
			got = append(got, [2]int{step.Next, step.Taken})
		}
		if !slices.Equal(got, want) {
			t.Errorf("%q: %v, want %v", body, got, want)
		}
	}
}

func TestText(t *testing.T) {
	program := planOf(t, "fn é(a à) { } fn main() { var b; }")
	for target, want := range map[Target]string{
		{Variable, 0, 1}: "é.à",
		{Variable, 1, 0}: "main.b",
		{Field, 12, 3}:   "12.3",
		{Code, 0, 0}:     "@é",
		{Code, 1, 0}:     "@main",
	} {
		if got := program.Text(target); got != want {
			t.Errorf("%v: %q, want %q", target, got, want)
		}
	}
}

func TestWithoutSteps(t *testing.T) {
	program := planOf(t, "fn f(a) { var b; b = new; b = (*a)(); } fn main() { var c; c = new; }")
	bare := program.WithoutSteps()
	if bare.Main != 1 || bare.Places != 2 || bare.Calls != 1 || len(bare.Functions) != 2 {
		t.Fatalf("%v", bare)
	}
	for i, function := range bare.Functions {
		whole := program.Functions[i]
		if function.Steps != nil || function.Name != whole.Name || function.Parameters != whole.Parameters || !slices.Equal(function.Variables, whole.Variables) {
			t.Errorf("%v, of %v", function, whole)
		}
		if len(whole.Steps) == 0 {
			t.Errorf("%v has lost its steps", whole)
		}
		function.Variables[0] = "z"
		if whole.Variables[0] == "z" {
			t.Errorf("the variables of %s are not copied", whole.Name)
		}
	}
}
