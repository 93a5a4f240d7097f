package analysis

import (
	"strings"
	"testing"

	"pointsman/plan"
	"pointsman/syntax"
)

// small is the plan of:
// fn g(x) { return x; x = new; } fn main() { var p; var q; q = (*p)(q); p = @g; q = &p; p = (*p)(); }
func small() plan.Program {
	return plan.Program{Main: 1, Places: 1, Calls: 2, Functions: []plan.Function{
		{Name: "g", Variables: []string{"x"}, Parameters: 1, Steps: []plan.Step{
			{Kind: syntax.Return, Next: 1},
			{Kind: syntax.Make, Number: 1, Next: 2},
		}},
		{Name: "main", Variables: []string{"p", "q"}, Steps: []plan.Step{
			{Kind: syntax.Declare, Next: 1},
			{Kind: syntax.Declare, Target: 1, Next: 2},
			{Kind: syntax.CallThrough, Target: 1, Source: 0, Number: 1, Arguments: []int{1}, Next: 3},
			{Kind: syntax.TakeFunction, Source: 0, Next: 4},
			{Kind: syntax.TakeAddress, Target: 1, Source: 0, Next: 5},
			{Kind: syntax.CallThrough, Number: 2, Next: 6},
		}},
	}}
}

func TestOf(t *testing.T) {
	program := small()
	sets := Of(program)
	want := func(what string, list []string, there bool, targets string) {
		t.Helper()
		if !there || strings.Join(list, " ") != targets {
			t.Errorf("%s: %q, %v, want %q", what, list, there, targets)
		}
	}
	list, there := sets.Variable("g", "x")
	want("g.x", list, there, "1.0 main.p")
	list, there = sets.Variable("main", "p")
	want("main.p", list, there, "@g")
	list, there = sets.Variable("main", "q")
	want("main.q", list, there, "1.0 main.p")
	list, there = sets.Field(1, 0)
	want("1.0", list, there, "")
	list, there = sets.Call(1)
	want("call 1", list, there, "g")
	list, there = sets.Call(2)
	want("call 2", list, there, "")
	if len(program.Functions[1].Steps) != 6 {
		t.Errorf("the program has lost its steps")
	}
}

func TestNotThere(t *testing.T) {
	sets := Of(small())
	for _, name := range [][2]string{{"g", "p"}, {"main", "x"}, {"", ""}, {"h", "x"}} {
		if list, there := sets.Variable(name[0], name[1]); there || list != nil {
			t.Errorf("%s: %q, %v", name, list, there)
		}
	}
	for _, field := range [][2]int{{0, 0}, {2, 0}, {1, -1}, {1, 4}, {1<<62 + 1, 0}} {
		if list, there := sets.Field(field[0], field[1]); there || list != nil {
			t.Errorf("%d: %q, %v", field, list, there)
		}
	}
	for _, call := range []int{-1, 0, 3} {
		if list, there := sets.Call(call); there || list != nil {
			t.Errorf("call %d: %q, %v", call, list, there)
		}
	}
}

// What is kept holds no steps: nothing asks for them.
func TestKeepsNoSteps(t *testing.T) {
	for _, function := range Of(small()).program.Functions {
		if function.Steps != nil {
			t.Errorf("%s has its steps: %v", function.Name, function.Steps)
		}
	}
}
