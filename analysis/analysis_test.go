package analysis

import (
	"strings"
	"testing"

	"pointsman/plan"
	"pointsman/syntax"
)

// small is the plan of:
// fn g(x) { return x; x = new; } fn main() { var p; var q; q = (*p)(q); p = @g; q = &p; p = (*p)(); }
func small() plan.Program {
	return plan.Program{Main: 1, Places: 1, Calls: 2, Functions: []plan.Function{
		{Name: "g", Variables: []string{"x"}, Parameters: 1, Steps: []plan.Step{
			{Kind: syntax.Return, Next: 1},
			{Kind: syntax.Make, Number: 1, Next: 2},
		}},
		{Name: "main", Variables: []string{"p", "q"}, Steps: []plan.Step{
			{Kind: syntax.Declare, Next: 1},
			{Kind: syntax.Declare, Target: 1, Next: 2},
			{Kind: syntax.CallThrough, Target: 1, Source: 0, Number: 1, Arguments: []int{1}, Next: 3},
			{Kind: syntax.TakeFunction, Source: 0, Next: 4},
			{Kind: syntax.TakeAddress, Target: 1, Source: 0, Next: 5},
			{Kind: syntax.CallThrough, Number: 2, Next: 6},
		}},
	}}
}

func TestOf(t *testing.T) {
	program := small()
	sets := Of(program)
	want := func(what string, list []string, there bool, targets string) {
		t.Helper()
		if !there || strings.Join(list, " ") != targets {
			t.Errorf("%s: %q, %v, want %q", what, list, there, targets)
		}
	}
	list, there := sets.Variable("g", "x")
	want("g.x", list, there, "1.0 main.p")
	list, there = sets.Variable("main", "p")
	want("main.p", list, there, "@g")
	list, there = sets.Variable("main", "q")
	want("main.q", list, there, "1.0 main.p")
	list, there = sets.Field(1, 0)
	want("1.0", list, there, "")
	list, there = sets.Call(1)
	want("call 1", list, there, "g")
	list, there = sets.Call(2)
	want("call 2", list, there, "")
	want("reached", sets.Reach(), true, "g main")
	if len(program.Functions[1].Steps) != 6 {
		t.Errorf("the program has lost its steps")
	}
}

func TestAlias(t *testing.T) {
	sets := Of(small())
	for _, c := range []struct {
		names         [4]string
		shared, there bool
	}{
		{[4]string{"g", "x", "main", "q"}, true, true},
		{[4]string{"g", "x", "main", "p"}, false, true},
		{[4]string{"main", "p", "main", "p"}, true, true},
		{[4]string{"g", "x", "g", "q"}, false, false},
		{[4]string{"main", "x", "g", "x"}, false, false},
		{[4]string{"h", "x", "h", "x"}, false, false},
	} {
		if shared, there := sets.Alias(c.names[0], c.names[1], c.names[2], c.names[3]); shared != c.shared || there != c.there {
			t.Errorf("%q: %v, %v", c.names, shared, there)
		}
	}
}

// Of two functions one is called by its name; nothing calls the third, so what
// that one calls is not reached either.
func TestReach(t *testing.T) {
	program := plan.Program{Main: 3, Calls: 1, Functions: []plan.Function{
		{Name: "z"},
		{Name: "a", Variables: []string{"x"}, Steps: []plan.Step{{Kind: syntax.Call, Source: 0, Next: 1}}},
		{Name: "b", Variables: []string{"x"}, Steps: []plan.Step{{Kind: syntax.Call, Source: 4, Next: 1}}},
		{Name: "main", Variables: []string{"x"}, Steps: []plan.Step{
			{Kind: syntax.Return, Next: 4},
			{Kind: syntax.TakeFunction, Source: 2, Next: 2},
			{Kind: syntax.CallThrough, Number: 1, Arguments: []int{0}, Next: 3},
			{Kind: syntax.Call, Source: 1, Next: 4},
		}},
		{Name: "c"},
	}}
	if got := strings.Join(Of(program).Reach(), " "); got != "a main z" {
		t.Errorf("reached are %s", got)
	}
}

func TestNotThere(t *testing.T) {
	sets := Of(small())
	for _, name := range [][2]string{{"g", "p"}, {"main", "x"}, {"", ""}, {"h", "x"}} {
		if list, there := sets.Variable(name[0], name[1]); there || list != nil {
			t.Errorf("%s: %q, %v", name, list, there)
		}
	}
	for _, field := range [][2]int{{0, 0}, {2, 0}, {1, -1}, {1, 4}, {1<<62 + 1, 0}} {
		if list, there := sets.Field(field[0], field[1]); there || list != nil {
			t.Errorf("%d: %q, %v", field, list, there)
		}
	}
	for _, call := range []int{-1, 0, 3} {
		if list, there := sets.Call(call); there || list != nil {
			t.Errorf("call %d: %q, %v", call, list, there)
		}
	}
}

// What is kept holds no steps: nothing asks for them.
func TestKeepsNoSteps(t *testing.T) {
	for _, function := range Of(small()).program.Functions {
		if function.Steps != nil {
			t.Errorf("%s has its steps: %v", function.Name, function.Steps)
		}
	}
}
