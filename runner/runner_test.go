package runner

import (
	"slices"
	"testing"

	"pointsman/api"
	"pointsman/plan"
	"pointsman/syntax"
)

// twice is the plan of: fn g(x) { return x; } fn main() { var p; p = @g; p = (*p)(p); }
func twice() plan.Program {
	return plan.Program{Main: 1, Functions: []plan.Function{
		{Name: "g", Variables: []string{"x"}, Parameters: 1, Steps: []plan.Step{{Kind: syntax.Return, Next: 1}}},
		{Name: "main", Variables: []string{"p"}, Steps: []plan.Step{
			{Kind: syntax.Declare, Next: 1},
			{Kind: syntax.TakeFunction, Source: 0, Next: 2},
			{Kind: syntax.CallThrough, Number: 1, Arguments: []int{0}, Next: 3},
		}},
	}}
}

func TestStepByStep(t *testing.T) {
	program := twice()
	for steps, want := range []api.Trace{
		{End: api.Running, Steps: 0},
		{End: api.Running, Steps: 1},
		{End: api.Running, Steps: 2, Seen: []string{"main.p>@g"}},
		{End: api.Running, Steps: 3, Seen: []string{"!1>g", "g.x>@g", "main.p>@g"}},
		{End: api.Finished, Steps: 4, Seen: []string{"!1>g", "g.x>@g", "main.p>@g"}},
		{End: api.Finished, Steps: 4, Seen: []string{"!1>g", "g.x>@g", "main.p>@g"}},
	} {
		got := Run(program, "", steps)
		if got.End != want.End || got.Steps != want.Steps || !slices.Equal(got.Seen, want.Seen) {
			t.Errorf("P5: %d steps: %v, want %v", steps, got, want)
		}
	}
}

// Steps may stand in another order than they are done in: a step tells what
// follows it.
func TestWhatFollowsIsToldByTheStep(t *testing.T) {
	program := plan.Program{Functions: []plan.Function{{Name: "main", Variables: []string{"p"}, Steps: []plan.Step{
		{Kind: syntax.Repeat, Next: 2, Taken: 1},
		{Kind: syntax.Make, Number: 7, Next: 0},
		{Kind: syntax.Choose, Next: 4, Taken: 3},
		{Kind: syntax.TakeAddress, Next: 4},
	}}}}
	for choices, want := range map[string]api.Trace{
		"":     {End: api.Finished, Steps: 2},
		"01":   {End: api.Finished, Steps: 3, Seen: []string{"main.p>main.p"}},
		"1":    {End: api.Finished, Steps: 4, Seen: []string{"main.p>7.0"}},
		"1101": {End: api.Finished, Steps: 7, Seen: []string{"main.p>7.0", "main.p>main.p"}},
	} {
		got := Run(program, choices, 100)
		if got.End != want.End || got.Steps != want.Steps || !slices.Equal(got.Seen, want.Seen) {
			t.Errorf("P5: choices %q: %v, want %v", choices, got, want)
		}
	}
}
