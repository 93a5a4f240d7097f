// Package analysis tells without a run what may point where: the least sets for
// which the rules hold, one a statement.
package analysis

import (
	"slices"

	"pointsman/api"
	"pointsman/plan"
)

// Sets is what an analysis has found. It is kept, so it holds nothing but what
// can be asked for.
type Sets struct {
	program plan.Program // without steps
	points  map[int]set  // of each cell the targets in its set
	enters  map[int]set  // of each call through a pointer the functions it enters
}

// Of analyses a program.
func Of(program plan.Program) Sets {
	s := newSolver(program)
	s.solve()
	return Sets{program.WithoutSteps(), s.points, s.enters}
}

// Variable tells the targets in a variable's set, and whether there is such a
// variable.
func (s Sets) Variable(function, variable string) ([]string, bool) {
	for f, names := range s.program.Functions {
		v := slices.Index(names.Variables, variable)
		if names.Name == function && v >= 0 {
			return s.targets(variableNumber(f, v)), true
		}
	}
	return nil, false
}

// Field tells the targets in the set of a place's field, and whether there is
// such a field.
func (s Sets) Field(place, field int) ([]string, bool) {
	if place < 1 || place > s.program.Places || field < 0 || field >= api.Fields {
		return nil, false
	}
	return s.targets(fieldNumber(place, field)), true
}

// Call tells the names of the functions that a call through a pointer enters,
// and whether there is such a call.
func (s Sets) Call(call int) ([]string, bool) {
	functions, there := s.enters[call]
	if !there {
		return nil, false
	}
	var names []string
	for _, function := range functions.numbers() {
		names = append(names, s.program.Functions[function].Name)
	}
	slices.Sort(names)
	return names, true
}

func (s Sets) targets(cell int) []string {
	var texts []string
	for _, number := range s.points[cell].numbers() {
		texts = append(texts, s.program.Text(targetOf(number)))
	}
	slices.Sort(texts)
	return texts
}
