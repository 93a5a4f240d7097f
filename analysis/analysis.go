// Package analysis tells without a run what may point where: the least sets for
// which the rules hold, one a statement.
package analysis

import (
	"slices"

	"pointsman/api"
	"pointsman/plan"
)

// Sets is what an analysis has found. It is kept, so it holds nothing but what
// can be asked for.
type Sets struct {
	program plan.Program // without steps
	points  map[int]set  // of each cell the targets in its set
	enters  map[int]set  // of each call through a pointer the functions it enters
	reached set          // the functions that main comes to, main among them
}

// Of analyses a program.
func Of(program plan.Program) Sets {
	s := newSolver(program)
	s.solve()
	reached := s.reached()
	return Sets{program.WithoutSteps(), s.points, s.enters, reached}
}

// Variable tells the targets in a variable's set, and whether there is such a
// variable.
func (s Sets) Variable(function, variable string) ([]string, bool) {
	cell, there := s.cell(function, variable)
	if !there {
		return nil, false
	}
	return s.targets(cell), true
}

// Alias tells whether some target is in the sets of two variables, and whether
// there are both.
func (s Sets) Alias(function, variable, otherFunction, otherVariable string) (shared, there bool) {
	one, oneThere := s.cell(function, variable)
	other, otherThere := s.cell(otherFunction, otherVariable)
	if !oneThere || !otherThere {
		return false, false
	}
	return s.points[one].meets(s.points[other]), true
}

// cell tells the number of a variable, and whether there is such a one.
func (s Sets) cell(function, variable string) (int, bool) {
	for f, names := range s.program.Functions {
		v := slices.Index(names.Variables, variable)
		if names.Name == function && v >= 0 {
			return variableNumber(f, v), true
		}
	}
	return 0, false
}

// Field tells the targets in the set of a place's field, and whether there is
// such a field.
func (s Sets) Field(place, field int) ([]string, bool) {
	if place < 1 || place > s.program.Places || field < 0 || field >= api.Fields {
		return nil, false
	}
	return s.targets(fieldNumber(place, field)), true
}

// Call tells the names of the functions that a call through a pointer enters,
// and whether there is such a call.
func (s Sets) Call(call int) ([]string, bool) {
	functions, there := s.enters[call]
	if !there {
		return nil, false
	}
	return s.names(functions), true
}

// Reach tells the names of main and of all functions that it comes to.
func (s Sets) Reach() []string { return s.names(s.reached) }

func (s Sets) names(functions set) []string {
	var names []string
	for _, function := range functions.numbers() {
		names = append(names, s.program.Functions[function].Name)
	}
	slices.Sort(names)
	return names
}

func (s Sets) targets(cell int) []string {
	var texts []string
	for _, number := range s.points[cell].numbers() {
		texts = append(texts, s.program.Text(targetOf(number)))
	}
	slices.Sort(texts)
	return texts
}
