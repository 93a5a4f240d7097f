package analysis

import (
	"pointsman/plan"
	"pointsman/syntax"
)

// rule is the rule of a statement, which stands in that function.
type rule struct {
	function int
	step     plan.Step
}

func (r rule) target() int { return variableNumber(r.function, r.step.Target) }

func (r rule) source() int { return variableNumber(r.function, r.step.Source) }

// begin does what a rule asks for whatever the sets are. Of one that goes by the
// targets in a set, it notes which set that is.
func (s *solver) begin(r rule) {
	switch r.step.Kind {
	case syntax.Make:
		s.give(r.target(), setOf(fieldNumber(r.step.Number, 0)))
	case syntax.TakeAddress:
		s.give(r.target(), setOf(r.source()))
	case syntax.TakeFunction:
		s.give(r.target(), setOf(functionNumber(r.step.Source)))
	case syntax.Copy:
		s.flow(r.source(), r.target())
	case syntax.Call:
		s.call(r, r.step.Source)
	case syntax.TakeField, syntax.Load, syntax.CallThrough:
		s.follows[r.source()] = append(s.follows[r.source()], r)
	case syntax.Store:
		s.follows[r.target()] = append(s.follows[r.target()], r)
	}
}

// follow does what a rule asks for when one more target is in the set that it
// goes by.
func (s *solver) follow(r rule, number int) {
	target := targetOf(number)
	isCell := target.Kind != plan.Code
	switch r.step.Kind {
	case syntax.TakeField:
		if target.Kind == plan.Field && target.Index == 0 {
			s.give(r.target(), setOf(fieldNumber(target.Owner, r.step.Field)))
		}
	case syntax.Load:
		if isCell {
			s.flow(number, r.target())
		}
	case syntax.Store:
		if isCell {
			s.flow(r.source(), number)
		}
	case syntax.CallThrough:
		if !isCell {
			s.enter(r, target.Owner)
		}
	}
}

// enter lets a call through a pointer enter a function, if that one takes as
// many arguments.
func (s *solver) enter(r rule, function int) {
	if s.program.Functions[function].Parameters != len(r.step.Arguments) {
		return
	}
	s.enters[r.step.Number].add(function)
	s.call(r, function)
}

// call passes a call's arguments in, and out what the function gives back.
func (s *solver) call(r rule, function int) {
	for index, argument := range r.step.Arguments {
		s.flow(variableNumber(r.function, argument), variableNumber(function, index))
	}
	for _, returned := range s.returns[function].numbers() {
		s.flow(returned, r.target())
	}
}
