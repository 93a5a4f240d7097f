package analysis

import (
	"pointsman/api"
	"pointsman/plan"
	"pointsman/syntax"
)

// solver holds the sets while they grow. Cells and targets are numbers in it.
type solver struct {
	program plan.Program
	points  map[int]set    // of each cell the targets in its set
	enters  map[int]set    // of each call through a pointer the functions it enters
	news    map[int]set    // of each cell what came into its set and is not passed on yet
	flows   map[int]set    // of each cell those that get whatever it has
	follows map[int][]rule // of each variable the rules that go by what it has
	returns map[int]set    // of each function the variables that it gives back
}

func newSolver(program plan.Program) *solver {
	s := &solver{
		program: program,
		points:  map[int]set{},
		enters:  map[int]set{},
		news:    map[int]set{},
		flows:   map[int]set{},
		follows: map[int][]rule{},
		returns: map[int]set{},
	}
	for function := range program.Functions {
		s.addFunction(function)
	}
	for place := range program.Places {
		for field := range api.Fields {
			s.addCell(fieldNumber(place+1, field))
		}
	}
	for call := range program.Calls {
		s.enters[call+1] = set{}
	}
	return s
}

func (s *solver) addCell(cell int) {
	s.points[cell], s.flows[cell] = set{}, set{}
}

func (s *solver) addFunction(function int) {
	for variable := range s.program.Functions[function].Variables {
		s.addCell(variableNumber(function, variable))
	}
	s.returns[function] = set{}
	for _, step := range s.program.Functions[function].Steps {
		if step.Kind == syntax.Return {
			s.returns[function].add(variableNumber(function, step.Source))
		}
	}
}

// solve lets the sets grow until every rule holds. Nothing comes into a set but
// what a rule asks for, so they are the least ones, in whatever order they grow.
func (s *solver) solve() {
	for function := range s.program.Functions {
		for _, step := range s.program.Functions[function].Steps {
			s.begin(rule{function, step})
		}
	}
	for len(s.news) > 0 {
		round := s.news
		s.news = map[int]set{}
		for cell, news := range round {
			s.passOn(cell, news)
		}
	}
}

// give puts targets into a cell's set.
func (s *solver) give(cell int, targets set) {
	fresh := s.points[cell].take(targets)
	if len(fresh) == 0 {
		return
	}
	if s.news[cell] == nil {
		s.news[cell] = fresh
		return
	}
	s.news[cell].take(fresh)
}

// flow lets a cell get whatever another one has, and will have.
func (s *solver) flow(from, to int) {
	if s.flows[from].add(to) {
		s.give(to, s.points[from])
	}
}

// passOn tells what is new in a cell's set to all that go by it.
func (s *solver) passOn(cell int, news set) {
	for _, to := range s.flows[cell].numbers() {
		s.give(to, news)
	}
	numbers := news.numbers()
	for _, follower := range s.follows[cell] {
		for _, number := range numbers {
			s.follow(follower, number)
		}
	}
}
