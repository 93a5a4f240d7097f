package analysis

import "pointsman/syntax"

// reached tells main and all functions that are called from there on, by the
// sets as they are: it is asked for when they grow no more.
func (s *solver) reached() set {
	found := setOf(s.program.Main)
	waiting := []int{s.program.Main}
	for len(waiting) > 0 {
		caller := waiting[0]
		waiting = waiting[1:]
		for _, callee := range s.callees(caller).numbers() {
			if found.add(callee) {
				waiting = append(waiting, callee)
			}
		}
	}
	return found
}

// callees tells the functions that a function's own statements call, by their
// names or through pointers.
func (s *solver) callees(function int) set {
	all := set{}
	for _, step := range s.program.Functions[function].Steps {
		switch step.Kind {
		case syntax.Call:
			all.add(step.Source)
		case syntax.CallThrough:
			all.take(s.enters[step.Number])
		}
	}
	return all
}
