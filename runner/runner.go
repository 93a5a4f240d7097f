// Package runner runs a program step by step.
package runner

import (
	"pointsman/api"
	"pointsman/plan"
	"pointsman/syntax"
)

// Run runs a program for at most so many steps.
func Run(program plan.Program, choices string, steps int) api.Trace {
	m := machine{
		program: program,
		choices: choices,
		end:     api.Running,
		points:  map[sight]struct{}{},
		enters:  map[entry]struct{}{},
	}
	m.enter(program.Main, nil, 0)
	m.leaveEnded()
	limit := min(max(steps, 0), api.MaxSteps)
	done := 0
	for m.end == api.Running && done < limit {
		m.step()
		m.leaveEnded()
		done++
	}
	seen := m.seen()
	return api.Trace{End: m.end, Steps: done, Seen: seen}
}

// machine is a run as far as it has come.
type machine struct {
	program plan.Program
	choices string // those that are not taken yet
	memory  []cell // a cell's address is its place here
	frames  []frame
	end     int
	points  map[sight]struct{}
	enters  map[entry]struct{}
}

// frame is a function that is entered and has not returned.
type frame struct {
	function int
	base     int // the address of its first variable
	next     int // the step to be done next
	answer   int // the address of what gets what it gives back, but for main's
}

// step does one statement of the function that was entered last.
func (m *machine) step() {
	top := &m.frames[len(m.frames)-1]
	s := m.program.Functions[top.function].Steps[top.next]
	top.next = s.Next
	target, source := top.base+s.Target, top.base+s.Source
	switch s.Kind {
	case syntax.Make:
		m.set(target, m.makeFields(s.Number))
	case syntax.TakeAddress:
		m.set(target, value{pointer, source})
	case syntax.TakeField:
		m.takeField(target, source, s.Field)
	case syntax.TakeFunction:
		m.set(target, value{code, s.Source})
	case syntax.Copy:
		m.set(target, m.memory[source].holds)
	case syntax.Load:
		m.load(target, source)
	case syntax.Store:
		m.store(target, source)
	case syntax.Call:
		m.enter(s.Source, m.arguments(top.base, s.Arguments), target)
	case syntax.CallThrough:
		m.enterThrough(source, s.Number, m.arguments(top.base, s.Arguments), target)
	case syntax.Return:
		m.leave(m.memory[source].holds)
	case syntax.Choose, syntax.Repeat:
		if m.choose() {
			top.next = s.Taken
		}
	}
}

// choose takes the next choice. Choices are bytes, whatever characters they
// are pieces of.
func (m *machine) choose() bool {
	if m.choices == "" {
		return false
	}
	choice := m.choices[0]
	m.choices = m.choices[1:]
	return choice == '1'
}

func (m *machine) arguments(base int, variables []int) []value {
	held := make([]value, 0, len(variables))
	for _, variable := range variables {
		held = append(held, m.memory[base+variable].holds)
	}
	return held
}

// enter enters a function, if there is room for one more, and tells whether it
// did.
func (m *machine) enter(function int, arguments []value, answer int) bool {
	if len(m.frames) >= api.MaxDeep {
		m.end = api.Deep
		return false
	}
	base := len(m.memory)
	m.frames = append(m.frames, frame{function: function, base: base, answer: answer})
	for index := range m.program.Functions[function].Variables {
		m.memory = append(m.memory, cell{name: plan.Target{Kind: plan.Variable, Owner: function, Index: index}})
	}
	for index, argument := range arguments {
		m.set(base+index, argument)
	}
	return true
}

// enterThrough enters the function that the cell at source holds.
func (m *machine) enterThrough(source int, call int, arguments []value, answer int) {
	held := m.memory[source].holds
	if held.kind != code || m.program.Functions[held.number].Parameters != len(arguments) {
		m.end = api.Trapped
		return
	}
	if m.enter(held.number, arguments, answer) {
		m.enters[entry{call, held.number}] = struct{}{}
	}
}

// leave lets the function that was entered last give back what is held.
func (m *machine) leave(held value) {
	last := len(m.frames) - 1
	answer := m.frames[last].answer
	m.frames = m.frames[:last]
	if last == 0 {
		m.end = api.Finished
		return
	}
	m.set(answer, held)
}

// leaveEnded leaves each function whose block's end is reached: that is no step
// of its own, and may end several functions at once.
func (m *machine) leaveEnded() {
	for m.end == api.Running {
		top := m.frames[len(m.frames)-1]
		if top.next < len(m.program.Functions[top.function].Steps) {
			return
		}
		m.leave(value{})
	}
}
