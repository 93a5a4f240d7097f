// Package pointsman: a reader, a runner and a pointer analysis of small programs: see DOC.md.
package pointsman

import (
	"pointsman/analysis"
	"pointsman/api"
	"pointsman/plan"
	"pointsman/runner"
)

// Result is what an analysis has found.
type Result struct {
	sets analysis.Sets
}

// Print tells a program's text as it is written always (P4).
func Print(text string) (string, api.Errno, int) {
	tokens, _, fault, place := readText(text)
	if fault != api.OK {
		return "", fault, place
	}
	return joinTokens(tokens), api.OK, 0
}

// Run runs a program (P5).
func Run(text string, choices string, steps int) (api.Trace, api.Errno, int) {
	_, program, fault, place := readText(text)
	if fault != api.OK {
		return api.Trace{}, fault, place
	}
	return runner.Run(plan.Of(program), choices, steps), api.OK, 0
}

// Analyse analyses a program (P6).
func Analyse(text string) (*Result, api.Errno, int) {
	_, program, fault, place := readText(text)
	if fault != api.OK {
		return nil, fault, place
	}
	return &Result{analysis.Of(plan.Of(program))}, api.OK, 0
}

// Points tells what a variable may point to (P7).
func (r *Result) Points(function string, variable string) ([]string, api.Errno) {
	return orNone(r.sets.Variable(function, variable))
}

// Field tells what a field of what a place has made may point to (P7).
func (r *Result) Field(place int, field int) ([]string, api.Errno) {
	return orNone(r.sets.Field(place, field))
}

// Enters tells which functions a call may enter (P7).
func (r *Result) Enters(call int) ([]string, api.Errno) {
	return orNone(r.sets.Call(call))
}

func orNone(list []string, there bool) ([]string, api.Errno) {
	if !there {
		return nil, api.ErrNone
	}
	return list, api.OK
}

// Reach tells which functions may be entered (P8).
func (r *Result) Reach() []string { return r.sets.Reach() }

// Alias tells whether two variables may point to the same (P8).
func (r *Result) Alias(f string, v string, g string, w string) (bool, api.Errno) {
	shared, there := r.sets.Alias(f, v, g, w)
	if !there {
		return false, api.ErrNone
	}
	return shared, api.OK
}
