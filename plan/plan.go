// Package plan makes of a program's tree what is run and analysed: names are
// numbers there, and the statements of a function stand in one row.
package plan

import (
	"strconv"
	"strings"

	"pointsman/syntax"
)

// Program is a program; a function's number is its place in Functions.
type Program struct {
	Functions []Function
	Main      int
	Places    int // how many places there are
	Calls     int // how many calls through pointers there are
}

// Function is a function; a variable's number is its place in Variables, where
// those in parentheses stand first.
type Function struct {
	Name       string
	Variables  []string
	Parameters int // how many stand in parentheses
	Steps      []Step
}

// Step is a statement. Where blocks end is written into Next and Taken, so that
// nothing but statements is ever gone through.
type Step struct {
	Kind      syntax.Kind
	Target    int // a variable
	Source    int // a variable, or what is called or taken by its name: a function
	Field     int
	Number    int // of a new, or of a call through a pointer
	Arguments []int
	Next      int // the step that follows; behind the last one, if the function ends
	Taken     int // the one that follows if the choice is 1
}

// TargetKind is the kind of what a cell may point to or hold.
type TargetKind int

const (
	Variable TargetKind = iota
	Field
	Code
)

// Target is a variable of a function, a field of what a place has made, or a
// function. The first two are cells too.
type Target struct {
	Kind  TargetKind
	Owner int // a function, or a place
	Index int // which variable or field of it
}

// Text tells a target as it is written in answers.
func (p Program) Text(target Target) string {
	switch target.Kind {
	case Field:
		return strconv.Itoa(target.Owner) + "." + strconv.Itoa(target.Index)
	case Code:
		return "@" + p.Functions[target.Owner].Name
	}
	function := p.Functions[target.Owner]
	return function.Name + "." + function.Variables[target.Index]
}

// WithoutSteps tells a program with nothing but what answers about it are
// written by. Names are copied, so that what keeps it does not keep the text.
func (p Program) WithoutSteps() Program {
	bare := p
	bare.Functions = make([]Function, 0, len(p.Functions))
	for _, function := range p.Functions {
		bare.Functions = append(bare.Functions, Function{
			Name:       strings.Clone(function.Name),
			Variables:  cloneAll(function.Variables),
			Parameters: function.Parameters,
		})
	}
	return bare
}

func cloneAll(names []string) []string {
	clones := make([]string, 0, len(names))
	for _, name := range names {
		clones = append(clones, strings.Clone(name))
	}
	return clones
}
