// Package check tells whether a program keeps to the bounds, and whether its
// names are there.
package check

import (
	"pointsman/api"
	"pointsman/syntax"
)

// Program tells the first fault of a program, and its place.
func Program(program syntax.Program) (api.Errno, int) {
	c := checker{program: program, functions: firstFunctions(program)}
	for index := range program.Functions {
		c.function(index)
	}
	if !c.hasMain() {
		c.report(api.ErrName, program.End)
	}
	return c.fault, c.place
}

// firstFunctions tells of each name the first function that has it: a call may
// stand ahead of the function, and where several have the name the first
// one's parentheses count.
func firstFunctions(program syntax.Program) map[string]int {
	first := map[string]int{}
	for index, function := range program.Functions {
		if _, there := first[function.Name.Text]; !there {
			first[function.Name.Text] = index
		}
	}
	return first
}

type checker struct {
	program   syntax.Program
	functions map[string]int // the first function of each name
	variables map[string]int // the places of those of the function at hand
	fault     api.Errno
	place     int
}

// report keeps a fault, if it is the first one. The program is gone through as
// it stands in the text, so that is the first by its place too.
func (c *checker) report(fault api.Errno, place int) {
	if c.fault == api.OK {
		c.fault, c.place = fault, place
	}
}

func (c *checker) hasMain() bool {
	index, there := c.functions["main"]
	return there && len(c.program.Functions[index].Parameters) == 0
}

func (c *checker) function(index int) {
	function := c.program.Functions[index]
	if index >= api.MaxFuncs {
		c.report(api.ErrMany, function.Name.Place)
	}
	if c.functions[function.Name.Text] != index {
		c.report(api.ErrTwice, function.Name.Place)
	}
	c.variables = map[string]int{}
	for _, name := range function.Parameters {
		c.declare(name)
	}
	c.block(function.Body, 1)
}

func (c *checker) declare(name syntax.Name) {
	if len(c.variables) >= api.MaxVars {
		c.report(api.ErrMany, name.Place)
	}
	if _, there := c.variables[name.Text]; there {
		c.report(api.ErrTwice, name.Place)
	}
	c.variables[name.Text] = name.Place
}

func (c *checker) block(block syntax.Block, depth int) {
	if depth > api.MaxNest {
		c.report(api.ErrMany, block.Place)
	}
	for _, statement := range block.Statements {
		c.statement(statement, depth)
	}
}

// statement asks for the names of a statement in the order of their places.
func (c *checker) statement(s syntax.Statement, depth int) {
	switch s.Kind {
	case syntax.Declare:
		c.declare(s.Target)
	case syntax.Make:
		c.variable(s.Target)
	case syntax.TakeAddress, syntax.TakeField, syntax.Load, syntax.Copy, syntax.Store:
		c.variable(s.Target)
		c.variable(s.Source)
	case syntax.TakeFunction:
		c.variable(s.Target)
		c.functionName(s.Source)
	case syntax.Call:
		c.variable(s.Target)
		c.called(s.Source, len(s.Arguments))
		c.allVariables(s.Arguments)
	case syntax.CallThrough:
		c.variable(s.Target)
		c.variable(s.Source)
		c.allVariables(s.Arguments)
	case syntax.Return:
		c.variable(s.Source)
	case syntax.Choose, syntax.Repeat:
		for _, block := range s.Blocks {
			c.block(block, depth+1)
		}
	}
}

func (c *checker) allVariables(names []syntax.Name) {
	for _, name := range names {
		c.variable(name)
	}
}

func (c *checker) variable(name syntax.Name) {
	if _, there := c.variables[name.Text]; !there {
		c.report(api.ErrName, name.Place)
	}
}

func (c *checker) functionName(name syntax.Name) {
	if _, there := c.functions[name.Text]; !there {
		c.report(api.ErrName, name.Place)
	}
}

func (c *checker) called(name syntax.Name, arguments int) {
	index, there := c.functions[name.Text]
	if !there {
		c.report(api.ErrName, name.Place)
		return
	}
	if len(c.program.Functions[index].Parameters) != arguments {
		c.report(api.ErrArity, name.Place)
	}
}
