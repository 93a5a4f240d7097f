package plan

import "pointsman/syntax"

// Of makes the plan of a program in which check has found no fault.
func Of(tree syntax.Program) Program {
	b := builder{functions: map[string]int{}}
	for index, function := range tree.Functions {
		b.functions[function.Name.Text] = index
	}
	program := Program{Main: b.functions["main"]}
	for _, function := range tree.Functions {
		program.Functions = append(program.Functions, b.function(function))
	}
	program.Places, program.Calls = b.places, b.calls
	return program
}

// builder goes through the program once, as it stands in the text: so places
// and calls are counted in that order.
type builder struct {
	functions map[string]int
	variables map[string]int // those of the function at hand
	names     []string       // the same, by their numbers
	steps     []Step         // of the function at hand
	places    int
	calls     int
}

func (b *builder) function(function syntax.Function) Function {
	b.variables, b.names, b.steps = map[string]int{}, nil, nil
	for _, name := range function.Parameters {
		b.declare(name)
	}
	b.block(function.Body, blockSize(function.Body))
	return Function{function.Name.Text, b.names, len(function.Parameters), b.steps}
}

func (b *builder) declare(name syntax.Name) {
	b.variables[name.Text] = len(b.names)
	b.names = append(b.names, name.Text)
}

// block lays out a block that goes on at after, and tells where it begins.
func (b *builder) block(block syntax.Block, after int) int {
	if len(block.Statements) == 0 {
		return after
	}
	first := len(b.steps)
	last := len(block.Statements) - 1
	for _, statement := range block.Statements[:last] {
		b.statement(statement, len(b.steps)+statementSize(statement))
	}
	b.statement(block.Statements[last], after)
	return first
}

// statement lays out a statement that goes on at after, and its blocks. Where a
// block begins is noted on a line of its own: laying it out moves the row of
// steps, and Go leaves open whether one assignment would look for the row ahead
// of that.
func (b *builder) statement(statement syntax.Statement, after int) {
	at := len(b.steps)
	step := b.step(statement)
	step.Next = after
	b.steps = append(b.steps, step)
	switch statement.Kind {
	case syntax.Choose:
		taken := b.block(statement.Blocks[0], after)
		b.steps[at].Taken = taken
		for _, other := range statement.Blocks[1:] {
			next := b.block(other, after)
			b.steps[at].Next = next
		}
	case syntax.Repeat:
		taken := b.block(statement.Blocks[0], at)
		b.steps[at].Taken = taken
	}
}

// step tells a statement by numbers, but for what follows it.
func (b *builder) step(s syntax.Statement) Step {
	step := Step{
		Kind:   s.Kind,
		Target: b.variables[s.Target.Text],
		Source: b.variables[s.Source.Text],
		Field:  s.Field,
	}
	for _, name := range s.Arguments {
		step.Arguments = append(step.Arguments, b.variables[name.Text])
	}
	switch s.Kind {
	case syntax.Declare:
		step.Target = len(b.names)
		b.declare(s.Target)
	case syntax.TakeFunction, syntax.Call:
		step.Source = b.functions[s.Source.Text]
	case syntax.Make:
		b.places++
		step.Number = b.places
	case syntax.CallThrough:
		b.calls++
		step.Number = b.calls
	}
	return step
}

func blockSize(block syntax.Block) int {
	size := 0
	for _, statement := range block.Statements {
		size += statementSize(statement)
	}
	return size
}

// statementSize counts the steps of a statement, those of its blocks among them.
func statementSize(statement syntax.Statement) int {
	size := 1
	for _, block := range statement.Blocks {
		size += blockSize(block)
	}
	return size
}
