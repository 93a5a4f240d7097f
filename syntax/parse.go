package syntax

import (
	"strconv"

	"pointsman/api"
	"pointsman/scan"
)

// Parse makes the tree of a program. The last token is of the kind End, and no
// other is.
func Parse(tokens []scan.Token) (Program, api.Errno, int) {
	p := parser{tokens: tokens}
	program := p.program()
	if p.failed {
		return Program{}, api.ErrParse, p.wrong
	}
	return program, api.OK, 0
}

// parser goes through the tokens once, from the front. At the first one that
// cannot stand where it does it leaps to the end: from there on no token
// begins anything, so every loop ends.
type parser struct {
	tokens []scan.Token
	next   int
	failed bool
	wrong  int // the place of the token that cannot stand there
}

func (p *parser) kind() scan.Kind { return p.tokens[p.next].Kind }

// take takes the next token, which must be of that kind.
func (p *parser) take(kind scan.Kind) scan.Token {
	token := p.tokens[p.next]
	if token.Kind != kind {
		p.fail()
		return scan.Token{}
	}
	if kind != scan.End {
		p.next++
	}
	return token
}

func (p *parser) fail() {
	if !p.failed {
		p.failed, p.wrong = true, p.tokens[p.next].Place
	}
	p.next = len(p.tokens) - 1
}

func (p *parser) name() Name {
	token := p.take(scan.Name)
	return Name{token.Text, token.Place}
}

// names takes any number of names in parentheses.
func (p *parser) names() []Name {
	var names []Name
	p.take(scan.OpenParen)
	for p.kind() == scan.Name {
		names = append(names, p.name())
	}
	p.take(scan.CloseParen)
	return names
}

func (p *parser) program() Program {
	program := Program{Functions: []Function{p.function()}}
	for p.kind() == scan.Fn {
		program.Functions = append(program.Functions, p.function())
	}
	program.End = p.take(scan.End).Place
	return program
}

func (p *parser) function() Function {
	p.take(scan.Fn)
	name := p.name()
	parameters := p.names()
	return Function{name, parameters, p.block()}
}

func (p *parser) block() Block {
	block := Block{Place: p.take(scan.OpenBrace).Place}
	for p.beginsStatement() {
		block.Statements = append(block.Statements, p.statement())
	}
	p.take(scan.CloseBrace)
	return block
}

func (p *parser) beginsStatement() bool {
	switch p.kind() {
	case scan.Var, scan.Name, scan.Star, scan.Return, scan.If, scan.While:
		return true
	}
	return false
}

// statement takes a statement, where a token stands that begins one.
func (p *parser) statement() Statement {
	switch p.kind() {
	case scan.If:
		return p.choose()
	case scan.While:
		return p.repeat()
	}
	statement := p.plain()
	p.take(scan.Semicolon)
	return statement
}

func (p *parser) choose() Statement {
	p.take(scan.If)
	p.take(scan.Question)
	blocks := []Block{p.block()}
	if p.kind() == scan.Else {
		p.take(scan.Else)
		blocks = append(blocks, p.block())
	}
	return Statement{Kind: Choose, Blocks: blocks}
}

func (p *parser) repeat() Statement {
	p.take(scan.While)
	p.take(scan.Question)
	return Statement{Kind: Repeat, Blocks: []Block{p.block()}}
}

// plain takes a statement without blocks, up to its semicolon.
func (p *parser) plain() Statement {
	switch p.kind() {
	case scan.Var:
		p.take(scan.Var)
		return Statement{Kind: Declare, Target: p.name()}
	case scan.Return:
		p.take(scan.Return)
		return Statement{Kind: Return, Source: p.name()}
	case scan.Star:
		p.take(scan.Star)
		target := p.name()
		p.take(scan.Equals)
		return Statement{Kind: Store, Target: target, Source: p.name()}
	}
	target := p.name()
	p.take(scan.Equals)
	statement := p.value()
	statement.Target = target
	return statement
}

// value takes an assignment's value: the statement, but for its target.
func (p *parser) value() Statement {
	switch p.kind() {
	case scan.New:
		p.take(scan.New)
		return Statement{Kind: Make}
	case scan.Ampersand:
		return p.address()
	case scan.Star:
		p.take(scan.Star)
		return Statement{Kind: Load, Source: p.name()}
	case scan.AtSign:
		p.take(scan.AtSign)
		return Statement{Kind: TakeFunction, Source: p.name()}
	case scan.OpenParen:
		return p.callThrough()
	}
	source := p.name()
	if p.kind() == scan.OpenParen {
		return Statement{Kind: Call, Source: source, Arguments: p.names()}
	}
	return Statement{Kind: Copy, Source: source}
}

func (p *parser) address() Statement {
	p.take(scan.Ampersand)
	source := p.name()
	if p.kind() != scan.Dot {
		return Statement{Kind: TakeAddress, Source: source}
	}
	p.take(scan.Dot)
	return Statement{Kind: TakeField, Source: source, Field: p.field()}
}

// field takes a digit. Where none stands the parser has failed, and what the
// number is does not matter any more.
func (p *parser) field() int {
	field, _ := strconv.Atoi(p.take(scan.Digit).Text)
	return field
}

func (p *parser) callThrough() Statement {
	p.take(scan.OpenParen)
	p.take(scan.Star)
	source := p.name()
	p.take(scan.CloseParen)
	return Statement{Kind: CallThrough, Source: source, Arguments: p.names()}
}
