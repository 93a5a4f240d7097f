// Package syntax holds the tree of a program, and makes it of tokens.
package syntax

// Kind is the kind of a statement: an assignment's value belongs to it, since
// each of them is a step, and a rule, of its own.
type Kind int

const (
	Declare      Kind = iota // var p;
	Make                     // p = new;
	TakeAddress              // p = &q;
	TakeField                // p = &q.k;
	TakeFunction             // p = @q;
	Load                     // p = *q;
	Copy                     // p = q;
	Call                     // p = q(r ..);
	CallThrough              // p = (*q)(r ..);
	Store                    // *p = q;
	Return                   // return q;
	Choose                   // if ? .. else ..
	Repeat                   // while ? ..
)

// Name is a name, with the number of bytes ahead of it.
type Name struct {
	Text  string
	Place int
}

// Program is what the grammar says, whatever its names are.
type Program struct {
	Functions []Function
	End       int // the text's length
}

// Function is a function, with the names in its parentheses.
type Function struct {
	Name       Name
	Parameters []Name
	Body       Block
}

// Block is a block, with the place of its opening brace.
type Block struct {
	Place      int
	Statements []Statement
}

// Statement is a statement; what its kind does not have is empty.
type Statement struct {
	Kind      Kind
	Target    Name // p
	Source    Name // q
	Field     int  // k
	Arguments []Name
	Blocks    []Block // the second one is what stands behind else
}
