package pointsman

import (
	"go/ast"
	"go/parser"
	"go/token"
	"path/filepath"
	"slices"
	"strconv"
	"strings"
	"testing"
)

// Go fixes the order of a statement's calls. It leaves open whether what stands
// beside a call is read ahead of it or behind it, and one compiler shows but one
// of these orders: so the program's lines are looked at. Where a statement calls
// a method of a variable that may change it, it must read no field of that
// variable beside the call.
func TestP2NoOrderThatGoLeavesOpen(t *testing.T) {
	names, err := filepath.Glob("../*/*.go")
	if err != nil {
		t.Fatal(err)
	}
	names = slices.DeleteFunc(names, func(name string) bool { return strings.HasSuffix(name, "_test.go") })
	if !slices.Contains(names, filepath.Join("..", "plan", "build.go")) {
		t.Errorf("plan/build.go is not among the files: %q", names)
	}
	lines := lineFinder{places: token.NewFileSet(), changers: map[string]int{}}
	var files []*ast.File
	for _, name := range names {
		files = append(files, lines.parse(t, name, nil))
	}
	for _, file := range files {
		for _, line := range lines.open(file) {
			t.Errorf("P2: %s: a field is read beside a call that may change it", line)
		}
	}
}

func TestOpenLines(t *testing.T) {
	for body, want := range map[string]string{
		"b.rows[i].next = b.more(c.x)":        "p:1",
		"b.rows[i] = b.more()":                "p:1",
		"*b.last = b.more()":                  "p:1",
		"b.count += b.more()":                 "p:1",
		"x := b.count + b.more()":             "p:1",
		"b.a, b.b = b.more(), b.a":            "p:1",
		"var x = []int{b.count, b.more()}":    "p:1",
		"return b.more(), b.count":            "p:1",
		"use(b.more(), len(b.rows))":          "p:1",
		"b.put(b.count, b.more())":            "p:1",
		"b.rows[b.more()]++":                  "p:1",
		"for range b.rows[b.more()] { }":      "p:1",
		"if x := 1; b.count > b.more() { }":   "p:1",
		"switch { case b.count > b.more(): }": "p:1",
		"b.x = c.more()\nuse(func() { c.x = c.put(b.x) + c.y })\nb.x += b.more()": "p:2 p:3",

		"x := b.more()\nb.rows[i].next = x":         "",
		"b.count = b.more()":                        "",
		"b.put(b.count, len(b.rows))":               "",
		"b.put(b.more())":                           "",
		"b.rows[i] = c.more(b.count)":               "",
		"b.rows[i] = b.told()":                      "",
		"b.rows = append(b.rows, c.count)":          "",
		"b.count, b.last = b.more(), c.count":       "",
		"api.A[api.B] = api.more()":                 "",
		"if x := b.more(); b.count > x { b.put() }": "",
	} {
		lines := lineFinder{places: token.NewFileSet(), changers: map[string]int{}}
		file := lines.parse(t, "p", `package p; import "pointsman/api"; func f() { `+body+` }
			func (b *row) more() int { }; func (b *row) put() { }; func (b row) told() int { }`)
		if got := strings.Join(lines.open(file), " "); got != want {
			t.Errorf("%q: %q, want %q", body, got, want)
		}
	}
}

// lineFinder looks for statements that may go either way.
type lineFinder struct {
	places   *token.FileSet
	changers map[string]int // the names of all methods that go by a pointer
}

// parse reads a file, and notes its methods: so all are read ahead of the first
// one that is looked at.
func (f lineFinder) parse(t *testing.T, name string, source any) *ast.File {
	t.Helper()
	file, err := parser.ParseFile(f.places, name, source, 0)
	if err != nil {
		t.Fatal(err)
	}
	for _, declared := range file.Decls {
		method, ok := declared.(*ast.FuncDecl)
		if !ok || method.Recv == nil {
			continue
		}
		if _, ok := method.Recv.List[0].Type.(*ast.StarExpr); ok {
			f.changers[method.Name.Name]++
		}
	}
	return file
}

// open tells the lines at which such statements begin.
func (f lineFinder) open(file *ast.File) []string {
	packages := importedNames(file)
	var lines []string
	ast.Inspect(file, func(node ast.Node) bool {
		if f.isOpen(readTogether(node), packages) {
			place := f.places.Position(node.Pos())
			lines = append(lines, place.Filename+":"+strconv.Itoa(place.Line))
		}
		return true
	})
	return lines
}

func importedNames(file *ast.File) []string {
	var names []string
	for _, spec := range file.Imports {
		path, _ := strconv.Unquote(spec.Path.Value)
		names = append(names, path[strings.LastIndex(path, "/")+1:])
	}
	return names
}

// readTogether tells what is read in one go where a statement, or a piece of
// one, is done; of other nodes nothing.
func readTogether(node ast.Node) []ast.Expr {
	switch s := node.(type) {
	case *ast.AssignStmt:
		return append(leftReads(s), s.Rhs...)
	case *ast.ValueSpec:
		return s.Values
	case *ast.ReturnStmt:
		return s.Results
	case *ast.CaseClause:
		return s.List
	case *ast.IncDecStmt:
		return []ast.Expr{s.X}
	case *ast.ExprStmt:
		return []ast.Expr{s.X}
	case *ast.SendStmt:
		return []ast.Expr{s.Chan, s.Value}
	case *ast.DeferStmt:
		return []ast.Expr{s.Call}
	case *ast.GoStmt:
		return []ast.Expr{s.Call}
	case *ast.IfStmt:
		return []ast.Expr{s.Cond}
	case *ast.ForStmt:
		return []ast.Expr{s.Cond}
	case *ast.RangeStmt:
		return []ast.Expr{s.X}
	case *ast.SwitchStmt:
		return []ast.Expr{s.Tag}
	}
	return nil
}

// leftReads tells what an assignment reads on its left side: what it stores into
// is itself not read, but for those like +=.
func leftReads(s *ast.AssignStmt) []ast.Expr {
	if s.Tok != token.ASSIGN && s.Tok != token.DEFINE {
		return slices.Clone(s.Lhs)
	}
	var reads []ast.Expr
	for _, left := range s.Lhs {
		switch left := left.(type) {
		case *ast.SelectorExpr:
			reads = append(reads, left.X)
		case *ast.IndexExpr:
			reads = append(reads, left.X, left.Index)
		case *ast.StarExpr:
			reads = append(reads, left.X)
		}
	}
	return reads
}

// isOpen tells whether a method of a variable is called that may change it, and
// a field of the same variable read elsewhere than in that call.
func (f lineFinder) isOpen(expressions []ast.Expr, packages []string) bool {
	calls, reads := map[*ast.CallExpr]string{}, map[*ast.SelectorExpr]string{}
	methods := map[ast.Expr]int{}
	look := func(node ast.Node) bool {
		switch x := node.(type) {
		case *ast.FuncLit: // its statements are looked at by themselves
			return false
		case *ast.CallExpr:
			methods[x.Fun]++
			if owner, name := ownerAndName(x.Fun, packages); f.changers[name] > 0 {
				calls[x] = owner
			}
		case *ast.SelectorExpr:
			if owner, _ := ownerAndName(x, packages); owner != "" && methods[x] == 0 {
				reads[x] = owner
			}
		}
		return true
	}
	for _, expression := range expressions {
		if expression != nil {
			ast.Inspect(expression, look)
		}
	}
	for call, changed := range calls {
		for read, owner := range reads {
			if owner == changed && (read.Pos() < call.Pos() || read.End() > call.End()) {
				return true
			}
		}
	}
	return false
}

// ownerAndName tells the variable of which something is a field or a method, and
// the name of that; "" if there is no such variable.
func ownerAndName(expression ast.Expr, packages []string) (string, string) {
	selector, ok := expression.(*ast.SelectorExpr)
	if !ok {
		return "", ""
	}
	owner, ok := selector.X.(*ast.Ident)
	if !ok || slices.Contains(packages, owner.Name) {
		return "", ""
	}
	return owner.Name, selector.Sel.Name
}
