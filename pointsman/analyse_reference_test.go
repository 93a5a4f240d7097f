package pointsman

import (
	"maps"
	"slices"
	"strconv"
	"strings"
	"testing"
)

// The tests here hold the sets against a second analysis that shares nothing
// with the program: it goes through the tokens themselves, keeps its facts as
// texts, and does every statement's rule until no fact comes to them.

// refStatement is a statement without blocks, with its function's name.
type refStatement struct {
	function string
	words    []string
	number   int // which new, or which call through a pointer
}

type refAnalysis struct {
	statements []refStatement
	names      map[string][]string // those in each function's parentheses
	sets       map[string]map[string]bool
	grown      bool
}

func analyseByReference(tokens []string) *refAnalysis {
	a := &refAnalysis{names: map[string][]string{}, sets: map[string]map[string]bool{}, grown: true}
	a.collect(tokens)
	for a.grown {
		a.grown = false
		for _, s := range a.statements {
			a.rule(s)
		}
	}
	return a
}

func (a *refAnalysis) facts() []string {
	var all []string
	for cell, targets := range a.sets {
		for target := range targets {
			all = append(all, cell+">"+target)
		}
	}
	slices.Sort(all)
	return all
}

// reach does not follow calls: it goes through all statements for callers that
// are in already, until no function comes in.
func (a *refAnalysis) reach() []string {
	in := map[string]int{"main": 1}
	for before := 0; before < len(in); {
		before = len(in)
		for _, s := range a.statements {
			switch {
			case in[s.function] == 0:
			case count(s.words, "= ( *") > 0:
				for _, name := range a.all("!" + strconv.Itoa(s.number)) {
					in[name]++
				}
			case count(s.words, "(") > 0:
				in[s.words[2]]++
			}
		}
	}
	return slices.Sorted(maps.Keys(in))
}

func (a *refAnalysis) collect(tokens []string) {
	function, places, calls := "", 0, 0
	for i := 0; i < len(tokens); {
		end := i + 1
		switch tokens[i] {
		case "fn":
			end = i + slices.Index(tokens[i:], ")") + 1
			function = tokens[i+1]
			a.names[function] = tokens[i+3 : end-1]
		case "{", "}", "if", "while", "else", "?":
		default:
			end = i + slices.Index(tokens[i:], ";") + 1
			s := refStatement{function: function, words: tokens[i:end]}
			if count(s.words, "new") > 0 {
				places++
				s.number = places
			} else if count(s.words, "( *") > 0 {
				calls++
				s.number = calls
			}
			a.statements = append(a.statements, s)
		}
		i = end
	}
}

func (a *refAnalysis) put(cell, target string) {
	if a.sets[cell] == nil {
		a.sets[cell] = map[string]bool{}
	}
	if !a.sets[cell][target] {
		a.sets[cell][target] = true
		a.grown = true
	}
}

// all tells what is in a set by now.
func (a *refAnalysis) all(cell string) []string {
	var targets []string
	for target := range a.sets[cell] {
		targets = append(targets, target)
	}
	return targets
}

func (a *refAnalysis) move(from, to string) {
	for _, target := range a.all(from) {
		a.put(to, target)
	}
}

func (a *refAnalysis) rule(s refStatement) {
	cell := func(n int) string { return s.function + "." + s.words[n] }
	line := strings.Join(s.words[1:], " ")
	switch {
	case s.words[0] == "var", s.words[0] == "return":
	case s.words[0] == "*":
		for _, to := range a.all(cell(1)) {
			if to[0] != '@' {
				a.move(cell(3), to)
			}
		}
	case line == "= new ;":
		a.put(cell(0), strconv.Itoa(s.number)+".0")
	case strings.HasPrefix(line, "= @"):
		a.put(cell(0), "@"+s.words[3])
	case strings.HasPrefix(line, "= * "):
		for _, from := range a.all(cell(3)) {
			if from[0] != '@' {
				a.move(from, cell(0))
			}
		}
	case strings.HasPrefix(line, "= & ") && s.words[4] == ".":
		for _, first := range a.all(cell(3)) {
			if place, is := strings.CutSuffix(first, ".0"); is {
				a.put(cell(0), place+"."+s.words[5])
			}
		}
	case strings.HasPrefix(line, "= & "):
		a.put(cell(0), cell(3))
	case strings.HasPrefix(line, "= ( *"):
		for _, held := range a.all(cell(4)) {
			name, is := strings.CutPrefix(held, "@")
			if arguments := s.words[7 : len(s.words)-2]; is && len(a.names[name]) == len(arguments) {
				a.put("!"+strconv.Itoa(s.number), name)
				a.call(s, name, arguments)
			}
		}
	case s.words[3] == "(":
		a.call(s, s.words[2], s.words[4:len(s.words)-2])
	default:
		a.move(cell(2), cell(0))
	}
}

func (a *refAnalysis) call(s refStatement, name string, arguments []string) {
	for i, argument := range arguments {
		a.move(s.function+"."+argument, name+"."+a.names[name][i])
	}
	for _, other := range a.statements {
		if other.function == name && other.words[0] == "return" {
			a.move(name+"."+other.words[1], s.function+"."+s.words[0])
		}
	}
}

// writeTangle writes a program that is not for running: any statements in any
// order, kinds of them as often as it happens, in more functions with more
// variables.
func writeTangle(d *dice) string {
	functions := strings.Fields("main f fa é g h")[:1+d.below(6)]
	names := strings.Fields("x y z u")[:d.below(5)]
	arity := map[string]int{}
	for _, name := range functions[1:] {
		arity[name] = d.below(len(names) + 1)
	}
	often := make([]int, 10)
	for i := range often {
		often[i] = 1 + d.below(4)*d.below(4)
	}
	var out strings.Builder
	for _, name := range functions {
		variables := slices.Concat(names[:arity[name]], strings.Fields("a b c d")[:1+d.below(4)])
		out.WriteString("fn " + name + "(" + strings.Join(names[:arity[name]], " ") + ") {")
		for _, variable := range variables[arity[name]:] {
			out.WriteString(" var " + variable + ";")
		}
		for range d.below(25) {
			out.WriteString(" " + writeAny(d, often, functions, variables, arity))
		}
		out.WriteString(" }\n")
	}
	return out.String()
}

func writeAny(d *dice, often []int, functions, variables []string, arity map[string]int) string {
	some := func() string { return variables[d.below(len(variables))] }
	list := func(n int) string {
		text := ""
		for range n {
			text += some() + " "
		}
		return text
	}
	name := functions[d.below(len(functions))]
	switch pick(d, often) {
	case 0:
		return some() + " = new;"
	case 1:
		return some() + " = &" + some() + ";"
	case 2:
		return some() + " = @" + name + ";"
	case 3:
		return some() + " = " + some() + ";"
	case 4:
		return some() + " = &" + some() + "." + strconv.Itoa(d.below(4)) + ";"
	case 5:
		return some() + " = *" + some() + ";"
	case 6:
		return "*" + some() + " = " + some() + ";"
	case 7:
		return some() + " = " + name + "(" + list(arity[name]) + ");"
	case 8:
		return some() + " = (*" + some() + ")(" + list(d.below(4)) + ");"
	}
	returned := "return " + some() + ";"
	if d.below(2) == 0 {
		return "if ? { " + returned + " }"
	}
	return returned
}

// pick tells one of some numbers, each as often as it shall come.
func pick(d *dice, often []int) int {
	sum := 0
	for _, n := range often {
		sum += n
	}
	rest := d.below(sum)
	for i, n := range often {
		if rest < n {
			return i
		}
		rest -= n
	}
	panic("no number")
}

// compareFacts holds the sets of a program against the second analysis, and
// tells how many facts there are.
func compareFacts(t *testing.T, text string) int {
	t.Helper()
	got, want := facts(t, text, analysed(t, text)), analyseByReference(tokensOf(t, text)).facts()
	if !slices.Equal(got, want) {
		t.Fatalf("P6: of %q:\n got %q\nwant %q", text, got, want)
	}
	return len(got)
}

func TestP6AgainstTheReference(t *testing.T) {
	d := &dice{11}
	rich, empty := 0, 0
	for range 2500 {
		for _, text := range []string{writeProgram(d), writeTangle(d)} {
			switch n := compareFacts(t, text); {
			case n == 0:
				empty++
			case n > 100:
				rich++
			}
		}
	}
	if rich < 200 || empty < 20 {
		t.Errorf("the programs show too little: %d with much in their sets, %d with nothing", rich, empty)
	}
}
