package pointsman

import (
	"slices"
	"strings"
	"testing"

	"pointsman/api"
)

// The tests here hold the program against a second reading of the document
// that shares nothing with it: the grammar as a table whose rules are tried
// all at once, and the names as they stand among the tokens.

// grammar tells for each word of the grammar what may stand for it; what has no
// rule here is a token.
func grammar() map[string][]string {
	return map[string][]string{
		"program":    {"function functions"},
		"functions":  {"", "function functions"},
		"function":   {"fn name ( names ) block"},
		"names":      {"", "name names"},
		"block":      {"{ statements }"},
		"statements": {"", "statement statements"},
		"statement": {"var name ;", "name = value ;", "* name = name ;", "return name ;",
			"if ? block", "if ? block else block", "while ? block"},
		"value": {"new", "& name", "& name . digit", "* name", "@ name", "name", "name ( names )", "( * name ) ( names )"},
	}
}

// advance tells what may follow, if token comes next, where each of stacks
// (the words that are still to come) may follow now.
func advance(rules map[string][]string, stacks [][]string, token string) [][]string {
	var after [][]string
	for work := slices.Clone(stacks); len(work) > 0; {
		stack := work[len(work)-1]
		work = work[:len(work)-1]
		if len(stack) == 0 {
			continue
		}
		bodies, ruled := rules[stack[0]]
		if !ruled && stack[0] == token {
			after = append(after, stack[1:])
		}
		for _, body := range bodies {
			work = append(work, append(strings.Fields(body), stack[1:]...))
		}
	}
	return after
}

func kindOf(token string) string {
	switch token {
	case "fn", "var", "new", "return", "if", "else", "while":
		return token
	case "0", "1", "2", "3":
		return "digit"
	}
	if strings.Contains("(){};=&*@.?", token) {
		return token
	}
	return "name"
}

// nameFault tells the first fault of a sound sentence of the grammar, and the
// number of its token.
func nameFault(tokens []string) (api.Errno, int) {
	arity := map[string]int{}
	for i, token := range tokens {
		if i > 0 && tokens[i-1] == "fn" {
			if _, there := arity[token]; !there {
				arity[token] = argumentCount(tokens[i+1:])
			}
		}
	}
	functions, variables := []string{}, []string{}
	depth, inHead := 0, false
	for i, token := range tokens {
		before := tokens[max(i-1, 0)]
		switch kind := kindOf(token); {
		case token == "fn":
			inHead, variables = true, nil
		case token == "{":
			inHead = false
			if depth++; depth > 6 {
				return api.ErrMany, i
			}
		case token == "}":
			depth--
		case kind != "name":
		case before == "fn":
			if len(functions) == 12 {
				return api.ErrMany, i
			} else if slices.Contains(functions, token) {
				return api.ErrTwice, i
			}
			functions = append(functions, token)
		case before == "var" || inHead:
			if len(variables) == 12 {
				return api.ErrMany, i
			} else if slices.Contains(variables, token) {
				return api.ErrTwice, i
			}
			variables = append(variables, token)
		case before == "@" || tokens[i+1] == "(":
			if n, there := arity[token]; !there {
				return api.ErrName, i
			} else if before != "@" && n != argumentCount(tokens[i+1:]) {
				return api.ErrArity, i
			}
		case !slices.Contains(variables, token):
			return api.ErrName, i
		}
	}
	if n, there := arity["main"]; !there || n != 0 {
		return api.ErrName, len(tokens)
	}
	return api.OK, 0
}

// argumentCount counts the names in the parentheses at the front of tokens.
func argumentCount(tokens []string) int { return slices.Index(tokens, ")") - 1 }

// compare holds the program's answer about the tokens against the reference.
func compare(t *testing.T, rules map[string][]string, tokens []string) api.Errno {
	t.Helper()
	fault, at := api.OK, 0
	stacks := [][]string{{"program", "end"}}
	for i, token := range append(slices.Clone(tokens), "\n") {
		kind := "end"
		if i < len(tokens) {
			kind = kindOf(token)
		}
		if stacks = advance(rules, stacks, kind); len(stacks) == 0 {
			fault, at = api.ErrParse, i
			break
		}
	}
	if fault == api.OK {
		fault, at = nameFault(tokens)
	}
	text := strings.Join(tokens, " ")
	place := len(text)
	if fault == api.OK {
		place = 0
	} else if at < len(tokens) {
		place = len(strings.Join(tokens[:at], " ")) + min(at, 1)
	}
	want := ""
	if fault == api.OK {
		want = text
	}
	printed, e, p := Print(text)
	if printed != want || e != fault || p != place {
		t.Errorf("P3: Print(%q) = %q, %d, %d, want %d, %d", text, printed, e, p, fault, place)
	}
	return e
}

// Behind each beginning of a program each kind of token.
func TestP3EachTokenEverywhere(t *testing.T) {
	rules := grammar()
	kinds := strings.Fields("fn var new return if else while a main 0 3 ( ) { } ; = & * @ . ?")
	for _, text := range corpus() {
		printed, _, _ := Print(text)
		tokens := strings.Fields(printed)
		for n := range len(tokens) + 1 {
			compare(t, rules, tokens[:n])
			for _, kind := range kinds {
				compare(t, rules, append(slices.Clone(tokens[:n]), kind))
				compare(t, rules, append(append(slices.Clone(tokens[:n]), kind), tokens[n:]...))
			}
		}
	}
}

// dice throws the same numbers in each run of the tests.
type dice struct{ state uint32 }

func (d *dice) below(n int) int {
	d.state = d.state*1664525 + 1013904223
	return int(d.state>>16) % n
}

// unfold writes out one of the sentences of the grammar; the deeper it is in
// it, the sooner it comes to an end.
func unfold(rules map[string][]string, d *dice, word string, depth int) []string {
	bodies, ruled := rules[word]
	switch {
	case word == "name":
		names := strings.Fields("main f g a a a b b b c c c")
		return []string{names[d.below(len(names))]}
	case word == "digit":
		return []string{string("0123"[d.below(4)])}
	case !ruled:
		return []string{word}
	}
	body := bodies[d.below(len(bodies))]
	if bodies[0] == "" && d.below(30) < depth {
		body = ""
	}
	var out []string
	for _, next := range strings.Fields(body) {
		out = append(out, unfold(rules, d, next, depth+1)...)
	}
	return out
}

func TestP3UnfoldedPrograms(t *testing.T) {
	rules := grammar()
	d := &dice{1}
	count := map[api.Errno]int{}
	head := strings.Fields("fn g ( a ) { return a ; } fn main ( ) { var a ; var b ; var c ; a = f ( ) ; while ? {")
	for n := range 6000 {
		tokens := unfold(rules, d, "program", 0)
		if len(tokens) > 400 {
			continue
		}
		count[compare(t, rules, tokens)]++
		tokens = slices.Clone(head)
		for range n % 5 {
			tokens = append(tokens, "if", "?", "{")
		}
		for range n % 4 {
			tokens = append(tokens, unfold(rules, d, "statement", 1)...)
		}
		tokens = append(tokens, "b", "=", "g", "(")
		tokens = append(tokens, unfold(rules, d, "names", 1)...)
		tokens = append(tokens, ")", ";")
		for range n%5 + 2 {
			tokens = append(tokens, "}")
		}
		tokens = append(tokens, strings.Fields("fn f ( ) { }")...)
		count[compare(t, rules, tokens)]++
	}
	for _, fault := range []api.Errno{api.OK, api.ErrMany, api.ErrTwice, api.ErrName, api.ErrArity} {
		if count[fault] < 50 {
			t.Errorf("too few programs had the fault %d: %v", fault, count)
		}
	}
}
