package pointsman

import (
	"maps"
	"slices"
	"strconv"
	"strings"
	"testing"

	"pointsman/api"
)

// The tests here hold runs against a second runner that shares nothing with the
// program: it goes through the tokens themselves, calls itself for what is
// called, and throws what ends a run.

type refCell struct {
	name  string
	holds any        // nil, a *refCell, or a function's name
	made  []*refCell // of field 0 all fields that were made with it
}

type refRun struct {
	tokens              []string
	choices             string
	limit, done, inside int
	seen                map[string]int
	entered             map[string]int
}

type refEnd int

// refFrame is a function that is entered.
type refFrame struct {
	name      string
	variables map[string]*refCell
}

// referenceRun tells a run, and the functions that it enters.
func referenceRun(tokens []string, choices string, steps int) (trace api.Trace, entered []string) {
	r := &refRun{tokens: tokens, choices: choices, limit: min(max(steps, 0), 5000), seen: map[string]int{}, entered: map[string]int{}}
	tell := func(end int) {
		trace = api.Trace{End: end, Steps: r.done, Seen: slices.Sorted(maps.Keys(r.seen))}
		entered = slices.Sorted(maps.Keys(r.entered))
	}
	defer func() {
		if thrown := recover(); thrown != nil {
			tell(int(thrown.(refEnd)))
		}
	}()
	r.enter("main", nil)
	tell(api.Finished)
	return
}

func (r *refRun) must(what bool) {
	if !what {
		panic(refEnd(api.Trapped))
	}
}

func (r *refRun) get(cell *refCell, held any) {
	cell.holds = held
	switch held := held.(type) {
	case *refCell:
		r.seen[cell.name+">"+held.name]++
	case string:
		r.seen[cell.name+">@"+held]++
	}
}

func (r *refRun) choice() bool {
	next := r.choices[:min(1, len(r.choices))]
	r.choices = r.choices[len(next):]
	return next == "1"
}

// parenthesised tells the names in the parentheses that open at that token.
func (r *refRun) parenthesised(open int) []string {
	return r.tokens[open+1 : open+slices.Index(r.tokens[open:], ")")]
}

// head tells where the parentheses of a function open.
func (r *refRun) head(name string) int {
	for i := range r.tokens {
		if r.tokens[i] == "fn" && r.tokens[i+1] == name {
			return i + 2
		}
	}
	panic("no function " + name)
}

// closing tells where the block ends that opens at that token.
func (r *refRun) closing(open int) int {
	for i, depth := open, 0; ; i++ {
		switch r.tokens[i] {
		case "{":
			depth++
		case "}":
			if depth--; depth == 0 {
				return i
			}
		}
	}
}

func (r *refRun) enter(name string, arguments []any) any {
	if r.inside == 40 {
		panic(refEnd(api.Deep))
	}
	r.inside++
	r.entered[name]++
	frame := refFrame{name, map[string]*refCell{}}
	head := r.head(name)
	names := r.parenthesised(head)
	open := head + len(names) + 2
	for i, token := range r.tokens[open:r.closing(open)] {
		if token == "var" {
			v := r.tokens[open+i+1]
			frame.variables[v] = &refCell{name: name + "." + v}
		}
	}
	for i, v := range names {
		frame.variables[v] = &refCell{name: name + "." + v}
		r.get(frame.variables[v], arguments[i])
	}
	_, answer := r.block(frame, open)
	r.inside--
	return answer
}

// block does a block, and tells whether it came to a return, and of what.
func (r *refRun) block(frame refFrame, open int) (bool, any) {
	end := r.closing(open)
	for i := open + 1; i < end; {
		if r.done == r.limit {
			panic(refEnd(api.Running))
		}
		r.done++
		returned, answer, next := r.statement(frame, i)
		if returned {
			return true, answer
		}
		i = next
	}
	return false, nil
}

// statement does the statement that begins at a token, and tells where the next
// one does.
func (r *refRun) statement(frame refFrame, i int) (bool, any, int) {
	switch r.tokens[i] {
	case "return":
		return true, frame.variables[r.tokens[i+1]].holds, 0
	case "if":
		first := i + 2
		next := r.closing(first) + 1
		second := -1
		if r.tokens[next] == "else" {
			second = next + 1
			next = r.closing(second) + 1
		}
		if r.choice() {
			second = first
		}
		if second < 0 {
			return false, nil, next
		}
		returned, answer := r.block(frame, second)
		return returned, answer, next
	case "while":
		if !r.choice() {
			return false, nil, r.closing(i+2) + 1
		}
		returned, answer := r.block(frame, i+2)
		return returned, answer, i
	}
	r.plain(frame, i)
	return false, nil, i + slices.Index(r.tokens[i:], ";") + 1
}

func (r *refRun) plain(frame refFrame, i int) {
	v := frame.variables
	word := func(n int) string { return r.tokens[i+n] }
	switch {
	case word(0) == "var":
	case word(0) == "*":
		to, points := v[word(1)].holds.(*refCell)
		r.must(points)
		r.get(to, v[word(3)].holds)
	case word(2) == "new":
		made := make([]*refCell, 4)
		place := strconv.Itoa(count(r.tokens[:i+3], "new"))
		for k := range made {
			made[k] = &refCell{name: place + "." + strconv.Itoa(k)}
		}
		made[0].made = made
		r.get(v[word(0)], made[0])
	case word(2) == "&" && word(4) == ".":
		from, points := v[word(3)].holds.(*refCell)
		r.must(points && from.made != nil)
		k, _ := strconv.Atoi(word(5))
		r.get(v[word(0)], from.made[k])
	case word(2) == "&":
		r.get(v[word(0)], v[word(3)])
	case word(2) == "*":
		from, points := v[word(3)].holds.(*refCell)
		r.must(points)
		r.get(v[word(0)], from.holds)
	case word(2) == "@":
		r.get(v[word(0)], word(3))
	case word(2) == "(":
		name, holds := v[word(4)].holds.(string)
		r.must(holds && len(r.parenthesised(r.head(name))) == len(r.parenthesised(i+6)))
		if r.inside < 40 {
			r.seen["!"+strconv.Itoa(count(r.tokens[:i+4], "( *"))+">"+name]++
		}
		r.call(frame, i, name, i+6)
	case word(3) == "(":
		r.call(frame, i, word(2), i+3)
	default:
		r.get(v[word(0)], v[word(2)].holds)
	}
}

func (r *refRun) call(frame refFrame, i int, name string, open int) {
	var arguments []any
	for _, argument := range r.parenthesised(open) {
		arguments = append(arguments, frame.variables[argument].holds)
	}
	r.get(frame.variables[r.tokens[i]], r.enter(name, arguments))
}

// tokensOf tells the tokens of a text without faults.
func tokensOf(t *testing.T, text string) []string {
	t.Helper()
	printed, fault, place := Print(text)
	if fault != api.OK {
		t.Fatalf("Print(%q): %d, %d", text, fault, place)
	}
	return strings.Fields(printed)
}

// count counts how often words stand among the tokens one behind the other.
func count(tokens []string, words string) int {
	return strings.Count(" "+strings.Join(tokens, " ")+" ", " "+words+" ")
}

// writer writes sound programs.
type writer struct {
	*dice
	arity     map[string]int
	functions []string
	variables []string // those of the function at hand that are there
	vars      int      // how many of them may still come
	out       strings.Builder
}

func writeProgram(d *dice) string {
	w := &writer{dice: d, arity: map[string]int{"main": 0}}
	w.functions = strings.Fields("main f g é")[:1+d.below(4)]
	for _, name := range w.functions[1:] {
		w.arity[name] = d.below(3)
	}
	for i := range w.functions { // main may stand anywhere
		k := i + d.below(len(w.functions)-i)
		w.functions[i], w.functions[k] = w.functions[k], w.functions[i]
	}
	for _, name := range w.functions {
		w.function(name)
	}
	return w.out.String()
}

func (w *writer) put(words ...string) { w.out.WriteString(strings.Join(words, " ") + " ") }

func (w *writer) variable() string { return w.variables[w.below(len(w.variables))] }

func (w *writer) some(n int) string {
	names := make([]string, n)
	for i := range names {
		names[i] = w.variable()
	}
	return strings.Join(names, " ")
}

func (w *writer) function(name string) {
	w.variables, w.vars = strings.Fields("x y z")[:w.arity[name]], 3
	w.put("fn", name, "(", strings.Join(w.variables, " "), ") {")
	if w.below(20) == 0 {
		w.put("}")
		return
	}
	w.declare()
	w.statements(1)
	w.put("}")
}

func (w *writer) declare() {
	name := strings.Fields("a b c")[3-w.vars]
	w.vars--
	w.put("var", name, ";")
	w.variables = append(slices.Clone(w.variables), name)
}

func (w *writer) statements(depth int) {
	for range w.below(8 / depth) {
		w.statement(depth)
	}
}

func (w *writer) block(depth int) {
	w.put("? {")
	w.statements(depth + 1)
	w.put("}")
}

func (w *writer) statement(depth int) {
	p, q := w.variable(), w.variable()
	name := w.functions[w.below(len(w.functions))]
	switch kind := w.below(16); {
	case kind == 0 && w.vars > 0:
		w.declare()
	case kind <= 1:
		w.put(p, "= new ;")
	case kind == 2:
		w.put(p, "= &", q, ";")
	case kind == 3:
		w.put(p, "= @", name, ";")
	case kind == 4:
		w.put(p, "=", q, ";")
	case kind <= 8:
		w.through(kind, p, q)
	case kind == 9:
		w.put(p, "=", name, "(", w.some(w.arity[name]), ") ;")
	case kind <= 11:
		arguments := w.arity[name]
		if w.below(8) > 0 {
			w.put(q, "= @", name, ";")
		} else if w.below(4) == 0 {
			arguments = w.below(4)
		}
		w.put(p, "= ( *", q, ") (", w.some(arguments), ") ;")
	case kind == 12 && w.below(3) == 0:
		w.put("return", p, ";")
	case kind == 13 && depth < 6:
		w.put("while")
		w.block(depth)
	case depth < 6:
		w.put("if")
		w.block(depth)
		if w.below(2) == 0 {
			w.put("else {")
			w.statements(depth + 1)
			w.put("}")
		}
	}
}

// through writes a statement that asks for a pointer, and mostly one ahead of
// it that makes one: or else nearly every run would be trapped at once.
func (w *writer) through(kind int, p, q string) {
	if w.below(6) > 0 {
		w.put(q, "=", []string{"new", "&" + p}[w.below(5)/4], ";")
		if w.below(2) == 0 {
			w.put("*", q, "=", w.variable(), ";")
		}
	}
	switch kind {
	case 5:
		w.put(p, "= *", q, ";")
	case 6:
		w.put("*", q, "=", p, ";")
	default:
		w.put(p, "= &", q, ".", strconv.Itoa(w.below(4)), ";")
	}
}

func writeChoices(d *dice) string {
	choices := make([]byte, d.below(60))
	for i := range choices {
		choices[i] = "1111011100x\xc3\xa9"[d.below(13)]
	}
	return string(choices)
}

func TestP5AgainstTheReference(t *testing.T) {
	d := &dice{7}
	ends, long, many := [5]int{}, 0, 0
	for range 6000 {
		text, choices := writeProgram(d), writeChoices(d)
		tokens := tokensOf(t, text)
		for _, steps := range []int{5000, d.below(40), -1} {
			want, _ := referenceRun(tokens, choices, steps)
			got, fault, place := Run(text, choices, steps)
			if fault != api.OK || place != 0 || got.End != want.End || got.Steps != want.Steps || !slices.Equal(got.Seen, want.Seen) {
				t.Fatalf("P5: Run(%q, %q, %d) = %v, want %v", text, choices, steps, got, want)
			}
			ends[got.End]++
			if got.Steps > 30 {
				long++
			}
			if len(got.Seen) > 8 {
				many++
			}
		}
	}
	if slices.Min(ends[1:]) < 100 || long < 100 || many < 100 {
		t.Errorf("the programs show too little: ends %v, long ones %d, ones with much to see %d", ends, long, many)
	}
}
