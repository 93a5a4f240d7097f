package pointsman

import (
	"slices"
	"strings"
	"testing"

	"pointsman/api"
)

// wantAlias asks both ways round.
func wantAlias(t *testing.T, result *Result, f, v, g, w string, want bool, wantFault api.Errno) {
	t.Helper()
	if is, fault := result.Alias(f, v, g, w); is != want || fault != wantFault {
		t.Errorf("P8: Alias(%.20q, %.20q, %.20q, %.20q) = %v, %d, want %v, %d", f, v, g, w, is, fault, want, wantFault)
	}
	if is, fault := result.Alias(g, w, f, v); is != want || fault != wantFault {
		t.Errorf("P8: Alias(%.20q, %.20q, %.20q, %.20q) = %v, %d, want %v, %d", g, w, f, v, is, fault, want, wantFault)
	}
}

func TestP8AliasDocumentedExample(t *testing.T) {
	result := analysed(t, "fn id(x) { return x; } fn main() { var f; var p; var q; f = @id; p = new; q = (*f)(p); f = id(f); }")
	wantAlias(t, result, "main", "q", "main", "f", true, api.OK)
	wantAlias(t, result, "main", "p", "id", "x", true, api.OK)
}

func TestP8AliasEachKindOfTarget(t *testing.T) {
	head := "fn f(x) { var a; } fn g() { } fn main() { var a; var b; var c; a = new; "
	for statements, want := range map[string]bool{
		"b = new; c = new;":                     false, // two places
		"b = a; c = a;":                         true,
		"b = &a.0; c = a;":                      true,
		"b = &a.1; c = &a.1;":                   true,
		"b = &a.1; c = &a.2;":                   false, // two fields of one place
		"b = &a.3; c = a;":                      false,
		"b = &a; c = &a;":                       true,
		"b = &b; c = &c;":                       false,
		"b = &c; c = &b;":                       false, // each is the other's target, but they share none
		"b = &c; c = b;":                        true,
		"b = @f; c = @f;":                       true, // a function is a target too
		"b = @f; c = @g;":                       false,
		"b = @f; c = @g; b = @g;":               true,
		"b = a; b = &a; c = @f; c = &b; c = a;": true, // one of several
		"b = a; b = &a; c = @f; c = &b;":        false,
		"b = a;":                                false, // c's set is empty
		"":                                      false, // both are
		"c = b; b = c;":                         false,
		"return a; b = a; if ? { c = a; }":      true,
		"b = a; *b = a; c = *b;":                true,
		"b = &a; c = *b; b = c;":                true,
	} {
		result := analysed(t, head+statements+" }")
		wantAlias(t, result, "main", "b", "main", "c", want, api.OK)
	}
}

// Variables of one name in two functions are two, with a set each.
func TestP8AliasOfOtherFunctions(t *testing.T) {
	result := analysed(t, "fn f(a b) { var c; c = b; } fn dead() { var a; a = @dead; } fn main() { var a; var b; a = new; b = &a; a = f(a b); }")
	for _, c := range []struct {
		f, v, g, w string
		want       bool
	}{
		{"f", "a", "main", "a", true},
		{"f", "a", "f", "b", false},
		{"f", "a", "main", "b", false},
		{"f", "b", "main", "a", false},
		{"f", "b", "main", "b", true},
		{"f", "c", "main", "b", true},
		{"f", "c", "f", "b", true},
		{"dead", "a", "main", "a", false},
		{"dead", "a", "f", "a", false},
		{"dead", "a", "dead", "a", true},
	} {
		wantAlias(t, result, c.f, c.v, c.g, c.w, c.want, api.OK)
	}
}

func TestP8AliasOfOneVariable(t *testing.T) {
	result := analysed(t, "fn f(x) { } fn main() { var a; var b; var c; var d; a = new; b = &d; c = @f; }")
	for _, variable := range []string{"a", "b", "c"} {
		wantAlias(t, result, "main", variable, "main", variable, true, api.OK)
	}
	wantAlias(t, result, "main", "d", "main", "d", false, api.OK)
	wantAlias(t, result, "f", "x", "f", "x", false, api.OK)
}

func TestP8AliasNone(t *testing.T) {
	result := analysed(t, "fn f(x) { } fn main() { var a; var é; a = new; é = f(a); }")
	there := [][2]string{{"main", "a"}, {"main", "é"}, {"f", "x"}}
	wrong := [][2]string{{"main", "x"}, {"f", "a"}, {"f", "f"}, {"main", "main"}, {"g", "a"}, {"g", "x"}, {"", "a"}, {"main", ""}, {"", ""}, {"a", "main"},
		{"main", "main.a"}, {"main.a", ""}, {"main.", "a"}, {"mai", "a"}, {"maina", "a"}, {"main", "aa"}, {"Main", "a"}, {"main", "A"}, {"main ", "a"}, {"main", " a"},
		{"main", "\xc3"}, {"\xff", "\xff"}, {"@main", "a"}, {"@f", "x"}, {"1", "0"}, {"main", "new"}, {"main", "a\x00"}, {"main", strings.Repeat("a", 1<<20)}, {strings.Repeat("main", 1<<18), "a"}}
	for _, w := range wrong {
		for _, r := range there {
			wantAlias(t, result, w[0], w[1], r[0], r[1], false, api.ErrNone)
		}
		for _, other := range wrong {
			wantAlias(t, result, w[0], w[1], other[0], other[1], false, api.ErrNone)
		}
	}
	for _, r := range there {
		_, fault := result.Alias(r[0], r[1], "main", "a")
		if fault != api.OK {
			t.Errorf("P8: Alias of %q and main.a: %d", r, fault)
		}
	}
}

// Targets far from one another, whatever their numbers may be.
func TestP8AliasOfManyTargets(t *testing.T) {
	const places = 200
	text := "fn main() { var a; var b; var c; var d; "
	for place := range places {
		text += []string{"a", "b"}[place%2] + "=new;"
	}
	result := analysed(t, text+"c=new; d=c; }")
	wantAlias(t, result, "main", "a", "main", "b", false, api.OK)
	wantAlias(t, result, "main", "a", "main", "c", false, api.OK)
	wantAlias(t, result, "main", "c", "main", "d", true, api.OK)
	result = analysed(t, text+"c=new; a=c; b=c; }")
	wantAlias(t, result, "main", "a", "main", "b", true, api.OK)
	wantAlias(t, result, "main", "a", "main", "d", false, api.OK)
}

// Every two variables of a program, held against the targets that the second
// analysis finds.
func TestP8AliasAgainstTheReference(t *testing.T) {
	d := &dice{19}
	asked := map[bool]int{}
	for range 500 {
		for _, text := range []string{writeProgram(d), writeTangle(d)} {
			tokens := tokensOf(t, text)
			result, reference := analysed(t, text), analyseByReference(tokens)
			for _, one := range variablesOf(tokens) {
				for _, other := range variablesOf(tokens) {
					targets := reference.all(other[0] + "." + other[1])
					want := slices.ContainsFunc(reference.all(one[0]+"."+one[1]), func(target string) bool { return slices.Contains(targets, target) })
					if is, fault := result.Alias(one[0], one[1], other[0], other[1]); is != want || fault != api.OK {
						t.Fatalf("P8: %q: Alias(%q, %q) = %v, %d, want %v", text, one, other, is, fault, want)
					}
					if len(targets) > 0 && one != other {
						asked[want]++
					}
				}
			}
		}
	}
	if min(asked[true], asked[false]) < 2000 {
		t.Errorf("the programs show too little: %v", asked)
	}
}
