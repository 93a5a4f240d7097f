package check

import (
	"strings"
	"testing"

	"pointsman/api"
	"pointsman/scan"
	"pointsman/syntax"
)

// mark stands ahead of the place at which the fault is to be told.
const mark = "!"

func checkText(t *testing.T, text string) (api.Errno, int) {
	t.Helper()
	tokens, fault, _ := scan.Tokens(text)
	if fault != api.OK {
		t.Fatalf("%q has no tokens: %d", text, fault)
	}
	program, fault, _ := syntax.Parse(tokens)
	if fault != api.OK {
		t.Fatalf("%q has no tree: %d", text, fault)
	}
	return Program(program)
}

func TestFaultOfEachStatement(t *testing.T) {
	for body, want := range map[string]api.Errno{
		"var !a;":                       api.ErrTwice,
		"!z = new;":                     api.ErrName,
		"!z = &a;":                      api.ErrName,
		"a = &!z;":                      api.ErrName,
		"!z = &a.0;":                    api.ErrName,
		"a = &!z.0;":                    api.ErrName,
		"!z = @f;":                      api.ErrName,
		"a = @!z;":                      api.ErrName,
		"a = @!a;":                      api.ErrName,
		"!z = *a;":                      api.ErrName,
		"a = *!z;":                      api.ErrName,
		"!z = a;":                       api.ErrName,
		"a = !z;":                       api.ErrName,
		"a = !f;":                       api.ErrName,
		"!z = f(a);":                    api.ErrName,
		"a = !z(a);":                    api.ErrName,
		"a = f(!z);":                    api.ErrName,
		"a = !f();":                     api.ErrArity,
		"a = !f(a a);":                  api.ErrArity,
		"a = !main(a);":                 api.ErrArity,
		"!z = (*a)(a);":                 api.ErrName,
		"a = (*!z)(a);":                 api.ErrName,
		"a = (*!f)(a);":                 api.ErrName,
		"a = (*a)(a !z);":               api.ErrName,
		"*!z = a;":                      api.ErrName,
		"*a = !z;":                      api.ErrName,
		"return !z;":                    api.ErrName,
		"if ? { return !z; }":           api.ErrName,
		"if ? { } else { return !z; }":  api.ErrName,
		"while ? { return !z; }":        api.ErrName,
		"if ? { var z; } else { z = a;": api.OK,
		"a = (*a)();":                   api.OK,
		"a = (*a)(a a a);":              api.OK,
		"var f; f = f(f); f = @f;":      api.OK,
		"var main; main = main();":      api.OK,
	} {
		body += strings.Repeat(" }", strings.Count(body, "{")-strings.Count(body, "}"))
		text := "fn main() { var a; " + body + " } fn f(x) { }"
		place := max(strings.Index(text, mark), 0)
		text = strings.Replace(text, mark, "", 1)
		if fault, at := checkText(t, text); fault != want || at != place {
			t.Errorf("%q: %d, %d, want %d, %d", text, fault, at, want, place)
		}
	}
}

func TestFirstFaultByPlace(t *testing.T) {
	for marked, want := range map[string]api.Errno{
		"fn main() { !a = b; a = c(); }":                                 api.ErrName,
		"fn main() { var a; a = !f(b); } fn f() { }":                     api.ErrArity,
		"fn main() { var a; a = f(!b); } fn f(x) { }":                    api.ErrName,
		"fn main() { var a; var !a; b = a; }":                            api.ErrTwice,
		"fn main() { !b = b; } fn main() { }":                            api.ErrName,
		"fn f() { } fn !f(x) { }":                                        api.ErrTwice,
		"fn f(x !x) { } fn f() { }":                                      api.ErrTwice,
		"fn main() { var a; a = f(a); } fn f(x) { } fn !f() { }":         api.ErrTwice,
		"fn main() { var a; a = !f(); } fn f(x) { } fn f() { }":          api.ErrArity,
		"fn f(x) { } fn !f() { } fn main() { var a; a = f(); }":          api.ErrTwice,
		"fn main(x) { } fn !main() { }":                                  api.ErrTwice,
		"fn main(x) { var a; a = main(x); }!":                            api.ErrName,
		"fn f() { }  !":                                                  api.ErrName,
		"fn f(x) { !y = x; } fn g(y) { y = x; } fn main() { }":           api.ErrName,
		"fn f() { var x; } fn g() { return !x; } fn main() { }":          api.ErrName,
		"fn f() { var x; } fn g() { var x; } fn main() { var f; var g;}": api.OK,
	} {
		text := strings.Replace(marked, mark, "", 1)
		place := max(strings.Index(marked, mark), 0)
		if fault, at := checkText(t, text); fault != want || at != place {
			t.Errorf("%q: %d, %d, want %d, %d", text, fault, at, want, place)
		}
	}
}
