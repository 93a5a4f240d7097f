package pointsman

import (
	"slices"
	"strings"
	"testing"

	"pointsman/api"
)

func wantReach(t *testing.T, text, want string) {
	t.Helper()
	if got := analysed(t, text).Reach(); !slices.Equal(got, strings.Fields(want)) {
		t.Errorf("P8: Reach of %q: %q, want %q", text, got, want)
	}
}

func TestP8ReachMainAlone(t *testing.T) {
	for _, text := range []string{
		"fn main() { }",
		"fn main() { var a; a = main(); }",
		"fn main() { var a; a = @main; a = (*a)(); }",
		"fn main() { var a; a = (*a)(); }",
		"fn f() { } fn main() { }",
		"fn main() { } fn f() { }",
		"fn a() { var x; x = b(); } fn b() { var x; x = a(); } fn main() { }", // a circle that main does not come to
	} {
		wantReach(t, text, "main")
	}
}

func TestP8ReachByName(t *testing.T) {
	for text, want := range map[string]string{
		"fn f() { } fn main() { var a; a = f(); }":                                                                       "f main",
		"fn main() { var a; a = f(a a); } fn f(x y) { }":                                                                 "f main",
		"fn main() { var a; a = f(); a = g(); a = f(); } fn f() { } fn g() { } fn h() { }":                               "f g main",
		"fn c() { } fn b() { var a; a = c(); } fn a() { var a; a = b(); } fn main() { var a; a = a(); }":                 "a b c main",
		"fn a() { var a; a = b(); } fn b() { var a; a = c(); } fn c() { var a; a = a(); } fn main() { var a; a = c(); }": "a b c main",
		"fn a() { var a; a = main(); a = b(); } fn b() { } fn main() { var a; a = a(); }":                                "a b main",
		"fn f() { var a; a = f(); } fn main() { var a; a = f(); }":                                                       "f main",
		"fn dead() { var a; a = f(); a = g(); } fn f() { } fn g() { } fn main() { var a; a = f(); }":                     "f main",
		"fn dead() { var a; a = main(); a = dead(); } fn main() { }":                                                     "main",
		// a variable of a function's name calls nothing
		"fn f() { } fn g() { } fn main() { var f; var g; f = g; f = &g; f = *g; *f = g; return f; }": "main",
	} {
		wantReach(t, text, want)
	}
}

func TestP8ReachThroughPointers(t *testing.T) {
	for text, want := range map[string]string{
		"fn f() { } fn main() { var a; a = @f; a = (*a)(); }":                                 "f main",
		"fn f() { } fn main() { var a; a = (*a)(); a = @f; }":                                 "f main", // the sets count, not the order
		"fn f() { } fn g() { } fn main() { var a; a = @f; a = @g; a = (*a)(); }":              "f g main",
		"fn f() { } fn g() { } fn main() { var a; var b; a = @f; b = @g; b = (*a)(); }":       "f main",
		"fn f(x) { } fn g() { } fn main() { var a; a = @f; a = @g; a = (*a)(); }":             "g main", // f has another number of names
		"fn f(x) { } fn g() { } fn main() { var a; a = @f; a = @g; a = (*a)(a); }":            "f main",
		"fn f(x) { } fn g() { } fn main() { var a; a = @f; a = @g; a = (*a)(a a); }":          "main",
		"fn f() { } fn main() { var a; var b; a = new; b = @f; *a = b; b = *a; a = (*b)(); }": "f main",
		// what comes in as an argument, and what a call gives back
		"fn f() { } fn do(x) { x = (*x)(); } fn main() { var a; a = @f; a = do(a); }":                                                 "do f main",
		"fn f() { } fn do(x) { return x; } fn main() { var a; var b; a = @f; b = do(a); b = (*b)(); }":                                "do f main",
		"fn f() { var x; x = @g; return x; } fn g() { var x; x = @h; return x; } fn h() { } fn main() { var a; a = @f; a = (*a)(); }": "f g h main",
		// a circle through pointers
		"fn f(x) { var a; a = @g; a = (*a)(x); } fn g(x) { x = (*x)(x); } fn main() { var a; a = @f; a = (*a)(a); }": "f g main",
		// by name and through a pointer, one behind the other
		"fn a() { var x; x = b(); } fn b() { var x; x = @c; x = (*x)(); } fn c() { var x; x = d(); } fn d() { } fn main() { var x; x = @a; x = (*x)(); }": "a b c d main",
	} {
		wantReach(t, text, want)
	}
}

// The sets are those over all statements of all functions: what a function that
// nothing calls puts into them counts, its own calls do not.
func TestP8ReachByTheSetsOfAll(t *testing.T) {
	for text, want := range map[string]string{
		"fn f() { } fn dead() { var a; a = @f; a = do(a); } fn do(x) { x = (*x)(); } fn main() { var a; a = do(a); }": "do f main",
		"fn f() { } fn dead() { var a; a = @f; a = (*a)(); } fn main() { }":                                           "main",
		"fn f() { } fn dead() { var a; a = @f; a = (*a)(); } fn main() { var a; a = @dead; }":                         "main",
		"fn f() { } fn dead() { var a; a = @main; a = (*a)(); a = @dead; a = f(); } fn main() { }":                    "main",
		// the second call is another function's: that one's set does not count for main
		"fn f() { } fn g() { } fn dead() { var a; a = @g; a = (*a)(); } fn main() { var a; a = @f; a = (*a)(); }": "f main",
		"fn dead() { var a; a = @g; a = (*a)(); } fn f() { } fn g() { } fn main() { var a; a = @f; a = (*a)(); }": "f main",
	} {
		wantReach(t, text, want)
	}
}

func TestP8ReachAddressTaken(t *testing.T) {
	for text, want := range map[string]string{
		"fn f() { } fn main() { var a; a = @f; }":                                          "main",
		"fn f() { } fn main() { var a; var b; a = @f; b = &a; *b = a; return a; }":         "main",
		"fn f() { } fn g(x) { return x; } fn main() { var a; a = @f; a = g(a); }":          "g main",
		"fn dead() { var a; a = main(); } fn main() { var a; a = @dead; }":                 "main",
		"fn dead() { var a; a = f(); } fn f() { } fn main() { var a; a = @dead; a = @f; }": "main",
	} {
		wantReach(t, text, want)
	}
}

// Where a call stands does not count, nor whether a run ever comes to it.
func TestP8ReachWhereverACallStands(t *testing.T) {
	for _, call := range []string{"a = f();", "b = @f; a = (*b)();"} {
		for _, body := range []string{
			"return a; " + call,
			"*a = a; " + call,
			"a = main(); " + call,
			"if ? { " + call + " }",
			"if ? { } else { " + call + " }",
			"if ? { return a; } else { return b; } " + call,
			"while ? { " + call + " }",
			"while ? { if ? { return a; while ? { if ? { } else { while ? { " + call + " } } } } }",
		} {
			wantReach(t, "fn f() { } fn g() { } fn main() { var a; var b; "+body+" }", "f main")
			wantReach(t, "fn f() { } fn g() { } fn do() { var a; var b; "+body+" } fn main() { var a; a = do(); }", "do f main")
		}
	}
}

func TestP8ReachInOrderOfBytes(t *testing.T) {
	names := strings.Fields("z é a ab main aa b ÿ à zz abc")
	text, calls, takes := "", "", ""
	for _, name := range names {
		calls += " x = " + name + "();"
		takes += " x = @" + name + ";"
		if name != "main" {
			text += "fn " + name + "() { } "
		}
	}
	want := "a aa ab abc b main z zz à é ÿ"
	wantReach(t, text+"fn main() { var x;"+calls+calls+" }", want)
	wantReach(t, text+"fn main() { var x;"+takes+" x = (*x)(); x = (*x)(); }", want)
	wantReach(t, text+"fn main() { var x;"+takes+" }", "main")
}

// As many functions as there may be, each called by the one behind it alone.
func TestP8ReachAsManyAsThereMayBe(t *testing.T) {
	for _, call := range []func(name string) string{
		func(name string) string { return "x = " + name + "();" },
		func(name string) string { return "x = @" + name + "; x = (*x)();" },
	} {
		text, want := "fn a() { }", "a"
		for f := 1; f < api.MaxFuncs-1; f++ {
			text += " fn " + letterName(f) + "() { var x; " + call(letterName(f-1)) + " }"
			want += " " + letterName(f)
		}
		last := letterName(api.MaxFuncs - 2)
		wantReach(t, text+" fn main() { var x; "+call(last)+" }", want+" main")
		wantReach(t, text+" fn main() { var x; x = @"+last+"; }", "main")
		wantReach(t, text+" fn main() { var x; "+call("c")+" }", "a b c main")
	}
}

func TestP8ReachAgainstTheReference(t *testing.T) {
	d := &dice{17}
	sizes := map[bool]int{} // how often functions are out of reach, and how often none is
	for range 2500 {
		for _, text := range []string{writeProgram(d), writeTangle(d)} {
			tokens := tokensOf(t, text)
			got, want := analysed(t, text).Reach(), analyseByReference(tokens).reach()
			if !slices.Equal(got, want) {
				t.Fatalf("P8: Reach of %q: %q, want %q", text, got, want)
			}
			if len(want) > 1 {
				sizes[len(want) < count(tokens, "fn")]++
			}
		}
	}
	if min(sizes[true], sizes[false]) < 500 {
		t.Errorf("the programs show too little: %v", sizes)
	}
}
