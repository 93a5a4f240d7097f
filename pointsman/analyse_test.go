package pointsman

import (
	"math"
	"slices"
	"strconv"
	"strings"
	"testing"

	"pointsman/api"
)

// analysed asks for the result of a text without faults.
func analysed(t *testing.T, text string) *Result {
	t.Helper()
	result, fault, place := Analyse(text)
	if result == nil || fault != api.OK || place != 0 {
		t.Fatalf("P6: Analyse(%.200q): %v, error %d at %d", text, result, fault, place)
	}
	return result
}

// facts asks a result for all that can be asked of its text, and tells it as
// what is seen in runs is told: cell>target, and !call>function.
func facts(t *testing.T, text string, result *Result) []string {
	t.Helper()
	printed, _, _ := Print(text)
	var all []string
	add := func(head string, list []string, fault api.Errno) {
		if fault != api.OK {
			t.Errorf("P7: %.200q: %s: error %d", text, head, fault)
		}
		for i, target := range list {
			if i > 0 && list[i-1] >= target {
				t.Errorf("P7: %.200q: %s: %q is not in order, or has one twice", text, head, list)
			}
			all = append(all, head+">"+target)
		}
	}
	tokens := strings.Fields(printed)
	for _, cell := range variablesOf(tokens) {
		list, fault := result.Points(cell[0], cell[1])
		add(cell[0]+"."+cell[1], list, fault)
	}
	for place := 1; place <= count(tokens, "new"); place++ {
		for field := range 4 {
			list, fault := result.Field(place, field)
			add(strconv.Itoa(place)+"."+strconv.Itoa(field), list, fault)
		}
	}
	for call := 1; call <= count(tokens, "( *"); call++ {
		list, fault := result.Enters(call)
		add("!"+strconv.Itoa(call), list, fault)
	}
	slices.Sort(all)
	return all
}

// variablesOf tells each variable with its function ahead of it.
func variablesOf(tokens []string) [][2]string {
	var all [][2]string
	function := ""
	for i, token := range tokens {
		switch token {
		case "fn":
			function = tokens[i+1]
			for _, name := range tokens[i+3 : i+slices.Index(tokens[i:], ")")] {
				all = append(all, [2]string{function, name})
			}
		case "var":
			all = append(all, [2]string{function, tokens[i+1]})
		}
	}
	return all
}

// wantFacts asks that a text's sets hold that, and nothing else.
func wantFacts(t *testing.T, text, want string) {
	t.Helper()
	wanted := strings.Fields(want)
	slices.Sort(wanted)
	if got := facts(t, text, analysed(t, text)); !slices.Equal(got, wanted) {
		t.Errorf("P6: of %q:\n got %q\nwant %q", text, got, wanted)
	}
}

// made has variables of main that hold something of each kind: a a place's
// field 0, b a variable, c a function, d all of them; e holds nothing.
const (
	made      = "fn f(x) { } fn main() { var a; var b; var c; var d; var e; a = new; b = &a; c = @f; d = a; d = b; d = c; "
	madeFacts = " main.a>1.0 main.b>main.a main.c>@f main.d>1.0 main.d>main.a main.d>@f "
)

func TestP6EachStatement(t *testing.T) {
	for _, c := range []struct{ statement, more string }{
		{"", ""},
		{"var g;", ""},
		{"e = new;", "main.e>2.0"},
		{"a = new;", "main.a>2.0 main.d>2.0"},
		{"e = &e;", "main.e>main.e"},
		{"e = &a;", "main.e>main.a"},
		{"e = @f;", "main.e>@f"},
		{"e = @main;", "main.e>@main"},
		{"e = a;", "main.e>1.0"},
		{"e = d;", "main.e>1.0 main.e>main.a main.e>@f"},
		{"d = e;", ""},
		{"e = e;", ""},
		{"e = &a.0;", "main.e>1.0"},
		{"e = &a.1;", "main.e>1.1"},
		{"e = &a.3;", "main.e>1.3"},
		{"e = &b.1;", ""},
		{"e = &c.0;", ""},
		{"e = &d.2;", "main.e>1.2"},
		{"e = &e.2;", ""},
		{"e = &a.2; e = &e.3;", "main.e>1.2"},
		{"a = &a.1;", "main.a>1.1 main.d>1.1"},
		{"e = *a;", ""},
		{"e = *b;", "main.e>1.0"},
		{"e = *c;", ""},
		{"e = *d;", "main.e>1.0"},
		{"e = *e;", ""},
		{"*a = c;", "1.0>@f"},
		{"*b = c;", "main.a>@f main.d>@f"},
		{"*c = a;", ""},
		{"*d = c;", "1.0>@f main.a>@f"},
		{"*e = d;", ""},
		{"*a = e;", ""},
		{"e = f(a);", "f.x>1.0"},
		{"e = f(d);", "f.x>1.0 f.x>main.a f.x>@f"},
		{"e = main();", ""},
		{"e = (*c)(a);", "!1>f f.x>1.0"},
		{"e = (*d)(e);", "!1>f"},
		{"e = (*a)(a);", ""},
		{"e = (*e)(a);", ""},
		{"e = (*c)();", ""},
		{"e = (*c)(a a);", ""},
		{"return a;", ""},
		{"return a; e = main();", "main.e>1.0"},
		{"if ? { e = a; }", "main.e>1.0"},
		{"if ? { } else { e = a; }", "main.e>1.0"},
		{"while ? { while ? { e = a; } }", "main.e>1.0"},
	} {
		wantFacts(t, made+c.statement+" }", union(madeFacts, c.more))
	}
}

// union tells the words of two texts, each once.
func union(a, b string) string {
	words := strings.Fields(a + " " + b)
	slices.Sort(words)
	return strings.Join(slices.Compact(words), " ")
}

func TestP6DocumentedExamples(t *testing.T) {
	wantFacts(t, "fn main() { var p; var q; p = new; q = &p; *q = q; }", "main.p>1.0 main.p>main.p main.q>main.p")
	wantFacts(t, "fn main() { var p; var q; p = new; q = &p.2; *q = p; p = *q; }", "main.p>1.0 main.q>1.2 1.2>1.0")
	wantFacts(t, "fn id(x) { return x; } fn main() { var f; var p; var q; f = @id; p = new; q = (*f)(p); f = id(f); }",
		"main.q>1.0 main.q>@id main.f>1.0 main.f>@id main.p>1.0 id.x>1.0 id.x>@id !1>id")
	// the one in README.md
	text := "fn f(x) { return x; } fn main() { var p; var q; p = @f; q = new; q = (*p)(q); *q = p; }"
	wantFacts(t, text, "main.p>@f main.q>1.0 f.x>1.0 1.0>@f !1>f")
	wantReach(t, text, "f main")
	wantAlias(t, analysed(t, text), "main", "q", "f", "x", true, api.OK)
}

// What is far behind comes ahead all the same, whatever stands between.
func TestP6WhateverTheOrder(t *testing.T) {
	statements := strings.Fields("a=b; b=c; c=&d.1; d=e; e=*f; f=&g; g=new; *f=h; h=@main; i=(*a)(); i=(*e)();")
	want := "main.a>1.1 main.b>1.1 main.c>1.1 main.d>1.0 main.d>@main main.e>1.0 main.e>@main main.f>main.g main.g>1.0 main.g>@main main.h>@main"
	declared := ""
	for _, name := range strings.Fields("a b c d e f g h i") {
		declared += "var " + name + "; "
	}
	for turn := range statements {
		turned := append(slices.Clone(statements[turn:]), statements[:turn]...)
		for range 2 {
			text := "fn main() { " + declared + strings.Join(turned, " ") + " }"
			call := " !2>main"
			if strings.Index(text, "(*e)") < strings.Index(text, "(*a)") {
				call = " !1>main"
			}
			wantFacts(t, text, want+call)
			slices.Reverse(turned)
		}
	}
}

func TestP6SetsGrowThroughOneAnother(t *testing.T) {
	wantFacts(t, "fn main() { var a; var b; a = b; b = a; }", "")
	wantFacts(t, "fn main() { var a; var b; var c; a = b; b = c; c = a; b = new; }", "main.a>1.0 main.b>1.0 main.c>1.0")
	wantFacts(t, "fn main() { var a; a = &a; *a = a; a = *a; }", "main.a>main.a")
	wantFacts(t, "fn main() { var a; var b; a = &a; *a = b; b = new; }", "main.a>main.a main.a>1.0 main.b>1.0 1.0>1.0")
	wantFacts(t, "fn main() { var a; var b; a = new; b = a; b = &b.1; *b = b; a = *b; }",
		"main.a>1.0 main.a>1.1 main.b>1.0 main.b>1.1 1.0>1.0 1.0>1.1 1.1>1.0 1.1>1.1")
	// a list of three, gone through by its links; the last one is stored late
	wantFacts(t, "fn main() { var a; var b; var c; var i; i = *i; i = a; *b = c; *a = b; c = new; b = new; a = new; }",
		"main.a>3.0 main.b>2.0 main.c>1.0 main.i>1.0 main.i>2.0 main.i>3.0 2.0>1.0 3.0>2.0")
	// what is stored through a pointer comes to be pointed to by it
	wantFacts(t, "fn main() { var p; var q; var r; *p = r; p = *p; p = q; q = &q; r = &r; }",
		"main.p>main.q main.p>main.r main.q>main.q main.q>main.r main.r>main.r")
}

func TestP6CallsGrowLate(t *testing.T) {
	// f gives back g, which is called through what f gave back, and gives back h
	wantFacts(t, `fn main() { var p; p = @f; p = (*p)(); }
		fn h() { var x; x = new; return x; } fn g() { var x; x = @h; return x; } fn f() { var x; x = @g; return x; }`,
		"main.p>@f main.p>@g main.p>@h main.p>1.0 h.x>1.0 g.x>@h f.x>@g !1>f !1>g !1>h")
	// the call's own argument brings the function in
	wantFacts(t, "fn set(p v) { *p = v; } fn main() { var f; var g; var a; a = (*f)(); g = &f; f = @set; a = @id; g = (*f)(g a); } fn id() { var x; return x; }",
		"main.f>@set main.f>@id main.a>@id main.g>main.f set.p>main.f set.v>@id !1>id !2>set")
	// a function whose set of what it gives back grows behind the call
	wantFacts(t, "fn main() { var a; a = f(); } fn f() { var x; var y; return y; y = x; x = @f; }", "main.a>@f f.x>@f f.y>@f")
}

func TestP6AnotherNumberOfArguments(t *testing.T) {
	functions := "fn none() { } fn one(x) { return x; } fn two(x y) { return y; } "
	head := functions + "fn main() { var a; var b; var p; a = new; b = new; p = @none; p = @one; p = @two; p = @main; "
	headFacts := "main.a>1.0 main.b>2.0 main.p>@none main.p>@one main.p>@two main.p>@main "
	for call, more := range map[string]string{
		"b = (*p)();":      "!1>none !1>main",
		"b = (*p)(a);":     "!1>one one.x>1.0 main.b>1.0",
		"p = (*p)(a b);":   "!1>two two.x>1.0 two.y>2.0 main.p>2.0",
		"p = (*p)(a a a);": "",
		"p = (*p)(a); p = (*p)(b b); p = (*p)(p p p p);": "!1>one !2>two one.x>1.0 two.x>2.0 two.y>2.0 main.p>1.0 main.p>2.0",
	} {
		wantFacts(t, head+call+" }", headFacts+more)
	}
}

func TestP6SeveralReturns(t *testing.T) {
	wantFacts(t, "fn f(x y z) { if ? { return x; } else { while ? { return y; } } return z; return z; var a; a = @f; return a; } fn main() { var a; var b; var c; a = new; b = new; c = f(a b c); }",
		"main.a>1.0 main.b>2.0 main.c>1.0 main.c>2.0 main.c>@f f.x>1.0 f.y>2.0 f.z>1.0 f.z>2.0 f.z>@f f.a>@f")
	// what one function gives back is not what another does
	wantFacts(t, "fn f() { var x; x = @f; return x; } fn g() { var x; x = @g; } fn main() { var a; var b; a = f(); b = g(); return a; }",
		"f.x>@f g.x>@g main.a>@f")
	wantFacts(t, "fn f(x) { x = f(x); return x; } fn main() { var a; a = f(a); a = new; }", "f.x>1.0 main.a>1.0")
	// functions that have variables of one name have each their own
	wantFacts(t, "fn f(a) { a = new; } fn g(a) { a = new; a = f(a); } fn main() { var a; a = new; a = g(a); }",
		"f.a>1.0 f.a>2.0 f.a>3.0 g.a>2.0 g.a>3.0 main.a>3.0")
}

func TestP6WhatNoRunEnters(t *testing.T) {
	wantFacts(t, "fn dead(x) { x = new; *x = x; } fn main() { }", "dead.x>1.0 1.0>1.0")
	wantFacts(t, "fn dead(x) { x = live(x); x = @main; } fn live(x) { var y; y = x; } fn main() { var a; a = live(a); }",
		"dead.x>@main live.x>@main live.y>@main")
	wantFacts(t, "fn main() { var a; return a; a = new; if ? { return a; a = @main; } }", "main.a>1.0 main.a>@main")
	wantFacts(t, "fn main() { var a; *a = a; a = &a; }", "main.a>main.a")
	wantFacts(t, "fn main() { var a; a = main(); return a; a = new; }", "main.a>1.0")
	wantFacts(t, "fn dead() { var f; var a; f = @main; a = (*f)(); } fn main() { var x; x = @dead; return x; }",
		"dead.f>@main dead.a>@dead main.x>@dead !1>main")
}

func TestP7Numbers(t *testing.T) {
	text := `fn b() { var x; if ? { x = new; x = (*x)(); } else { while ? { x = new; } x = (*x)(x); } }
		fn main() { var x; x = @b; x = (*x)(); while ? { x = new; } }
		fn a(x) { x = @a; x = (*x)(x); x = new; }`
	result := analysed(t, text)
	for place, want := range map[int]string{1: "b", 2: "b", 3: "main", 4: "a"} {
		_, fault := result.Field(place, 0)
		list, _ := result.Points(want, "x")
		if fault != api.OK || !slices.Contains(list, strconv.Itoa(place)+".0") {
			t.Errorf("P7: place %d: %d; %s.x: %q", place, fault, want, list)
		}
	}
	for call, want := range map[int]string{1: "", 2: "", 3: "b", 4: "a"} {
		list, fault := result.Enters(call)
		if fault != api.OK || strings.Join(list, " ") != want {
			t.Errorf("P7: Enters(%d) = %q, %d, want %q", call, list, fault, want)
		}
	}
}

// Names of which one begins another, numbers of one and of two digits, and
// letters of two bytes.
func TestP7InOrderOfBytes(t *testing.T) {
	text := "fn ab() { } fn é() { } fn a() { } fn z() { } fn main() { var é; var b; var ab; var p; p = &é; p = @main; p = &b; p = &ab; p = @é; p = @z; p = @ab; p = @a; " +
		strings.Repeat("p = new; ", 11) + "b = &p.3; p = b; *p = p; b = (*p)(); }"
	result := analysed(t, text)
	want := strings.Fields("1.0 1.3 10.0 10.3 11.0 11.3 2.0 2.3 3.0 3.3 4.0 4.3 5.0 5.3 6.0 6.3 7.0 7.3 8.0 8.3 9.0 9.3 @a @ab @main @z @é main.ab main.b main.é")
	if list, fault := result.Points("main", "p"); fault != api.OK || !slices.Equal(list, want) {
		t.Errorf("P7: Points = %q, %d", list, fault)
	}
	if list, fault := result.Points("main", "é"); fault != api.OK || !slices.Equal(list, want) {
		t.Errorf("P7: Points = %q, %d", list, fault)
	}
	if list, fault := result.Field(11, 3); fault != api.OK || !slices.Equal(list, want) {
		t.Errorf("P7: Field = %q, %d", list, fault)
	}
	if list, fault := result.Enters(1); fault != api.OK || strings.Join(list, " ") != "a ab main z é" {
		t.Errorf("P7: Enters = %q, %d", list, fault)
	}
}

func wantNone(t *testing.T, what string, list []string, fault api.Errno) {
	t.Helper()
	if list != nil || fault != api.ErrNone {
		t.Errorf("P7: %s = %q, %d, want ErrNone", what, list, fault)
	}
}

// strangeNumbers are such as may be taken for a small one when they are
// multiplied.
func strangeNumbers() []int {
	numbers := []int{math.MinInt, math.MinInt + 1, math.MinInt32, -1 << 60, -4, -3, -2, -1, 0, math.MaxInt32, math.MaxInt - 1, math.MaxInt}
	for shift := 8; shift < 63; shift++ {
		numbers = append(numbers, 1<<shift, 1<<shift+1, 1<<shift+2, -1<<shift+1, -1<<shift+2)
	}
	return numbers
}

func TestP7None(t *testing.T) {
	result := analysed(t, "fn f(x) { var y; y = x; } fn main() { var p; var é; p = new; p = new; p = @f; p = (*p)(p); p = (*p)(p); p = (*p)(p); }")
	for _, name := range [][2]string{{"main", "x"}, {"main", "y"}, {"f", "p"}, {"f", "main"}, {"main", "main"}, {"g", "p"}, {"p", "p"}, {"", "p"}, {"main", ""}, {"", ""},
		{"main", "main.p"}, {"main.p", ""}, {"main.", "p"}, {"mai", "p"}, {"maina", "p"}, {"main", "pp"}, {"Main", "p"}, {"main", " p"}, {"main ", "p"}, {"main", "\xc3"}, {"\xff", "\xff"},
		{"@main", "p"}, {"1", "0"}, {"main", strings.Repeat("p", 1<<20)}, {"main", "var"}, {"main", "0"}, {"p", "main"}, {"main", "p\x00"}} {
		list, fault := result.Points(name[0], name[1])
		wantNone(t, "Points of "+name[0]+" and "+name[1], list, fault)
	}
	for _, n := range append(strangeNumbers(), 3, 4, 5) {
		list, fault := result.Field(n, 0)
		wantNone(t, "Field "+strconv.Itoa(n)+".0", list, fault)
		list, fault = result.Field(n, n)
		wantNone(t, "Field "+strconv.Itoa(n)+"."+strconv.Itoa(n), list, fault)
	}
	for _, n := range append(strangeNumbers(), 4, 5) {
		if n != 0 {
			list, fault := result.Field(2, n)
			wantNone(t, "Field 2."+strconv.Itoa(n), list, fault)
		}
		list, fault := result.Enters(n)
		wantNone(t, "Enters "+strconv.Itoa(n), list, fault)
	}
	for n := 1; n <= 3; n++ {
		if list, fault := result.Enters(n); fault != api.OK || !slices.Equal(list, []string{"f"}) {
			t.Errorf("P7: Enters(%d) = %q, %d", n, list, fault)
		}
	}
	for _, name := range [][2]string{{"main", "p"}, {"main", "é"}, {"f", "x"}, {"f", "y"}} {
		if _, fault := result.Points(name[0], name[1]); fault != api.OK {
			t.Errorf("P7: Points(%q): %d", name, fault)
		}
	}
}

func TestP7NothingIsThere(t *testing.T) {
	result := analysed(t, "fn main() { }")
	for _, n := range append(strangeNumbers(), 1, 2, 3) {
		list, fault := result.Field(n, 0)
		wantNone(t, "Field", list, fault)
		list, fault = result.Field(n, 3)
		wantNone(t, "Field", list, fault)
		list, fault = result.Enters(n)
		wantNone(t, "Enters", list, fault)
	}
	for _, name := range []string{"", "main", "p"} {
		list, fault := result.Points("main", name)
		wantNone(t, "Points", list, fault)
	}
}

// Every function and every variable that there may be.
func TestP7AsManyAsThereMayBe(t *testing.T) {
	text := ""
	for f := range api.MaxFuncs - 1 {
		text += "fn " + letterName(f) + "(a b c d e f g h i j k l) { a = @main; l = @" + letterName(f) + "; }"
	}
	text += "fn main() { "
	for v := range api.MaxVars {
		text += "var " + letterName(v) + "; "
	}
	text += "l = &l; }"
	result := analysed(t, text)
	for f := range api.MaxFuncs {
		for v := range api.MaxVars {
			function, want := letterName(f), ""
			switch {
			case f == api.MaxFuncs-1 && v == api.MaxVars-1:
				function, want = "main", "main.l"
			case f == api.MaxFuncs-1:
				function = "main"
			case v == 0:
				want = "@main"
			case v == api.MaxVars-1:
				want = "@" + function
			}
			if list, fault := result.Points(function, letterName(v)); fault != api.OK || strings.Join(list, " ") != want {
				t.Errorf("P7: Points(%s, %s) = %q, %d, want %q", function, letterName(v), list, fault, want)
			}
		}
	}
}
