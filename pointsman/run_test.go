package pointsman

import (
	"math"
	"slices"
	"strings"
	"testing"

	"pointsman/api"
)

// wantRun asks for a run; seen are the words of a text.
func wantRun(t *testing.T, text, choices string, steps, end, done int, seen string) {
	t.Helper()
	trace, fault, place := Run(text, choices, steps)
	if fault != api.OK || place != 0 {
		t.Errorf("P5: Run(%.200q, %.20q, %d): error %d at %d", text, choices, steps, fault, place)
	}
	if trace.End != end || trace.Steps != done || !slices.Equal(trace.Seen, strings.Fields(seen)) {
		t.Errorf("P5: Run(%.200q, %.20q, %d) = %v, want %d, %d, [%s]", text, choices, steps, trace, end, done, seen)
	}
}

// wantEnd asks for a run that ends at that step, and for the same one step
// shorter: there it has not ended.
func wantEnd(t *testing.T, text, choices string, end, done int, seen string) {
	t.Helper()
	wantRun(t, text, choices, api.MaxSteps, end, done, seen)
	wantRun(t, text, choices, done, end, done, seen)
	trace, _, _ := Run(text, choices, done-1)
	if trace.End != api.Running || trace.Steps != done-1 {
		t.Errorf("P5: Run(%q, %q, %d) = %v, want Running", text, choices, done-1, trace)
	}
}

// head makes a point to what place 1 has made, b to a, and c hold f; it is
// seven steps, and headSeen is what is seen in them.
const (
	head     = "fn f(x) { return x; } fn main() { var a; var b; var c; var d; a = new; b = &a; c = @f; "
	headSeen = "main.a>1.0 main.b>main.a main.c>@f"
)

// Each kind of statement is one step; d is a variable that holds nothing.
func TestP5EachStatement(t *testing.T) {
	for _, c := range []struct{ statement, seen string }{
		{"var e;", headSeen},
		{"d = new;", headSeen + " main.d>2.0"},
		{"d = &d;", headSeen + " main.d>main.d"},
		{"d = &c;", headSeen + " main.d>main.c"},
		{"d = @main;", headSeen + " main.d>@main"},
		{"d = a;", headSeen + " main.d>1.0"},
		{"d = b;", headSeen + " main.d>main.a"},
		{"d = c;", headSeen + " main.d>@f"},
		{"a = d;", headSeen},
		{"d = &a.0;", headSeen + " main.d>1.0"},
		{"d = &a.1;", headSeen + " main.d>1.1"},
		{"d = &a.3;", headSeen + " main.d>1.3"},
		{"d = *b;", headSeen + " main.d>1.0"},
		{"d = *a;", headSeen},
		{"*a = c;", "1.0>@f " + headSeen},
		{"*a = b;", "1.0>main.a " + headSeen},
		{"*a = a;", "1.0>1.0 " + headSeen},
		{"*b = c;", "main.a>1.0 main.a>@f main.b>main.a main.c>@f"},
		{"*b = d;", headSeen},
		{"return a;", headSeen},
		{"return d;", headSeen},
		{"if ? { }", headSeen},
		{"if ? { } else { }", headSeen},
		{"if ? { d = a; }", headSeen},
		{"while ? { d = a; }", headSeen},
	} {
		wantEnd(t, head+c.statement+" }", "", api.Finished, 8, c.seen)
	}
}

func TestP5Calls(t *testing.T) {
	wantEnd(t, head+"d = f(a); }", "", api.Finished, 9, "f.x>1.0 "+headSeen+" main.d>1.0")
	wantEnd(t, head+"d = f(d); }", "", api.Finished, 9, headSeen)
	wantEnd(t, head+"d = (*c)(b); }", "", api.Finished, 9, "!1>f f.x>main.a "+headSeen+" main.d>main.a")
	// what was held behind the call and ahead of the return
	wantRun(t, head+"d = f(a); }", "", 8, api.Running, 8, "f.x>1.0 "+headSeen)
	wantRun(t, head+"d = (*c)(b); }", "", 8, api.Running, 8, "!1>f f.x>main.a "+headSeen)
	// arguments go to the names at their places, all of them as they were ahead of the call
	wantEnd(t, "fn main() { var a; var b; a = new; b = @g; a = g(b a); } fn g(y x) { var z; z = y; y = x; return z; }", "",
		api.Finished, 9, "g.x>1.0 g.y>1.0 g.y>@g g.z>@g main.a>1.0 main.a>@g main.b>@g")
	wantEnd(t, "fn main() { var a; a = new; a = g(a a); } fn g(a b) { a = b; a = &a; a = *a; }", "",
		api.Finished, 6, "g.a>1.0 g.a>g.a g.b>1.0 main.a>1.0")
	// who is called writes into its own variables, and into the caller's through pointers
	wantEnd(t, "fn g(x) { x = new; } fn main() { var a; a = &a; a = g(a); }", "",
		api.Finished, 4, "g.x>1.0 g.x>main.a main.a>main.a")
	wantEnd(t, "fn g(x) { *x = x; } fn main() { var a; var b; a = &b; b = g(a); b = *b; }", "",
		api.Trapped, 6, "g.x>main.b main.a>main.b main.b>main.b")
	// a function may be called ahead of where it stands, and hold itself
	wantEnd(t, "fn main() { var a; a = g(); a = (*a)(); } fn g() { var a; a = @g; return a; }", "",
		api.Finished, 9, "!1>g g.a>@g main.a>@g")
}

// A function that gives back nothing: what got its answer holds nothing.
func TestP5BlockEndGivesNothing(t *testing.T) {
	for _, c := range []struct {
		body string
		done int // of the step at which nothing is loaded through
	}{
		{"", 4}, {"var y;", 5}, {"if ? { }", 5}, {"while ? { }", 5}, {"if ? { return x; }", 5},
		{"var y; return y;", 6}, {"x = *x; return x;", 6},
	} {
		text := "fn g(x) { " + c.body + " } fn main() { var a; a = new; a = g(a); a = *a; }"
		wantEnd(t, text, "", api.Trapped, c.done, "g.x>1.0 main.a>1.0")
	}
}

// Ends of blocks are no steps: those that are reached belong to the step ahead.
func TestP5EndsBelongToTheStepAhead(t *testing.T) {
	wantRun(t, "fn main() { var a; }", "", 1, api.Finished, 1, "")
	wantRun(t, "fn main() { if ? { if ? { if ? { } } } }", "111", 3, api.Finished, 3, "")
	wantRun(t, "fn main() { if ? { if ? { } else { var a; } } else { } }", "101", 3, api.Finished, 3, "")
	wantRun(t, "fn main() { var a; a = f(); } fn f() { var a; a = g(); } fn g() { }", "", 4, api.Finished, 4, "")
	wantRun(t, "fn main() { var a; a = f(); } fn f() { var a; a = g(); } fn g() { var a; return a; }", "", 6, api.Finished, 6, "")
	wantRun(t, "fn main() { var a; a = f(); } fn f() { if ? { var a; a = f(); } }", "1110", 12, api.Finished, 12, "")
	// the answer is got in the step of the return
	text := "fn main() { var a; a = f(); var b; } fn f() { var x; x = &x; return x; }"
	wantRun(t, text, "", 4, api.Running, 4, "f.x>f.x")
	wantRun(t, text, "", 5, api.Running, 5, "f.x>f.x main.a>f.x")
	wantRun(t, text, "", 6, api.Finished, 6, "f.x>f.x main.a>f.x")
}

func TestP5EmptyMain(t *testing.T) {
	for _, steps := range []int{math.MinInt, -1, 0, 1, api.MaxSteps, math.MaxInt} {
		wantRun(t, "fn main() { }", "1", steps, api.Finished, 0, "")
		wantRun(t, "fn f(x) { x = new; } fn main() { # \n} fn g() { var a; }", "", steps, api.Finished, 0, "")
	}
}

func TestP5Return(t *testing.T) {
	wantEnd(t, "fn main() { var a; return a; a = *a; }", "", api.Finished, 2, "")
	wantEnd(t, "fn main() { var a; while ? { while ? { return a; } } a = *a; }", "11", api.Finished, 4, "")
	wantEnd(t, "fn main() { var a; while ? { while ? { return a; } } a = *a; }", "101", api.Trapped, 7, "")
	// the function that called goes on behind its call
	wantEnd(t, "fn f() { var x; while ? { x = new; return x; } } fn main() { var a; while ? { a = f(); } }", "1110", api.Finished, 12, "f.x>1.0 main.a>1.0")
	// main may be called, and its return is then that of a call
	wantEnd(t, "fn main() { var a; a = new; if ? { a = main(); a = *a; a = *a; } return a; }", "1", api.Trapped, 10, "main.a>1.0")
}

func TestP5Trapped(t *testing.T) {
	for _, statement := range []string{
		"a = *d;", "a = *c;", // nothing, a function
		"*d = a;", "*c = a;",
		"a = &d.0;", "a = &c.0;", "a = &b.0;", // a variable's cell is no field 0
		"a = (*d)(a);", "a = (*a)(a);", "a = (*b)(a);",
		"a = (*c)();", "a = (*c)(a a);",
		"*d = d;", "a = (*d)();",
	} {
		wantEnd(t, head+statement+" d = new; }", "", api.Trapped, 8, headSeen)
	}
	for k := 1; k < api.Fields; k++ { // field 0 of what new has made, and no other
		text := head + "d = &a." + string(rune('0'+k)) + "; a = &d.0; }"
		wantEnd(t, text, "", api.Trapped, 9, headSeen+" main.d>1."+string(rune('0'+k)))
	}
	wantEnd(t, "fn main() { var a; a = *a; }", "", api.Trapped, 2, "")
	wantEnd(t, "fn main() { var a; if ? { *a = a; } }", "1", api.Trapped, 3, "")
	wantEnd(t, "fn main() { var a; a = f(a); } fn f(x) { x = &x.3; }", "", api.Trapped, 3, "")
	wantEnd(t, "fn main() { var a; a = new; a = *a; *a = a; }", "", api.Trapped, 4, "main.a>1.0")
}

func TestP5TrappedByNewCells(t *testing.T) {
	// each time a function is entered its variables hold nothing, also where a var stands in a while
	wantEnd(t, "fn f() { if ? { var x; x = new; } x = *x; } fn main() { var a; a = f(); a = f(); }", "10", api.Trapped, 9, "f.x>1.0")
	// a var does nothing, so it does not empty its variable
	wantEnd(t, "fn main() { var b; while ? { var a; if ? { b = *a; } a = new; } }", "101", api.Finished, 10, "main.a>1.0")
	wantEnd(t, "fn main() { var b; while ? { var a; if ? { b = *a; } a = new; } }", "1011", api.Finished, 11, "main.a>1.0")
	wantEnd(t, "fn main() { var b; while ? { var a; if ? { b = *a; } a = new; } }", "11", api.Trapped, 5, "")
}

func deepText(body string) string {
	return "fn main() { var p; p = g(); } fn g() { " + body + " }"
}

func TestP5Deep(t *testing.T) {
	wantEnd(t, "fn main() { var p; p = main(); }", "", api.Deep, 80, "")
	wantEnd(t, "fn main() { var p; p = @main; p = (*p)(); }", "", api.Deep, 120, "!1>main main.p>@main")
	// 39 more than main may be entered, a 40th may not; an empty one is entered too
	call := func(n int, tail string) string { return strings.Repeat("1", n) + tail }
	text := deepText("var x; if ? { x = g(); }")
	wantEnd(t, text, call(api.MaxDeep-2, "0"), api.Finished, 2+3*(api.MaxDeep-2)+2, "")
	wantEnd(t, text, call(api.MaxDeep-1, "0"), api.Deep, 2+3*(api.MaxDeep-1), "")
	text = deepText("var x; if ? { x = g(); } else { x = e(); }") + " fn e() { }"
	wantEnd(t, text, call(api.MaxDeep-3, "0"), api.Finished, 2+3*(api.MaxDeep-2), "")
	wantEnd(t, text, call(api.MaxDeep-2, "0"), api.Deep, 2+3*(api.MaxDeep-1), "")
	// those that have returned do not count
	wantEnd(t, "fn main() { var p; while ? { p = g(); } } fn g() { }", strings.Repeat("1", 100), api.Finished, 202, "")
	// nothing is seen of a function that is not entered
	text = "fn main() { var p; p = g(p); } fn g(x) { if ? { x = g(x); } else { x = @e; x = (*x)(x); } } fn e(y) { }"
	wantEnd(t, text, call(api.MaxDeep-2, ""), api.Deep, 2+2*(api.MaxDeep-2)+3, "g.x>@e")
	wantEnd(t, text, call(api.MaxDeep-3, ""), api.Finished, 2+2*(api.MaxDeep-3)+3, "!1>e e.y>@e g.x>@e")
	// what must be and is not is asked for ahead of entering
	text = "fn main() { var p; p = g(); } fn g() { var x; if ? { x = g(); } x = (*x)(); }"
	wantEnd(t, text, call(api.MaxDeep-2, ""), api.Trapped, 2+3*(api.MaxDeep-2)+3, "")
}

func TestP5Steps(t *testing.T) {
	loop, ones := "fn main() { while ? { } }", strings.Repeat("1", api.MaxSteps+100)
	for _, steps := range []int{math.MinInt, -api.MaxSteps, -1, 0} {
		wantRun(t, loop, ones, steps, api.Running, 0, "")
		wantRun(t, "fn main() { var p; *p = p; }", "", steps, api.Running, 0, "")
		wantRun(t, "fn main() { var p; }", "", steps, api.Running, 0, "")
	}
	for _, steps := range []int{1, 2, 999, api.MaxSteps - 1, api.MaxSteps} {
		wantRun(t, loop, ones, steps, api.Running, steps, "")
	}
	for _, steps := range []int{api.MaxSteps + 1, math.MaxInt32, math.MaxInt64} {
		wantRun(t, loop, ones, steps, api.Running, api.MaxSteps, "")
	}
	wantRun(t, loop, ones[:api.MaxSteps-1], math.MaxInt, api.Finished, api.MaxSteps, "")
	wantRun(t, loop, ones[:api.MaxSteps], math.MaxInt, api.Running, api.MaxSteps, "")
	wantRun(t, "fn main() { var p; while ? { } *p = p; }", ones[:api.MaxSteps-3], math.MaxInt, api.Trapped, api.MaxSteps, "")
	wantRun(t, "fn main() { var p; while ? { } *p = p; }", ones[:api.MaxSteps-2], math.MaxInt, api.Running, api.MaxSteps, "")
}

func TestP5Choices(t *testing.T) {
	text := "fn main() { var a; if ? { a = new; } else { a = @main; } while ? { a = &a; } }"
	for choices, seen := range map[string]string{
		"": "@main", "0": "@main", "1": "1.0", "11": "1.0 main.a", "01": "@main main.a", "111": "1.0 main.a",
		"x1": "@main main.a", "\x001": "@main main.a", "\x011": "@main main.a", "\xff1": "@main main.a", " 1": "@main main.a",
		"é": "@main", "é1": "@main", "１": "@main", "1é1": "1.0", "2": "@main", "\n1": "@main main.a", "true": "@main",
	} {
		seen = "main.a>" + strings.Join(strings.Fields(seen), " main.a>")
		trace, _, _ := Run(text, choices, 100)
		if trace.End != api.Finished || strings.Join(trace.Seen, " ") != seen {
			t.Errorf("P5: Run(%q, %q, 100) = %v, want %s", text, choices, trace, seen)
		}
	}
	// one choice for each if and each time round, whichever function it stands in
	wantEnd(t, "fn f() { if ? { } } fn main() { var a; while ? { a = f(); } }", "101110x1", api.Finished, 11, "")
	wantEnd(t, "fn main() { while ? { while ? { } } }", "1101110", api.Finished, 8, "")
	wantEnd(t, "fn main() { while ? { while ? { } } }", "1", api.Finished, 3, "")
	wantEnd(t, "fn main() { while ? { } }", "11", api.Finished, 3, "")
}

func TestP5Seen(t *testing.T) {
	// each once, whichever time and wherever it came about
	wantEnd(t, "fn main() { var a; while ? { a = new; a = new; a = new; } }", "11", api.Finished, 10, "main.a>1.0 main.a>2.0 main.a>3.0")
	wantEnd(t, "fn f() { var x; x = &x; return x; } fn main() { var a; var b; a = f(); b = f(); *a = b; *b = a; b = *b; }", "",
		api.Finished, 13, "f.x>f.x main.a>f.x main.b>f.x")
	// in order of bytes, not of numbers or of letters
	var news strings.Builder
	for range 10 {
		news.WriteString("a = new; ")
	}
	wantEnd(t, "fn main() { var a; "+news.String()+"}", "", api.Finished, 11,
		"main.a>1.0 main.a>10.0 main.a>2.0 main.a>3.0 main.a>4.0 main.a>5.0 main.a>6.0 main.a>7.0 main.a>8.0 main.a>9.0")
	wantEnd(t, "fn main() { var z; var é; var a; z = new; *z = z; é = @main; a = é; z = (*a)(); }", "",
		api.Deep, 8*api.MaxDeep, "!1>main 1.0>1.0 main.a>@main main.z>1.0 main.é>@main")
	// a place and a call have their number by the text, not by the run
	wantEnd(t, "fn never() { var a; a = new; a = (*a)(); } fn main() { var a; if ? { a = new; a = (*a)(); } a = new; *a = a; a = @g; a = (*a)(); } fn g() { }", "",
		api.Finished, 6, "!3>g 3.0>3.0 main.a>3.0 main.a>@g")
	// a call that enters several, and one that enters the same one again
	wantEnd(t, "fn f() { } fn g() { } fn main() { var a; var b; while ? { if ? { a = @f; } else { a = @g; } b = (*a)(); } b = (*a)(); }", "111011",
		api.Finished, 16, "!1>f !1>g !2>f main.a>@f main.a>@g")
	// a function that is entered by its name is no call through a pointer
	wantEnd(t, "fn f() { } fn main() { var a; a = f(); }", "", api.Finished, 2, "")
}

// Fields belong to what was made: each new makes its own, and a field of one
// never is another's.
func TestP5Fields(t *testing.T) {
	text := "fn main() { var a; var b; var c; while ? { b = a; a = new; } c = &a.1; *c = a; c = &b.1; c = *c; *c = c; }"
	wantEnd(t, text, "11", api.Trapped, 15, "1.1>1.0 main.a>1.0 main.b>1.0 main.c>1.1")
	text = "fn main() { var a; var c; a = new; c = &a.0; *c = a; c = &a.1; *c = c; c = &a.2; *c = a; c = &a.3; a = *c; *a = a; }"
	wantEnd(t, text, "", api.Trapped, 12, "1.0>1.0 1.1>1.1 1.2>1.0 main.a>1.0 main.c>1.0 main.c>1.1 main.c>1.2 main.c>1.3")
	// fields hold functions and variables too, and are got at from another function
	text = "fn set(o v) { o = &o.2; *o = v; } fn get(o) { o = &o.2; o = *o; return o; } fn main() { var o; var v; o = new; v = @get; v = set(o v); v = get(o); v = (*v)(o); v = set(o v); }"
	wantEnd(t, text, "", api.Finished, 2+2+3+4+4+3, "!1>get 1.2>@get get.o>1.0 get.o>1.2 get.o>@get main.o>1.0 main.v>@get set.o>1.0 set.o>1.2 set.v>@get")
}

// Variables live on when their function has returned, if something points there.
func TestP5PointersToVariablesThatAreLeft(t *testing.T) {
	text := "fn f(x) { var y; y = &x; return y; } fn main() { var a; var b; var c; a = @f; b = f(a); c = f(b); c = *c; c = *c; a = (*c)(c); }"
	wantEnd(t, text, "", api.Finished, 3+1+4+4+1+1+4,
		"!1>f f.x>@f f.x>f.x f.y>f.x main.a>@f main.a>f.x main.b>f.x main.c>@f main.c>f.x")
}

func TestP5Examples(t *testing.T) {
	wantRun(t, "fn main() { var p; var q; p = new; q = &p; *q = q; }", "", 100, api.Finished, 5, "main.p>1.0 main.p>main.p main.q>main.p")
	wantRun(t, "fn id(x) { return x; } fn main() { var f; var p; var q; f = @id; p = new; q = (*f)(p); f = id(f); }", "", 100,
		api.Finished, 9, "!1>id id.x>1.0 id.x>@id main.f>@id main.p>1.0 main.q>1.0")
	wantRun(t, "fn main() { var p; *p = p; }", "", 100, api.Trapped, 2, "")
	wantRun(t, "fn main() { while ? { } }", "11", 100, api.Finished, 3, "")
	wantRun(t, "fn main() { var p; p = main(); }", "", 100, api.Deep, 80, "")
}
