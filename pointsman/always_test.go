package pointsman

import (
	"math"
	"slices"
	"strconv"
	"strings"
	"sync"
	"testing"

	"pointsman/api"
)

// askAll asks every call that reads a text, and looks at what P1 says of all.
func askAll(t *testing.T, text string) {
	t.Helper()
	printed, fault, place := Print(text)
	if fault != api.OK && printed != "" || fault == api.OK && place != 0 || place < 0 || place > len(text) {
		t.Errorf("P1: Print(%.80q) = %q, %d, %d", text, printed, fault, place)
	}
	askRun(t, text, text, len(text), fault, place)
	askResult(t, text, fault, place)
}

// askResult asks for the result of a text with that fault, and asks of it what
// it may tell, and what it has not.
func askResult(t *testing.T, text string, fault api.Errno, place int) {
	t.Helper()
	result, e, at := Analyse(text)
	if e != fault || at != place {
		t.Errorf("P3: Analyse(%.80q) answers the error %d at %d, but Print %d at %d", text, e, at, fault, place)
	}
	if (result == nil) != (e != api.OK) {
		t.Errorf("P1: Analyse(%.80q) = %v beside %d", text, result, e)
	}
	if result == nil {
		return
	}
	for n := -1; n <= 5; n++ {
		list, e := result.Field(1, n)
		lookAtList(t, text, list, e)
		list, e = result.Field(n, 0)
		lookAtList(t, text, list, e)
		list, e = result.Enters(n)
		lookAtList(t, text, list, e)
	}
	for _, name := range []string{"", "a", "p", "x", "main", "é", "\xff", text} {
		list, e := result.Points("main", name)
		lookAtList(t, text, list, e)
		list, e = result.Points(name, name)
		lookAtList(t, text, list, e)
		lookAtAlias(t, text, result, "main", "a", "main", name)
		lookAtAlias(t, text, result, name, "p", "main", name)
		lookAtAlias(t, text, result, name, name, name, name)
	}
	if reach := result.Reach(); !slices.Contains(reach, "main") || !slices.IsSorted(reach) || len(reach) > api.MaxFuncs {
		t.Errorf("P8: Reach of %.80q = %q", text, reach)
	}
}

// lookAtAlias asks for what Alias tells of two variables, and holds its error
// against those that Points tells of each.
func lookAtAlias(t *testing.T, text string, result *Result, f, v, g, w string) {
	t.Helper()
	_, one := result.Points(f, v)
	_, other := result.Points(g, w)
	want := max(one, other) // OK is below all others
	if is, fault := result.Alias(f, v, g, w); fault != want || fault != api.OK && is {
		t.Errorf("P8: a result of %.80q: Alias(%.20q, %.20q, %.20q, %.20q) = %v, %d, want %d", text, f, v, g, w, is, fault, want)
	}
}

func lookAtList(t *testing.T, text string, list []string, fault api.Errno) {
	t.Helper()
	if fault != api.OK && fault != api.ErrNone || fault != api.OK && list != nil {
		t.Errorf("P1: a result of %.80q tells %q beside %d", text, list, fault)
	}
}

// askRun asks for a run of a text with that fault.
func askRun(t *testing.T, text, choices string, steps int, fault api.Errno, place int) {
	t.Helper()
	trace, e, at := Run(text, choices, steps)
	if e != fault || at != place {
		t.Errorf("P3: Run(%.80q) answers the error %d at %d, but Print %d at %d", text, e, at, fault, place)
	}
	if e != api.OK && (trace.End != 0 || trace.Steps != 0 || trace.Seen != nil) {
		t.Errorf("P1: Run(%.80q) = %v beside %d", text, trace, e)
	}
	if e == api.OK && (trace.End < api.Running || trace.End > api.Deep || trace.Steps < 0 || trace.Steps > min(max(steps, 0), api.MaxSteps)) {
		t.Errorf("P5: Run(%.80q, %.20q, %d) = %v", text, choices, steps, trace)
	}
}

func TestP1ShortTexts(t *testing.T) {
	for a := range 256 {
		askAll(t, string([]byte{byte(a)}))
		for b := range 256 {
			askAll(t, string([]byte{byte(a), byte(b)}))
			askAll(t, "fn main() { }"+string([]byte{byte(a), byte(b)}))
		}
	}
}

// One byte of a program changed, left out, or put in, wherever it stands.
func TestP1ChangedPrograms(t *testing.T) {
	for _, text := range corpus() {
		for place := range len(text) {
			askAll(t, text[:place])
			askAll(t, text[place:])
			askAll(t, text[:place]+text[place+1:])
			for _, b := range "\x00 \n#$(){};=&*@.?04anfé\uFFFD" {
				askAll(t, text[:place]+string(b)+text[place:])
				askAll(t, text[:place]+string(b)+text[place+1:])
			}
			askAll(t, text[:place]+"\xff"+text[place:])
		}
	}
}

func TestP1LongTexts(t *testing.T) {
	for _, piece := range []string{"a", "é", "\xff", "\xc3", "#", "# \n", "(", "{", "}", "fn ", "fn f(", "if?{", "while?{", "fn main(){if?{", "fn f(){}", "*", "&", "$", "\x00", " "} {
		for _, length := range []int{api.MaxText - 1, api.MaxText, api.MaxText + 1, 1 << 20} {
			text := strings.Repeat(piece, length/len(piece)+1)[:length]
			askAll(t, text)
			askAll(t, "fn main() { "+text)
			if _, fault, place := Print(text); length > api.MaxText && (fault != api.ErrLong || place != 0) {
				t.Errorf("P3: %d bytes: %d, %d", length, fault, place)
			}
		}
	}
}

func TestP1OtherCalls(t *testing.T) {
	for _, text := range append(corpus(), "", "\xff", strings.Repeat("{", api.MaxText+1)) {
		_, fault, place := Print(text)
		for _, n := range []int{math.MinInt, -1, 0, 1, api.Fields, math.MaxInt} {
			askRun(t, text, "1\xff", n, fault, place)
		}
		result, fault, _ := Analyse(text)
		if fault != api.OK {
			continue
		}
		for _, n := range strangeNumbers() {
			for _, m := range []int{n, -n, 0, 1, 3, 4, math.MinInt, math.MaxInt} {
				list, fault := result.Field(n, m)
				lookAtList(t, text, list, fault)
				list, fault = result.Field(m, n)
				lookAtList(t, text, list, fault)
			}
			list, fault := result.Enters(n)
			lookAtList(t, text, list, fault)
		}
		strange := []string{"", "main", "a", "p", "é", "\xff", "\x00", "main.p", "@main", "1.0", text, strings.Repeat("main", 1<<16)}
		for _, f := range strange {
			for _, v := range strange {
				for _, g := range strange {
					lookAtAlias(t, text, result, f, v, g, "p")
					lookAtAlias(t, text, result, "main", "p", f, v)
					lookAtAlias(t, text, result, f, "p", g, v)
				}
			}
		}
	}
}

// crowd is a program of as many bytes as there may be, in which every field of
// every place may hold every field of every place, by way of all variables that
// there may be: more cannot come into sets. Its functions hold what each tells.
func crowd(each func(letter, next string) string) (string, int) {
	names := "a b c d e f g h i j k l"
	main := "fn main(){var a;var b;b=&a.1;a=b;b=&a.2;a=b;b=&a.3;a=b;"
	others := ""
	for f := range api.MaxFuncs - 1 {
		main += "b=" + letterName(f) + "(a" + strings.Repeat(" a", api.MaxVars-1) + ");"
		others += "fn " + letterName(f) + "(" + names + "){"
		for v := range api.MaxVars {
			others += each(letterName(v), letterName((v+1)%api.MaxVars))
		}
		others += "}"
	}
	places := (api.MaxText - len(main) - len("}") - len(others)) / len("a=new;")
	return main + strings.Repeat("a=new;", places) + "}" + others, places
}

func TestP1CrowdedSets(t *testing.T) {
	for _, each := range []func(letter, next string) string{
		func(letter, next string) string { return "*a=" + letter + ";" },
		func(letter, next string) string { return "*" + letter + "=" + next + ";" },
		func(letter, next string) string { return "*a=" + letter + ";" + letter + "=*l;" },
		func(letter, next string) string { return "*" + letter + "=" + next + ";" + next + "=*" + letter + ";" },
	} {
		text, places := crowd(each)
		result := analysed(t, text)
		for _, place := range []int{1, places / 2, places} {
			if list, fault := result.Field(place, 3); fault != api.OK || len(list) != places*api.Fields {
				t.Errorf("P6: Analyse(%.200q): %d targets in %d.3, error %d, want %d", text, len(list), place, fault, places*api.Fields)
			}
		}
		if reach := result.Reach(); len(reach) != api.MaxFuncs {
			t.Errorf("P8: Reach of %.200q = %q", text, reach)
		}
		if is, fault := result.Alias("main", "a", "a", "l"); !is || fault != api.OK {
			t.Errorf("P8: Analyse(%.200q): Alias of main.a and a.l = %v, %d", text, is, fault)
		}
	}
}

// A program that makes as much as it can in as many steps as there may be, with
// choices of any length.
func TestP1LongRuns(t *testing.T) {
	names := "a b c d e f g h i j k l"
	grow := "fn main() { var a; while ? { a = new; *a = a; a = grow(" + strings.Repeat("a ", api.MaxVars) + "); } } fn grow(" + names + ") { if ? { b = new; b = grow(" + names + "); } }"
	for _, text := range []string{grow, "fn main() { while ? { } }", "fn main() { var a; while ? { a = new; } }"} {
		for _, choices := range []string{"", strings.Repeat("1", 1<<22), strings.Repeat("110", 1<<20), strings.Repeat("\xff", 1<<22), strings.Repeat(strings.Repeat("1", 30)+"00", 1<<10)} {
			for _, steps := range []int{math.MinInt, 0, api.MaxSteps, math.MaxInt} {
				askRun(t, text, choices, steps, api.OK, 0)
			}
		}
	}
}

// answer is what the calls answer; what a run has seen, and what a result
// tells, is one text each in it, so that answers can be held against each other.
type answer struct {
	printed, seen, told string
	end, steps          int
	fault               api.Errno
	place               int
}

// allTold asks a result for all that it tells: the sets, what is reached, and
// of every two variables whether they share a target.
func allTold(t *testing.T, text string, result *Result) string {
	t.Helper()
	all := append(facts(t, text, result), "reached:")
	all = append(all, result.Reach()...)
	all = append(all, "shared:")
	variables := variablesOf(tokensOf(t, text))
	for _, one := range variables {
		for _, other := range variables {
			is, fault := result.Alias(one[0], one[1], other[0], other[1])
			all = append(all, strconv.FormatBool(is), strconv.Itoa(int(fault)))
		}
	}
	return strings.Join(all, " ")
}

func ask(t *testing.T, text string) answer {
	t.Helper()
	printed, fault, place := Print(text)
	trace, _, _ := Run(text, "1101", 50)
	told := ""
	if result, _, _ := Analyse(text); result != nil {
		told = allTold(t, text, result)
	}
	return answer{printed, strings.Join(trace.Seen, " "), told, trace.End, trace.Steps, fault, place}
}

// Whatever is written into a list that came out, no other one is changed, its
// spare room neither.
func TestP2SeenIsNewMemory(t *testing.T) {
	for _, text := range corpus() {
		first, _, _ := Run(text, "11", 50)
		kept := slices.Clone(first.Seen)
		second, _, _ := Run(text, "11", 50)
		spoil(first.Seen)
		third, _, _ := Run(text, "11", 50)
		if !slices.Equal(second.Seen, kept) || !slices.Equal(third.Seen, kept) {
			t.Errorf("P2: Run(%q) saw %q, then %q, then %q", text, kept, second.Seen, third.Seen)
		}
		spoil(second.Seen)
		if !slices.Equal(third.Seen, kept) {
			t.Errorf("P2: Run(%q) gave out one list twice", text)
		}
	}
}

// holder is a program in which several lists have several elements.
const holder = "fn f() { } fn g() { } fn main() { var p; var q; var r; p = new; p = &q; p = @f; p = @g; p = @main; q = p; *p = p; r = (*p)(); r = (*q)(); }"

// questions are what can be asked of its result.
func questions(result *Result) []func() ([]string, api.Errno) {
	return []func() ([]string, api.Errno){
		func() ([]string, api.Errno) { return result.Points("main", "p") },
		func() ([]string, api.Errno) { return result.Points("main", "q") },
		func() ([]string, api.Errno) { return result.Points("main", "r") },
		func() ([]string, api.Errno) { return result.Field(1, 0) },
		func() ([]string, api.Errno) { return result.Field(1, 1) },
		func() ([]string, api.Errno) { return result.Enters(1) },
		func() ([]string, api.Errno) { return result.Enters(2) },
		func() ([]string, api.Errno) { return result.Reach(), api.OK },
	}
}

// Each question is asked right behind each other one, whose list is written
// into; lists that are there already stay as they are.
func TestP2ListsOfAResultAreNewMemory(t *testing.T) {
	result, other := analysed(t, holder), analysed(t, holder)
	var want, kept [][]string
	for _, question := range questions(result) {
		list, _ := question()
		want = append(want, slices.Clone(list))
		kept = append(kept, list)
	}
	if joined := strings.Join(want[0], " ") + "; " + strings.Join(want[5], " ") + "; " + strings.Join(want[7], " "); joined != "1.0 @f @g @main main.q; f g main; f g main" {
		t.Fatalf("P7: %s", joined)
	}
	for first, before := range questions(result) {
		for second, question := range questions(result) {
			spoilt, _ := before()
			later, _ := question()
			spoil(spoilt)
			_ = append(spoilt, "spoilt")
			again, fault := question()
			if fault != api.OK || !slices.Equal(later, want[second]) || !slices.Equal(again, want[second]) {
				t.Errorf("P2: list %d is %q, then %q, when list %d was written into; want %q", second, later, again, first, want[second])
			}
		}
	}
	if got, untouched := allTold(t, holder, result), allTold(t, holder, other); got != untouched {
		t.Errorf("P2: a result whose lists were written into tells %s, another one %s", got, untouched)
	}
	for i, question := range questions(other) {
		if list, _ := question(); !slices.Equal(list, want[i]) || !slices.Equal(kept[i], want[i]) {
			t.Errorf("P2: list %d is %q in another result, %q in one that was kept; want %q", i, list, kept[i], want[i])
		}
	}
}

// Results of several texts are there side by side.
func TestP2ResultsStay(t *testing.T) {
	var results []*Result
	var want []string
	for _, text := range corpus() {
		result := analysed(t, text)
		results = append(results, result)
		want = append(want, allTold(t, text, result))
	}
	for i, text := range corpus() {
		Run(text, "1", 100)
		if got := allTold(t, text, results[i]); got != want[i] {
			t.Errorf("P2: the result of %q tells %s, but %s at first", text, got, want[i])
		}
	}
}

func TestP2OneResultAtTheSameTime(t *testing.T) {
	result := analysed(t, holder)
	want := allTold(t, holder, result)
	var all sync.WaitGroup
	for range 8 {
		all.Go(func() {
			for range 50 {
				if got := allTold(t, holder, result); got != want {
					t.Errorf("P2: the result tells %s, want %s", got, want)
				}
			}
		})
	}
	all.Wait()
}

func spoil(list []string) {
	list = list[:cap(list)]
	for i := range list {
		list[i] = "spoilt"
	}
}

func manyTexts() []string {
	texts := []string{"", "\xff", "fn", "fn main() { a = a; }", "fn f() { }", "fn main() { var a; a = f(a); } fn f() { }", "fn main() { } # \uFFFD", strings.Repeat(" ", api.MaxText+1)}
	return append(texts, corpus()...)
}

// Each text is asked for once right behind each other one.
func TestP2WhateverWasAskedBefore(t *testing.T) {
	texts := manyTexts()
	first := map[string]answer{}
	for _, text := range texts {
		first[text] = ask(t, text)
	}
	for _, before := range texts {
		for _, text := range texts {
			ask(t, before)
			Run(before, "1", 100)
			if got := ask(t, text); got != first[text] {
				t.Errorf("P2: the calls of %.60q = %v, behind %.60q, but %v at first", text, got, before, first[text])
			}
		}
	}
}

func TestP2AtTheSameTime(t *testing.T) {
	texts := manyTexts()
	var all sync.WaitGroup
	for _, text := range texts {
		want := ask(t, text)
		for range 4 {
			all.Go(func() {
				for range 50 {
					if got := ask(t, text); got != want {
						t.Errorf("P2: the calls of %.60q = %v, want %v", text, got, want)
					}
				}
			})
		}
	}
	all.Wait()
}
