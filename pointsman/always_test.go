package pointsman

import (
	"math"
	"slices"
	"strings"
	"sync"
	"testing"

	"pointsman/api"
)

// askAll asks every call that reads a text, and looks at what P1 says of all.
func askAll(t *testing.T, text string) {
	t.Helper()
	printed, fault, place := Print(text)
	if fault != api.OK && printed != "" || fault == api.OK && place != 0 || place < 0 || place > len(text) {
		t.Errorf("P1: Print(%.80q) = %q, %d, %d", text, printed, fault, place)
	}
	askRun(t, text, text, len(text), fault, place)
	Analyse(text)
}

// askRun asks for a run of a text with that fault.
func askRun(t *testing.T, text, choices string, steps int, fault api.Errno, place int) {
	t.Helper()
	trace, e, at := Run(text, choices, steps)
	if e != fault || at != place {
		t.Errorf("P3: Run(%.80q) answers the error %d at %d, but Print %d at %d", text, e, at, fault, place)
	}
	if e != api.OK && (trace.End != 0 || trace.Steps != 0 || trace.Seen != nil) {
		t.Errorf("P1: Run(%.80q) = %v beside %d", text, trace, e)
	}
	if e == api.OK && (trace.End < api.Running || trace.End > api.Deep || trace.Steps < 0 || trace.Steps > min(max(steps, 0), api.MaxSteps)) {
		t.Errorf("P5: Run(%.80q, %.20q, %d) = %v", text, choices, steps, trace)
	}
}

func TestP1ShortTexts(t *testing.T) {
	for a := range 256 {
		askAll(t, string([]byte{byte(a)}))
		for b := range 256 {
			askAll(t, string([]byte{byte(a), byte(b)}))
			askAll(t, "fn main() { }"+string([]byte{byte(a), byte(b)}))
		}
	}
}

// One byte of a program changed, left out, or put in, wherever it stands.
func TestP1ChangedPrograms(t *testing.T) {
	for _, text := range corpus() {
		for place := range len(text) {
			askAll(t, text[:place])
			askAll(t, text[place:])
			askAll(t, text[:place]+text[place+1:])
			for _, b := range "\x00 \n#$(){};=&*@.?04anfé\uFFFD" {
				askAll(t, text[:place]+string(b)+text[place:])
				askAll(t, text[:place]+string(b)+text[place+1:])
			}
			askAll(t, text[:place]+"\xff"+text[place:])
		}
	}
}

func TestP1LongTexts(t *testing.T) {
	for _, piece := range []string{"a", "é", "\xff", "\xc3", "#", "# \n", "(", "{", "}", "fn ", "fn f(", "if?{", "while?{", "fn main(){if?{", "fn f(){}", "*", "&", "$", "\x00", " "} {
		for _, length := range []int{api.MaxText - 1, api.MaxText, api.MaxText + 1, 1 << 20} {
			text := strings.Repeat(piece, length/len(piece)+1)[:length]
			askAll(t, text)
			askAll(t, "fn main() { "+text)
			if _, fault, place := Print(text); length > api.MaxText && (fault != api.ErrLong || place != 0) {
				t.Errorf("P3: %d bytes: %d, %d", length, fault, place)
			}
		}
	}
}

func TestP1OtherCalls(t *testing.T) {
	for _, text := range append(corpus(), "", "\xff", strings.Repeat("{", api.MaxText+1)) {
		for _, n := range []int{math.MinInt, -1, 0, 1, api.Fields, math.MaxInt} {
			_, fault, place := Print(text)
			askRun(t, text, "1\xff", n, fault, place)
			result, fault, _ := Analyse(text)
			if fault != api.OK {
				continue
			}
			result.Field(n, n)
			result.Enters(n)
			result.Reach()
			result.Points("main", "\xff")
			result.Alias("", "", "main", "a")
		}
	}
}

// A program that makes as much as it can in as many steps as there may be, with
// choices of any length.
func TestP1LongRuns(t *testing.T) {
	names := "a b c d e f g h i j k l"
	grow := "fn main() { var a; while ? { a = new; *a = a; a = grow(" + strings.Repeat("a ", api.MaxVars) + "); } } fn grow(" + names + ") { if ? { b = new; b = grow(" + names + "); } }"
	for _, text := range []string{grow, "fn main() { while ? { } }", "fn main() { var a; while ? { a = new; } }"} {
		for _, choices := range []string{"", strings.Repeat("1", 1<<22), strings.Repeat("110", 1<<20), strings.Repeat("\xff", 1<<22), strings.Repeat(strings.Repeat("1", 30)+"00", 1<<10)} {
			for _, steps := range []int{math.MinInt, 0, api.MaxSteps, math.MaxInt} {
				askRun(t, text, choices, steps, api.OK, 0)
			}
		}
	}
}

// answer is what two calls answer; what a run has seen is one text in it, so
// that answers can be held against each other.
type answer struct {
	printed, seen string
	end, steps    int
	fault         api.Errno
	place         int
}

func ask(text string) answer {
	printed, fault, place := Print(text)
	trace, _, _ := Run(text, "1101", 50)
	return answer{printed, strings.Join(trace.Seen, " "), trace.End, trace.Steps, fault, place}
}

// Whatever is written into a list that came out, no other one is changed, its
// spare room neither.
func TestP2SeenIsNewMemory(t *testing.T) {
	for _, text := range corpus() {
		first, _, _ := Run(text, "11", 50)
		kept := slices.Clone(first.Seen)
		second, _, _ := Run(text, "11", 50)
		spoil(first.Seen)
		third, _, _ := Run(text, "11", 50)
		if !slices.Equal(second.Seen, kept) || !slices.Equal(third.Seen, kept) {
			t.Errorf("P2: Run(%q) saw %q, then %q, then %q", text, kept, second.Seen, third.Seen)
		}
		spoil(second.Seen)
		if !slices.Equal(third.Seen, kept) {
			t.Errorf("P2: Run(%q) gave out one list twice", text)
		}
	}
}

func spoil(list []string) {
	list = list[:cap(list)]
	for i := range list {
		list[i] = "spoilt"
	}
}

func manyTexts() []string {
	texts := []string{"", "\xff", "fn", "fn main() { a = a; }", "fn f() { }", "fn main() { var a; a = f(a); } fn f() { }", "fn main() { } # \uFFFD", strings.Repeat(" ", api.MaxText+1)}
	return append(texts, corpus()...)
}

// Each text is asked for once right behind each other one.
func TestP2WhateverWasAskedBefore(t *testing.T) {
	texts := manyTexts()
	first := map[string]answer{}
	for _, text := range texts {
		first[text] = ask(text)
	}
	for _, before := range texts {
		for _, text := range texts {
			ask(before)
			Run(before, "1", 100)
			Analyse(before)
			if got := ask(text); got != first[text] {
				t.Errorf("P2: Print and Run of %.60q = %v, behind %.60q, but %v at first", text, got, before, first[text])
			}
		}
	}
}

func TestP2AtTheSameTime(t *testing.T) {
	texts := manyTexts()
	var all sync.WaitGroup
	for _, text := range texts {
		want := ask(text)
		for range 4 {
			all.Go(func() {
				for range 50 {
					if got := ask(text); got != want {
						t.Errorf("P2: Print and Run of %.60q = %v, want %v", text, got, want)
					}
				}
			})
		}
	}
	all.Wait()
}
