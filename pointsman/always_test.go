package pointsman

import (
	"math"
	"strings"
	"sync"
	"testing"

	"pointsman/api"
)

// askAll asks every call that reads a text, and looks at what P1 says of all.
func askAll(t *testing.T, text string) {
	t.Helper()
	printed, fault, place := Print(text)
	if fault != api.OK && printed != "" || fault == api.OK && place != 0 || place < 0 || place > len(text) {
		t.Errorf("P1: Print(%.80q) = %q, %d, %d", text, printed, fault, place)
	}
	Run(text, text, len(text))
	Analyse(text)
}

func TestP1ShortTexts(t *testing.T) {
	for a := range 256 {
		askAll(t, string([]byte{byte(a)}))
		for b := range 256 {
			askAll(t, string([]byte{byte(a), byte(b)}))
			askAll(t, "fn main() { }"+string([]byte{byte(a), byte(b)}))
		}
	}
}

// One byte of a program changed, left out, or put in, wherever it stands.
func TestP1ChangedPrograms(t *testing.T) {
	for _, text := range corpus() {
		for place := range len(text) {
			askAll(t, text[:place])
			askAll(t, text[place:])
			askAll(t, text[:place]+text[place+1:])
			for _, b := range "\x00 \n#$(){};=&*@.?04anfé\uFFFD" {
				askAll(t, text[:place]+string(b)+text[place:])
				askAll(t, text[:place]+string(b)+text[place+1:])
			}
			askAll(t, text[:place]+"\xff"+text[place:])
		}
	}
}

func TestP1LongTexts(t *testing.T) {
	for _, piece := range []string{"a", "é", "\xff", "\xc3", "#", "# \n", "(", "{", "}", "fn ", "fn f(", "if?{", "while?{", "fn main(){if?{", "fn f(){}", "*", "&", "$", "\x00", " "} {
		for _, length := range []int{api.MaxText - 1, api.MaxText, api.MaxText + 1, 1 << 20} {
			text := strings.Repeat(piece, length/len(piece)+1)[:length]
			askAll(t, text)
			askAll(t, "fn main() { "+text)
			if _, fault, place := Print(text); length > api.MaxText && (fault != api.ErrLong || place != 0) {
				t.Errorf("P3: %d bytes: %d, %d", length, fault, place)
			}
		}
	}
}

func TestP1OtherCalls(t *testing.T) {
	for _, text := range append(corpus(), "", "\xff", strings.Repeat("{", api.MaxText+1)) {
		for _, n := range []int{math.MinInt, -1, 0, 1, api.Fields, math.MaxInt} {
			Run(text, "1\xff", n)
			result, fault, _ := Analyse(text)
			if fault != api.OK {
				continue
			}
			result.Field(n, n)
			result.Enters(n)
			result.Reach()
			result.Points("main", "\xff")
			result.Alias("", "", "main", "a")
		}
	}
}

type answer struct {
	printed string
	fault   api.Errno
	place   int
}

func ask(text string) answer {
	printed, fault, place := Print(text)
	return answer{printed, fault, place}
}

func manyTexts() []string {
	texts := []string{"", "\xff", "fn", "fn main() { a = a; }", "fn f() { }", "fn main() { var a; a = f(a); } fn f() { }", "fn main() { } # \uFFFD", strings.Repeat(" ", api.MaxText+1)}
	return append(texts, corpus()...)
}

// Each text is asked for once right behind each other one.
func TestP2WhateverWasAskedBefore(t *testing.T) {
	texts := manyTexts()
	first := map[string]answer{}
	for _, text := range texts {
		first[text] = ask(text)
	}
	for _, before := range texts {
		for _, text := range texts {
			ask(before)
			Run(before, "1", 100)
			Analyse(before)
			if got := ask(text); got != first[text] {
				t.Errorf("P2: Print(%.60q) = %v, behind %.60q, but %v at first", text, got, before, first[text])
			}
		}
	}
}

func TestP2AtTheSameTime(t *testing.T) {
	texts := manyTexts()
	var all sync.WaitGroup
	for _, text := range texts {
		want := ask(text)
		for range 4 {
			all.Go(func() {
				for range 50 {
					if got := ask(text); got != want {
						t.Errorf("P2: Print(%.60q) = %v, want %v", text, got, want)
					}
				}
			})
		}
	}
	all.Wait()
}
