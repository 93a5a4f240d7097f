package analysis

import (
	"slices"
	"testing"

	"pointsman/api"
	"pointsman/plan"
)

func setWith(numbers ...int) set {
	s := set{}
	for _, number := range numbers {
		s.add(number)
	}
	return s
}

func wantNumbers(t *testing.T, what string, s set, want ...int) {
	t.Helper()
	got := s.numbers()
	slices.Sort(got)
	if !slices.Equal(got, want) {
		t.Errorf("%s: %v, want %v", what, got, want)
	}
}

func TestAdd(t *testing.T) {
	s := set{}
	for _, number := range []int{0, 1, 63, 64, 127, 128, 2800} {
		if !s.add(number) || s.add(number) {
			t.Errorf("%d is new once", number)
		}
	}
	wantNumbers(t, "all", s, 0, 1, 63, 64, 127, 128, 2800)
	wantNumbers(t, "none", set{})
	wantNumbers(t, "no set", nil)
	wantNumbers(t, "one", setOf(65), 65)
}

func TestTake(t *testing.T) {
	s, other := setWith(1, 63, 64), setWith(0, 1, 64, 65, 700)
	wantNumbers(t, "new", s.take(other), 0, 65, 700)
	wantNumbers(t, "all", s, 0, 1, 63, 64, 65, 700)
	wantNumbers(t, "the other", other, 0, 1, 64, 65, 700)
	if fresh := s.take(other); len(fresh) != 0 {
		t.Errorf("new once more: %v", fresh)
	}
	if fresh := s.take(s); len(fresh) != 0 {
		t.Errorf("new of itself: %v", fresh)
	}
	fresh := s.take(setWith(5))
	fresh.add(6)
	wantNumbers(t, "what is told is no part of the set", s, 0, 1, 5, 63, 64, 65, 700)
}

func TestMeets(t *testing.T) {
	for _, c := range []struct {
		one, other set
		want       bool
	}{
		{set{}, set{}, false},
		{nil, set{}, false},
		{setOf(3), nil, false},
		{setOf(3), setOf(3), true},
		{setOf(3), setOf(4), false},
		{setOf(3), setOf(3 + wordSize), false},
		{setWith(0, 63, 700), setWith(1, 62, 64, 700), true},
		{setWith(0, 63, 700), setWith(1, 62, 64, 701), false},
	} {
		if c.one.meets(c.other) != c.want || c.other.meets(c.one) != c.want {
			t.Errorf("%v meets %v, want %v", c.one, c.other, c.want)
		}
	}
}

// Every target has a number of its own, and is found by it.
func TestNumbers(t *testing.T) {
	taken := map[int]plan.Target{}
	look := func(number int, want plan.Target) {
		if got := targetOf(number); got != want {
			t.Errorf("%d is %v, want %v", number, got, want)
		}
		if other, is := taken[number]; is || number < 0 {
			t.Errorf("%v and %v have the number %d", want, other, number)
		}
		taken[number] = want
	}
	for function := range api.MaxFuncs {
		look(functionNumber(function), plan.Target{Kind: plan.Code, Owner: function})
		for variable := range api.MaxVars {
			look(variableNumber(function, variable), plan.Target{Kind: plan.Variable, Owner: function, Index: variable})
		}
	}
	for place := 1; place <= 700; place++ {
		for field := range api.Fields {
			look(fieldNumber(place, field), plan.Target{Kind: plan.Field, Owner: place, Index: field})
		}
	}
}
