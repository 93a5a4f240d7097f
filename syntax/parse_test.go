package syntax

import (
	"reflect"
	"testing"

	"pointsman/api"
	"pointsman/scan"
)

func parseText(t *testing.T, text string) (Program, api.Errno, int) {
	t.Helper()
	tokens, fault, _ := scan.Tokens(text)
	if fault != api.OK {
		t.Fatalf("%q has no tokens: %d", text, fault)
	}
	return Parse(tokens)
}

func TestTreeOfStatements(t *testing.T) {
	p, q := Name{"p", 7}, func(place int) Name { return Name{"q", place} }
	for text, want := range map[string]Statement{
		"fn f(){var p;}":      {Kind: Declare, Target: Name{"p", 11}},
		"fn f(){p=new;}":      {Kind: Make, Target: p},
		"fn f(){p=&q;}":       {Kind: TakeAddress, Target: p, Source: q(10)},
		"fn f(){p=&q.3;}":     {Kind: TakeField, Target: p, Source: q(10), Field: 3},
		"fn f(){p=@q;}":       {Kind: TakeFunction, Target: p, Source: q(10)},
		"fn f(){p=*q;}":       {Kind: Load, Target: p, Source: q(10)},
		"fn f(){p=q;}":        {Kind: Copy, Target: p, Source: q(9)},
		"fn f(){p=q();}":      {Kind: Call, Target: p, Source: q(9)},
		"fn f(){p=q(p q);}":   {Kind: Call, Target: p, Source: q(9), Arguments: []Name{{"p", 11}, q(13)}},
		"fn f(){p=(*q)(p);}":  {Kind: CallThrough, Target: p, Source: q(11), Arguments: []Name{{"p", 14}}},
		"fn f(){*p=q;}":       {Kind: Store, Target: Name{"p", 8}, Source: q(10)},
		"fn f(){return q;}":   {Kind: Return, Source: q(14)},
		"fn f(){if?{}}":       {Kind: Choose, Blocks: []Block{{Place: 10}}},
		"fn f(){if?{}else{}}": {Kind: Choose, Blocks: []Block{{Place: 10}, {Place: 16}}},
		"fn f(){while?{}}":    {Kind: Repeat, Blocks: []Block{{Place: 13}}},
	} {
		program, fault, place := parseText(t, text)
		body := Block{Place: 6, Statements: []Statement{want}}
		wanted := Program{Functions: []Function{{Name: Name{"f", 3}, Body: body}}, End: len(text)}
		if fault != api.OK || place != 0 || !reflect.DeepEqual(program, wanted) {
			t.Errorf("Parse(%q) = %v, %d, %d, want %v", text, program, fault, place, wanted)
		}
	}
}

func TestTreeOfFunctions(t *testing.T) {
	program, fault, _ := parseText(t, "fn f(a b) { } fn g() { if ? { while ? { } } return a; } # end")
	inner := Statement{Kind: Repeat, Blocks: []Block{{Place: 38}}}
	want := Program{End: 61, Functions: []Function{
		{Name: Name{"f", 3}, Parameters: []Name{{"a", 5}, {"b", 7}}, Body: Block{Place: 10}},
		{Name: Name{"g", 17}, Body: Block{Place: 21, Statements: []Statement{
			{Kind: Choose, Blocks: []Block{{Place: 28, Statements: []Statement{inner}}}},
			{Kind: Return, Source: Name{"a", 51}},
		}}},
	}}
	if fault != api.OK || !reflect.DeepEqual(program, want) {
		t.Errorf("got %v, %d, want %v", program, fault, want)
	}
}

func TestNoTreeWithAFault(t *testing.T) {
	program, fault, place := parseText(t, "fn f() { } fn g() { p = } }")
	if !reflect.DeepEqual(program, Program{}) || fault != api.ErrParse || place != 24 {
		t.Errorf("got %v, %d, %d", program, fault, place)
	}
}
