package scan

import (
	"slices"
	"strings"
	"testing"

	"pointsman/api"
)

func TestTokensOfEachKind(t *testing.T) {
	text := "fn var new return if else while é 0 1 2 3 (){};=&*@.?"
	want := []Kind{Fn, Var, New, Return, If, Else, While, Name, Digit, Digit, Digit, Digit,
		OpenParen, CloseParen, OpenBrace, CloseBrace, Semicolon, Equals, Ampersand, Star, AtSign, Dot, Question, End}
	tokens, fault, place := Tokens(text)
	var got []Kind
	for _, token := range tokens {
		got = append(got, token.Kind)
		if !strings.HasPrefix(text[token.Place:], token.Text) {
			t.Errorf("token %q is not at %d", token.Text, token.Place)
		}
	}
	if fault != api.OK || place != 0 || !slices.Equal(got, want) {
		t.Errorf("kinds %v, %d, %d, want %v", got, fault, place, want)
	}
}

func TestTokensWithTheirPlaces(t *testing.T) {
	for text, want := range map[string][]Token{
		"":            {{End, "", 0}},
		" \t\n":       {{End, "", 3}},
		"#":           {{End, "", 1}},
		"a#b\nc":      {{Name, "a", 0}, {Name, "c", 4}, {End, "", 5}},
		"a##\n#\r\nb": {{Name, "a", 0}, {Name, "b", 7}, {End, "", 8}},
		"àa1ÿ":        {{Name, "àa", 0}, {Digit, "1", 3}, {Name, "ÿ", 4}, {End, "", 6}},
		"fnvar fn":    {{Name, "fnvar", 0}, {Fn, "fn", 6}, {End, "", 8}},
		"30=":         {{Digit, "3", 0}, {Digit, "0", 1}, {Equals, "=", 2}, {End, "", 3}},
		"eightlet":    {{Name, "eightlet", 0}, {End, "", 8}},
	} {
		got, fault, place := Tokens(text)
		if fault != api.OK || place != 0 || !slices.Equal(got, want) {
			t.Errorf("Tokens(%q) = %v, %d, %d, want %v", text, got, fault, place, want)
		}
	}
}

func TestNoTokens(t *testing.T) {
	for _, c := range []struct {
		text  string
		fault api.Errno
		place int
	}{
		{"a ninelette", api.ErrText, 2},
		{"a\x00", api.ErrText, 1},
		{"a\uFFFD", api.ErrText, 1},
		{"# \uFFFD\n\x80", api.ErrText, 6},
		{strings.Repeat("$", api.MaxText+1), api.ErrLong, 0},
	} {
		tokens, fault, place := Tokens(c.text)
		if tokens != nil || fault != c.fault || place != c.place {
			t.Errorf("Tokens(%.20q) = %v, %d, %d, want %d, %d", c.text, tokens, fault, place, c.fault, c.place)
		}
	}
}
