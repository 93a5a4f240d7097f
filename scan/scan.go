// Package scan takes a text apart into its tokens.
package scan

import (
	"strings"

	"pointsman/api"
)

// Kind is the kind of a token.
type Kind int

const (
	End Kind = iota // behind the last token of a text
	Name
	Digit
	Fn
	Var
	New
	Return
	If
	Else
	While
	OpenParen
	CloseParen
	OpenBrace
	CloseBrace
	Semicolon
	Equals
	Ampersand
	Star
	AtSign
	Dot
	Question
)

// Token is one token, with the number of bytes ahead of it.
type Token struct {
	Kind  Kind
	Text  string
	Place int
}

// Tokens tells the tokens of a text, and behind them one of the kind End, so
// that whoever reads them need not ask whether there is one more.
func Tokens(text string) ([]Token, api.Errno, int) {
	if len(text) > api.MaxText {
		return nil, api.ErrLong, 0
	}
	s := scanner{text: text}
	for place, r := range text {
		if wrong, ok := s.take(place, r); !ok {
			return nil, api.ErrText, wrong
		}
	}
	s.endWord(len(text))
	s.add(End, len(text), len(text))
	return s.tokens, api.OK, 0
}

// scanner is what is known of a text between two of its characters.
type scanner struct {
	text     string
	tokens   []Token
	inRemark bool
	start    int // of the word at hand
	letters  int // of the word at hand; 0 if there is none
}

// take goes on by one character. If that shows that no token begins at some
// place, it answers the place and false.
func (s *scanner) take(place int, r rune) (int, bool) {
	switch {
	case isBroken(s.text, place, r):
		return place, false
	case s.inRemark:
		s.inRemark = r != '\n'
		return 0, true
	case isLetter(r):
		return s.takeLetter(place)
	}
	s.endWord(place)
	return s.takeMark(place, r)
}

func (s *scanner) takeLetter(place int) (int, bool) {
	if s.letters == 0 {
		s.start = place
	}
	s.letters++
	if s.letters > api.MaxName {
		return s.start, false
	}
	return 0, true
}

func (s *scanner) takeMark(place int, r rune) (int, bool) {
	switch r {
	case ' ', '\t', '\n':
		return 0, true
	case '#':
		s.inRemark = true
		return 0, true
	}
	kind, ok := markKind(r)
	if !ok {
		return place, false
	}
	s.add(kind, place, place+1)
	return 0, true
}

// endWord ends the word at hand, if there is one, ahead of end.
func (s *scanner) endWord(end int) {
	if s.letters > 0 {
		s.add(wordKind(s.text[s.start:end]), s.start, end)
	}
	s.letters = 0
}

func (s *scanner) add(kind Kind, start int, end int) {
	s.tokens = append(s.tokens, Token{kind, s.text[start:end], start})
}

// isBroken tells whether the rune at place stands for a byte that is not
// UTF-8. A range gives U+FFFD for such a byte, but also for that character
// where it is written out, which is sound.
func isBroken(text string, place int, r rune) bool {
	return r == '\uFFFD' && !strings.HasPrefix(text[place:], "\uFFFD")
}

func isLetter(r rune) bool {
	if r == '\u00F7' { // the division sign, in the midst of the letters
		return false
	}
	return 'a' <= r && r <= 'z' || '\u00E0' <= r && r <= '\u00FF'
}

func wordKind(word string) Kind {
	switch word {
	case "fn":
		return Fn
	case "var":
		return Var
	case "new":
		return New
	case "return":
		return Return
	case "if":
		return If
	case "else":
		return Else
	case "while":
		return While
	}
	return Name
}

// markKind tells the kind of a token that is one character; false if the
// character is no token.
func markKind(r rune) (Kind, bool) {
	switch r {
	case '0', '1', '2', '3':
		return Digit, true
	case '(':
		return OpenParen, true
	case ')':
		return CloseParen, true
	case '{':
		return OpenBrace, true
	case '}':
		return CloseBrace, true
	case ';':
		return Semicolon, true
	case '=':
		return Equals, true
	case '&':
		return Ampersand, true
	case '*':
		return Star, true
	case '@':
		return AtSign, true
	case '.':
		return Dot, true
	case '?':
		return Question, true
	}
	return End, false
}
