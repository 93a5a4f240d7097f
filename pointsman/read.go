package pointsman

import (
	"strings"

	"pointsman/api"
	"pointsman/check"
	"pointsman/scan"
	"pointsman/syntax"
)

// readText reads a text in the order in which its faults count: none of a
// later stage is told while an earlier one finds something.
func readText(text string) ([]scan.Token, syntax.Program, api.Errno, int) {
	tokens, fault, place := scan.Tokens(text)
	if fault != api.OK {
		return nil, syntax.Program{}, fault, place
	}
	program, fault, place := syntax.Parse(tokens)
	if fault != api.OK {
		return nil, syntax.Program{}, fault, place
	}
	if fault, place := check.Program(program); fault != api.OK {
		return nil, syntax.Program{}, fault, place
	}
	return tokens, program, api.OK, 0
}

func joinTokens(tokens []scan.Token) string {
	texts := make([]string, 0, len(tokens))
	for _, token := range tokens {
		if token.Kind != scan.End {
			texts = append(texts, token.Text)
		}
	}
	return strings.Join(texts, " ")
}
