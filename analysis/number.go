package analysis

import (
	"pointsman/api"
	"pointsman/plan"
)

// Every target has a number: first come the variables of all functions, as
// many of each as there may be, then the functions, then the fields of each
// place.
const (
	firstFunction = api.MaxFuncs * api.MaxVars
	firstField    = firstFunction + api.MaxFuncs
)

func variableNumber(function, index int) int { return function*api.MaxVars + index }

func functionNumber(function int) int { return firstFunction + function }

func fieldNumber(place, field int) int { return firstField + (place-1)*api.Fields + field }

// targetOf tells the target that has a number.
func targetOf(number int) plan.Target {
	switch {
	case number < firstFunction:
		return plan.Target{Kind: plan.Variable, Owner: number / api.MaxVars, Index: number % api.MaxVars}
	case number < firstField:
		return plan.Target{Kind: plan.Code, Owner: number - firstFunction}
	}
	number -= firstField
	return plan.Target{Kind: plan.Field, Owner: number/api.Fields + 1, Index: number % api.Fields}
}
