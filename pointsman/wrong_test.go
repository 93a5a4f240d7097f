package pointsman

import (
	"strconv"
	"strings"
	"testing"

	"pointsman/api"
)

// wantFault asks all calls that read a text for a fault and its place, and
// that nothing is answered beside it.
func wantFault(t *testing.T, text string, fault api.Errno, place int) {
	t.Helper()
	printed, e, at := Print(text)
	if e != fault || at != place {
		t.Errorf("P3: Print(%.80q) (%d bytes): %d, %d, want %d, %d", text, len(text), e, at, fault, place)
	}
	if (printed == "") != (e != api.OK) {
		t.Errorf("P1: Print(%.80q) = %q beside %d", text, printed, e)
	}
	trace, e, at := Run(text, "1", 10)
	if e != fault || at != place {
		t.Errorf("P3: Run(%.80q): %d, %d, want %d, %d", text, e, at, fault, place)
	}
	if e != api.OK && (trace.End != 0 || trace.Steps != 0 || trace.Seen != nil) {
		t.Errorf("P1: Run(%.80q) = %v beside %d", text, trace, e)
	}
	result, e, at := Analyse(text)
	if e != fault || at != place {
		t.Errorf("P3: Analyse(%.80q): %d, %d, want %d, %d", text, e, at, fault, place)
	}
	if (result == nil) != (e != api.OK) {
		t.Errorf("P1: Analyse(%.80q) = %v beside %d", text, result, e)
	}
}

func TestP3DocumentedExamples(t *testing.T) {
	wantFault(t, "", api.ErrParse, 0)
	wantFault(t, "fn main() {", api.ErrParse, 11)
	wantFault(t, "fn main() { p = new; }", api.ErrName, 12)
	wantFault(t, "fn f() { }", api.ErrName, 10)
	wantFault(t, "fn main() { var p; var p; }", api.ErrTwice, 23)
	wantFault(t, "fn main() $", api.ErrText, 10)
	wantFault(t, "fn fn", api.ErrParse, 3)
}

func TestP3Long(t *testing.T) {
	program := "fn main() { }"
	pad := strings.Repeat(" ", api.MaxText-len(program))
	remark := "#" + strings.Repeat("x", api.MaxText-len(program)-1)
	wantFault(t, program+pad, api.OK, 0)
	wantFault(t, pad+program, api.OK, 0)
	wantFault(t, program+remark, api.OK, 0)
	wantFault(t, program+pad+" ", api.ErrLong, 0)
	wantFault(t, program+remark+"x", api.ErrLong, 0)
	wantFault(t, "\xff$"+pad+program, api.ErrLong, 0)
	wantFault(t, strings.Repeat("é", api.MaxText/2), api.ErrText, 0)
	wantFault(t, strings.Repeat("é", api.MaxText/2+1), api.ErrLong, 0)
	wantFault(t, strings.Repeat("fn main(){", 1000000), api.ErrLong, 0)
}

// Every character by itself, behind a whole program and within a remark.
func TestP3Characters(t *testing.T) {
	program := "fn main() { }"
	for r := rune(0); r <= 0x3000; r++ {
		fault := api.ErrText
		switch {
		case strings.ContainsRune(" \t\n#", r):
			fault = api.OK
		case strings.ContainsRune("0123(){};=&*@.?", r), r >= 'a' && r <= 'z':
			fault = api.ErrParse
		case r >= 0xE0 && r <= 0xFF && r != 0xF7:
			fault = api.ErrParse
		}
		place := len(program)
		if fault == api.OK {
			place = 0
		}
		wantFault(t, program+string(r), fault, place)
		wantFault(t, program+"#"+string(r), api.OK, 0)
	}
	for _, r := range "\u2028\uFEFF\uFFFD\U0001F600\U0010FFFF" {
		wantFault(t, program+string(r), api.ErrText, len(program))
		wantFault(t, program+"#"+string(r), api.OK, 0)
	}
}

func TestP3NotUTF8(t *testing.T) {
	for _, bad := range []string{"\x80", "\xbf", "\xc0\x80", "\xc1\xa1", "\xc3", "\xe0\x80\x80", "\xe2\x82", "\xed\xa0\x80", "\xef\xbf", "\xf0\x9f\x98", "\xf4\x90\x80\x80", "\xf5", "\xff"} {
		wantFault(t, bad, api.ErrText, 0)
		wantFault(t, "fn main() { } "+bad, api.ErrText, 14)
		wantFault(t, "fn main() { } #"+bad, api.ErrText, 15)
		wantFault(t, "fn main() { } # \uFFFD"+bad+"\n", api.ErrText, 19)
		wantFault(t, "fn main() { } #\n"+bad, api.ErrText, 16)
		wantFault(t, "fn mà"+bad+"in", api.ErrText, 6)
		wantFault(t, "fn "+strings.Repeat("é", api.MaxName)+bad, api.ErrText, 19)
		wantFault(t, "fn "+strings.Repeat("é", api.MaxName+1)+bad, api.ErrText, 3)
	}
}

func TestP3Words(t *testing.T) {
	for _, letter := range []string{"a", "z", "à", "ö", "ø", "ÿ"} {
		word := strings.Repeat(letter, api.MaxName)
		wantFault(t, "fn main() { } fn "+word+"() { }", api.OK, 0)
		wantFault(t, "fn main() { } fn "+word+letter+"() { }", api.ErrText, 17)
		wantFault(t, "fn main() { } #"+word+letter, api.OK, 0)
		wantFault(t, "fn main() { } fn "+word+"÷() { }", api.ErrText, 17+len(word))
	}
	wantFault(t, "fn main() { } returned", api.ErrParse, 14)
	wantFault(t, "fn main() { } returneds", api.ErrText, 14)
	wantFault(t, "fn main() { var a; a = &a.4; }", api.ErrText, 26)
	wantFault(t, "fn main() { var A; }", api.ErrText, 16)
	wantFault(t, "fn main() { }\r\n", api.ErrText, 13)
}

func TestP3WhichOfTwoWrongThings(t *testing.T) {
	wantFault(t, "fn fn fn main() { a = b; } $", api.ErrText, 27)
	wantFault(t, "fn main() { a = b; a }", api.ErrParse, 21)
	wantFault(t, "fn main() { a = b; ", api.ErrParse, 19)
	wantFault(t, "fn f() { } fn f() { } fn", api.ErrParse, 24)
	deep := strings.Repeat("if?{", 900)
	wantFault(t, "fn main(){"+deep, api.ErrParse, 10+len(deep))
	wantFault(t, "fn main(){"+strings.Repeat("if?{", 490)+strings.Repeat("}", 492), api.ErrParse, 10+4*490+491)
	wantFault(t, "fn f(x) { a = x; }", api.ErrName, 10)
	wantFault(t, "fn main() { var a; a = f(b); } fn f() { }", api.ErrArity, 23)
	wantFault(t, "fn main() { var a; a = f(b); } fn f(x) { }", api.ErrName, 25)
	wantFault(t, "fn main() { var a; a = f(); } fn f() { } fn f(x) { }", api.ErrTwice, 44)
	wantFault(t, "fn main() { var a; a = f(); } fn f(x) { } fn f() { }", api.ErrArity, 23)
}

func TestP3EndsTooEarly(t *testing.T) {
	for _, text := range corpus() {
		printed, _, _ := Print(text)
		tokens := strings.Fields(printed)
		for n := range tokens {
			early := strings.Join(tokens[:n], " ") + " # rest\n"
			if n > 0 && tokens[n] == "fn" { // whole functions end where they may
				wantFault(t, early, api.ErrName, len(early))
				continue
			}
			wantFault(t, early, api.ErrParse, len(early))
		}
	}
}

// letterName tells the n-th of some names.
func letterName(n int) string { return string(rune('a' + n)) }

func TestP3ManyFunctions(t *testing.T) {
	text := "fn main() { var a; a = m(); }"
	for n := range api.MaxFuncs - 1 {
		text += " fn " + letterName(n) + "() { }"
	}
	wantFault(t, text, api.ErrName, 23)
	wantFault(t, text+" fn m() { }", api.ErrMany, len(text)+4) // m is there, and one too many
	text = strings.Replace(text, "m();", "b();", 1)
	wantFault(t, text, api.OK, 0)
	wantFault(t, text+" fn m() { }", api.ErrMany, len(text)+4)
	wantFault(t, text+" fn main() { }", api.ErrMany, len(text)+4)
	wantFault(t, text+" fn m(x x) { } fn n() { }", api.ErrMany, len(text)+4)
	wantFault(t, strings.Replace(text, "fn k", "fn b", 1)+" fn m() { }", api.ErrTwice, len(text)-7)
}

func TestP3ManyVariables(t *testing.T) {
	for parameters := range api.MaxVars + 1 {
		text := "fn main() { } fn f("
		for n := range parameters {
			text += " " + letterName(n)
		}
		wantFault(t, text+") { }", api.OK, 0)
		text += ") { if ? {"
		for n := parameters; n < api.MaxVars; n++ {
			text += " var " + letterName(n) + ";"
		}
		wantFault(t, text+" } }", api.OK, 0)
		wantFault(t, text+" var m; } }", api.ErrMany, len(text)+5)
		wantFault(t, text+" } var a; }", api.ErrMany, len(text)+7)
		wantFault(t, text+" } } fn g(a) { var b; b = a; }", api.OK, 0)
	}
	wantFault(t, "fn f(a b c d e f g h i j k l m) { } fn main() { }", api.ErrMany, 29)
	wantFault(t, "fn f(a b c d e f g h i j k l a) { } fn main() { }", api.ErrMany, 29)
	wantFault(t, "fn f(a b c d e f g h i j k a l) { } fn main() { }", api.ErrTwice, 27)
}

func TestP3DeepBlocks(t *testing.T) {
	for _, opening := range []string{"while?{", "if?{", "if?{}else{"} {
		open := "fn main(){" + strings.Repeat(opening, api.MaxNest-1)
		closing := strings.Repeat("}", api.MaxNest)
		wantFault(t, open+closing, api.OK, 0)
		wantFault(t, open+"}if?{"+closing, api.OK, 0)
		tooDeep := len(open) + strings.Index(opening, "{")
		wantFault(t, open+opening+"}"+closing, api.ErrMany, tooDeep)
		wantFault(t, open+opening+"a=a;}"+closing, api.ErrMany, tooDeep)
		wantFault(t, open+"a=a;"+opening+"}"+closing, api.ErrName, len(open))
		wantFault(t, open+closing+strings.Replace(open, "main", "f", 1)+closing, api.OK, 0)
	}
	wantFault(t, "fn main(){"+strings.Repeat("if?{", 790)+strings.Repeat("}", 791), api.ErrMany, 10+6*4-1)
}

func TestP3NamesAreThere(t *testing.T) {
	wantFault(t, "fn main() { a = a; var a; }", api.ErrName, 12)
	wantFault(t, "fn main() { while ? { a = a; var a; } }", api.ErrName, 22)
	wantFault(t, "fn main() { if ? { var a; } else { a = a; } a = a; }", api.OK, 0)
	wantFault(t, "fn main() { if ? { var a; } else { var a; } }", api.ErrTwice, 39)
	wantFault(t, "fn f(x) { var x; } fn main() { }", api.ErrTwice, 14)
	wantFault(t, "fn f(x) { var f; f = f(x); } fn main() { var x; }", api.OK, 0)
	wantFault(t, "fn f(x) { } fn main() { var a; a = x; }", api.ErrName, 35)
	wantFault(t, "fn main() { var a; a = f; } fn f() { }", api.ErrName, 23)
	wantFault(t, "fn main() { var a; a = @f; a = @main; } fn f(x) { }", api.OK, 0)
	wantFault(t, "fn main() { var a; a = (*a)(); a = (*a)(a a); }", api.OK, 0)
	wantFault(t, "fn main() { var a; a = (*main)(); }", api.ErrName, 25)
	for n := range 4 {
		arguments := strings.Repeat("a ", n)
		for m := range 4 {
			names := "x y z "[:2*m]
			fault, place := api.OK, 0
			if n != m {
				fault, place = api.ErrArity, 23
			}
			wantFault(t, "fn main() { var a; a = f("+arguments+"); } fn f("+names+") { }", fault, place)
		}
	}
}

func TestP3NoMain(t *testing.T) {
	for _, text := range []string{"fn f() { }", "fn main(x) { }", "fn main(x y) { x = main(x y); }", "fn f(main) { var a; a = @f; }", "fn maine() { } # main\n\n"} {
		wantFault(t, text, api.ErrName, len(text))
	}
	wantFault(t, "fn f() { } fn main() { }", api.OK, 0)
	wantFault(t, "fn main(x) { } fn main() { }", api.ErrTwice, 18)
	wantFault(t, "fn main() { } fn main(x) { }", api.ErrTwice, 17)
}

func TestP3OnePlaceEachToken(t *testing.T) {
	for n := range 50 {
		pad := strings.Repeat("\n", n)
		wantFault(t, pad+"fn main() { z = new; }", api.ErrName, 12+n)
		wantFault(t, "#"+strings.Repeat("é", n)+"\nfn main() { } fn", api.ErrParse, 18+2*n)
		wantFault(t, "#"+strconv.Itoa(n)+"\n"+pad+"$", api.ErrText, 2+len(strconv.Itoa(n))+n)
	}
}
