package pointsman

import (
	"strings"
	"testing"

	"pointsman/api"
)

// inMain lays statements into a program in which f has one name in its
// parentheses, and a, b are variables of main.
func inMain(statements string) string {
	return "fn f(x) { return x; } fn main() { var a; var b; " + statements + " }"
}

func TestP4EachKind(t *testing.T) {
	head := "fn f ( x ) { return x ; } fn main ( ) { var a ; var b ; "
	for statements, want := range map[string]string{
		"a=new;":                  "a = new ;",
		"a=&b;":                   "a = & b ;",
		"a=&b.0;a=&b . 3;":        "a = & b . 0 ; a = & b . 3 ;",
		"a=*b;":                   "a = * b ;",
		"a=@f;":                   "a = @ f ;",
		"a=b;":                    "a = b ;",
		"a=main();a=f(b);":        "a = main ( ) ; a = f ( b ) ;",
		"a=(*b)();a=(*b)(a b a);": "a = ( * b ) ( ) ; a = ( * b ) ( a b a ) ;",
		"*a=b;":                   "* a = b ;",
		"return a;":               "return a ;",
		"if?{}":                   "if ? { }",
		"if?{a=b;}else{}":         "if ? { a = b ; } else { }",
		"while?{while?{}}":        "while ? { while ? { } }",
		"var\tc\n;\n\n\tc=c;":     "var c ; c = c ;",
		"# a = z;\n a#\n=#=\n b;": "a = b ;",
		"a = b; ## \x00\x7f\r ÷ 日本 \uFFFD \U0010FFFF\n": "a = b ;",
	} {
		got, fault, place := Print(inMain(statements))
		if got != head+want+" }" || fault != api.OK || place != 0 {
			t.Errorf("P4: Print of %q = %q, %d, %d, want %q", statements, got, fault, place, want)
		}
	}
}

func TestP4Functions(t *testing.T) {
	for text, want := range map[string]string{
		"fn main(){}":                                "fn main ( ) { }",
		"#x\n\n fn main ( ) { } \n#":                 "fn main ( ) { }",
		"fn main(){}fn f(a b à){}":                   "fn main ( ) { } fn f ( a b à ) { }",
		"fn ifs(fns news){}fn main(){":               "",
		"fn ifs(fns news){}fn main()\n{return#\nx;}": "",
		"fn ifs(fns news){}fn main(){}":              "fn ifs ( fns news ) { } fn main ( ) { }",
		"fn main(){var p;p=&p.3;}# x":                "fn main ( ) { var p ; p = & p . 3 ; }",
	} {
		got, fault, _ := Print(text)
		if got != want || (fault == api.OK) != (want != "") {
			t.Errorf("P4: Print(%q) = %q, %d, want %q", text, got, fault, want)
		}
	}
}

// What is printed is a text with the same tokens.
func TestP4PrintedTwice(t *testing.T) {
	for _, text := range corpus() {
		once, fault, place := Print(text)
		if fault != api.OK {
			t.Fatalf("P4: Print(%q): %d, %d", text, fault, place)
		}
		twice, fault, _ := Print(once)
		if fault != api.OK || twice != once || strings.Join(strings.Fields(once), " ") != once {
			t.Errorf("P4: Print(%q) = %q, %d", once, twice, fault)
		}
	}
}

// corpus is some programs without faults: each kind of function, statement,
// value and remark is in one of them.
func corpus() []string {
	return []string{
		"fn main() { }",
		"fn main(){var p;p=&p.3;}# x",
		"fn main() { var p; var q; p = new; q = &p; *q = q; }",
		"fn id(x) { return x; } fn main() { var f; var p; var q; f = @id; p = new; q = (*f)(p); f = id(f); }",
		"# é\nfn é(ÿ à eightlet) { if ? { ÿ = *à; } else { while ? { var b; b = (*à)(); } } b = ÿ; return b; }\nfn main() {\n\tvar a; a = é(a a a); if ? { } a = main(); # \uFFFD\n}\n",
	}
}
