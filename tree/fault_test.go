package tree_test

import (
	"strings"
	"testing"

	"preamble/api"
	"preamble/tree"
)

// Where l ends it is told by what must stand there which error it is; the place is where the last token ends.
func TestI3End(t *testing.T) {
	for _, s := range []string{
		"int f() {", "int f() { ;", "int f() { x;", "int f() { { }", "int f() { {", "int f() { int x;", "int f() { return;", "int f() { if (a) b;",
		"int f() { if (a)", "int f() { if (a) b; else", "int f() { while (a)", "int f() { while (a) if (b)",
		"int f() { return", "int f() { if (", "int f() { while (", "int f() { f(", "int f() { f(1,", "int f() { a[", "int f() { (", "int f() { -", "int f() { a +", "int f() { a ,", "int f() { a = b =", "int f() { int x =", "int f() { int x[",
		"int x =", "int x = 1, y =", "int x[", "int x = (", "int x = ((", "int x = -", "int x = - !", "int x = a *", "int x = a =", "int x = f(", "int x = f(a,", "int x = f()[", "int x = a[1](", "typedef int T[", "int f(int a[",
	} {
		fails(t, s, api.ErrEnd, len(s))
		fails(t, s+"  // \n ", api.ErrEnd, len(s))
	}
	for _, s := range []string{
		"int", "int x", "int *", "int x,", "int x = 1", "int x[1", "int x[1]", "int x[1] = 2", "int x = a", "int x = -a", "int x = (1", "int x = f()", "int x = f(1", "int x = a[1", "int x = a[1]", "typedef", "typedef int", "typedef int T", "typedef int T,",
		"int f(", "int f(int", "int f(int *", "int f(int a", "int f(int a,", "int f()", "int f(int a)",
		"int f() { x", "int f() { int", "int f() { int x", "int f() { int x = 1", "int f() { typedef", "int f() { if", "int f() { if (a", "int f() { while", "int f() { while (a", "int f() { return x", "int f() { if (a) b", "int f() { (a", "int f() { f(a",
	} {
		fails(t, s, api.ErrForm, len(s))
		fails(t, s+"\n", api.ErrForm, len(s))
	}
}

// A place is that of the token, in whatever file; behind the last one it is where that one ends.
func TestI3Places(t *testing.T) {
	at := func(kind int, text string, file, at, end int) api.Token {
		return api.Token{Kind: kind, Text: text, File: file, At: at, End: end}
	}
	whole, x, semi := at(api.TokName, "int", 4, 70, 73), at(api.TokName, "x", 2, 9, 11), at(api.TokSign, ";", -1, 5, 0)
	for _, k := range []struct {
		l    []api.Token
		want api.Fault
	}{
		{nil, api.Fault{File: -1}}, {[]api.Token{}, api.Fault{File: -1}}, {[]api.Token{whole, x, semi}, api.Fault{File: -1}},
		{[]api.Token{whole}, api.Fault{Err: api.ErrForm, File: 4, At: 73}}, {[]api.Token{whole, x}, api.Fault{Err: api.ErrForm, File: 2, At: 11}}, {[]api.Token{whole, x, whole}, api.Fault{Err: api.ErrForm, File: 4, At: 70}}, {[]api.Token{whole, x, x}, api.Fault{Err: api.ErrForm, File: 2, At: 9}}, {[]api.Token{semi}, api.Fault{Err: api.ErrForm, File: -1, At: 5}},
		{[]api.Token{whole, x, at(api.TokSign, "=", -7, -3, -2)}, api.Fault{Err: api.ErrEnd, File: -7, At: -2}},
	} {
		if n, f := tree.Parse(k.l); f != k.want || f.Err != api.OK && (n.Kind != 0 || n.Tok != 0 || len(n.Kids) != 0) {
			t.Errorf("%v: %v beside %v, not %v", k.l, n, f, k.want)
		}
	}
}

// Words are texts of names and signs alone, and a name is of no other kind.
func TestI1Words(t *testing.T) {
	for _, k := range []struct {
		s  string
		at int
	}{{"int x;", 0}, {"typedef int x;", 0}, {"typedef int x;", 1}, {"int x;", 1}, {"int x;", 2}, {"int x = 1;", 2}, {"int x[1];", 2}, {"int x[1];", 4}, {"int * x;", 1}, {"int x, y;", 2}, {"int f() {}", 2}, {"int f() {}", 3}, {"int f() {}", 4}, {"int f() {}", 5}, {"int x = -y;", 3}, {"int x = y + z;", 4}, {"int x = (y);", 3}, {"int x = (y);", 5}} {
		// Behind these there is always more: what is wrong is wrong at a token.
		l := read(t, k.s+" int")
		for _, kind := range []int{0, api.TokOther, api.TokPath, 8, -1, 1 << 40} {
			l[k.at].Kind = kind
			if n, f := tree.Parse(l); f != (api.Fault{Err: api.ErrForm, At: l[k.at].At}) || len(n.Kids) > 0 {
				t.Errorf("%q, token %d of kind %d: %v", k.s, k.at, kind, f)
			}
		}
	}
	// A number, a character or a text is one, whatever it says.
	for _, kind := range []int{api.TokNum, api.TokChar, api.TokText} {
		for _, s := range []string{"int", "x", "-", "(", ";", "", "}", "if"} {
			l := read(t, "int x = y;")
			l[3].Kind, l[3].Text = kind, s
			if n, f := tree.Parse(l); f.Err != api.OK || shape(l, n) != "unit(decl(:int, @x{"+s+"}))" {
				t.Errorf("%q of kind %d: %v", s, kind, f)
			}
		}
	}
	// A sign is no name, and a Key is none.
	l := read(t, "int x;")
	l[1].Kind = api.TokSign
	if _, f := tree.Parse(l); f != (api.Fault{Err: api.ErrForm, At: 4}) {
		t.Errorf("the sign x: %v", f)
	}
	for _, s := range strings.Fields("int char long void typedef if else while return") {
		fails(t, "int "+s+";", api.ErrForm, 4)
		fails(t, "int x = "+s+";", api.ErrForm, 8)
		fails(t, "int f(int "+s+") {}", api.ErrForm, 10)
	}
}

func times(open string, n int, s, end string) string {
	return strings.Repeat(open, n) + s + strings.Repeat(end, n)
}

// body is what a function has for its block, so that what stands in it stands in one part that counts.
func body(s string) string { return "int f() {" + s + "}" }

// What stands in MaxTree is read, and what would stand in one more is not.
func TestI3Deep(t *testing.T) {
	if api.MaxTree != 30 {
		t.Fatal("the counts below are those of 30")
	}
	good := func(s string) {
		t.Helper()
		if n, f := tree.Parse(read(t, s)); f != (api.Fault{File: -1}) || n.Kind != api.NodeUnit {
			t.Errorf("%q: %v", s, f)
		}
	}
	for _, x := range []struct {
		good, deep string // deep has a mark where it is too deep
	}{
		// Signs between and what stands there are two, in each pair of parentheses, and in what a call or a place has.
		{"int x = " + times("(", 14, "1", ")") + ";", "int x = " + times("(", 15, "^1", ")") + ";"},
		{"int x = " + times("f(", 14, "1", ")") + ";", "int x = " + times("f(", 15, "^1", ")") + ";"},
		{"int x = " + times("a[", 14, "1", "]") + ";", "int x = " + times("a[", 15, "^1", "]") + ";"},
		{"int x[" + times("(", 14, "1", ")") + "];", "int x[" + times("(", 15, "^1", ")") + "];"},
		{"int f(int a[" + times("(", 14, "1", ")") + "]) {}", "int f(int a[" + times("(", 15, "^1", ")") + "]) {}"},
		{"typedef int T[" + times("(", 14, "1", ")") + "];", "typedef int T[" + times("(", 15, "^1", ")") + "];"},
		// Each sign ahead is one.
		{"int x = " + times("- ", 28, "1", "") + ";", "int x = " + times("- ", 29, "^1", "") + ";"},
		{"int x = " + times("- ", 28, "f()", "") + ";", "int x = " + times("- ", 28, "f(^1)", "") + ";"},
		{"int x = " + times("-(", 9, "-1", ")") + ";", "int x = " + times("-(", 9, "- - ^1", ")") + ";"},
		{"int x = " + times("- ", 26, "(1)", "") + ";", "int x = " + times("- ", 27, "(^1)", "") + ";"},
		// The right side of a sign is signs between, in those that it is a part of.
		{"int x = " + times("a = ", 28, "1", "") + ";", "int x = " + times("a = ", 29, "^1", "") + ";"},
		{"int x = " + times("1 + (", 9, "1 + 1", ")") + ";", "int x = " + times("1 + (", 9, "1 + (^1)", ")") + ";"},
		{"int x = " + times("(", 13, "1 * 2 + 3 * 4", ")") + ";", "int x = " + times("(", 14, "1 * ^2 + 3", ")") + ";"},
		{"int x = " + times("(", 13, "1 * 2 + 3 * 4", ")") + ";", "int x = " + times("(", 13, "1 + 2 < 3 + 4 * ^5", ")") + ";"},
		// Blocks, and statements.
		{"int f() " + times("{", 15, "", "}"), "int f() " + times("{", 15, "^{}", "}")},
		{"int f() " + times("{", 15, ";", "}"), "int f() " + times("{", 15, "^{;}", "}")},
		{body(times("while (x) ", 27, ";", "")), body(times("while (x) ", 27, "while (^x) ;", ""))},
		{body(times("if (x) ", 27, ";", "")), body(times("if (x) ", 27, "if (^x) ;", ""))},
		{body(times("if (x) ; else ", 27, "return;", "")), body(times("if (x) ; else ", 27, "if (^x) ;", ""))},
		{body(times("{", 13, "x;", "}")), body(times("{", 14, "^x;", "}"))},
		{body(times("{", 13, "int x = 1;", "}")), body(times("{", 14, "int x = ^1;", "}"))},
		{body(times("{", 13, "return 1;", "}")), body(times("{", 14, "return ^1;", "}"))},
		{body(times("{", 14, "int x; return; ;", "}")), body(times("{", 14, "int x; return; ; ^x;", "}"))},
		{body("if (x) " + times("{", 13, "{}", "}")), body("if (x) " + times("{", 13, "{^;}", "}"))},
		{body("if (x) " + times("{", 13, "{}", "}")), body("if (x) " + times("{", 13, "{^{}}", "}"))},
		{body("if (x) " + times("{", 13, "{}", "}")), body("if (x) " + times("{", 13, "{^int x;}", "}"))},
		{body("if (x) " + times("{", 13, "{}", "}")), body("if (x) " + times("{", 13, "{^x;}", "}"))},
	} {
		good(x.good)
		marked(t, api.ErrDeep, x.deep)
	}
	// Side by side they are not in one another.
	good("int x = " + times("(1) + ", 400, "1", "") + ";")
	good("int x = " + times("1 + ", 99, "1", "") + ", y" + times(", z = 1", 99, "", "") + ";")
	good(body(times("1, ", 99, "1", "") + ";"))
	good("int x = f" + times("(1)", 99, "", "") + times("[1]", 99, "", "") + ";")
	good(body(times("{ { } ; } x = 1; ", 99, "", "")))
	good(times("int f(int a[(1)]) { { { } } } ", 80, "", ""))
	good("int x = " + times("(", 14, "1", ")") + " + " + times("- ", 27, "1", "") + ";" + "int y = f(" + times("(", 13, "1", ")") + ", " + times("(", 13, "1", ")") + ");")
}

// Too deep is what may stand there but for that: where something else must stand, or l ends, that is told.
func TestI3DeepLast(t *testing.T) {
	for _, open := range []string{times("(", 15, "", ""), times("- ", 29, "", ""), times("f(", 15, "", ""), times("a = ", 29, "", "")} {
		s := "int x = " + open
		for _, x := range []string{"1", "x", "'a'", `"a"`, "(", "-", "!", "++", "(1)", "1 2", "1)))", "x @"} {
			fails(t, s+x, api.ErrDeep, len(s))
		}
		for _, x := range []string{"]", ";", "@", "int", "else", "/", "= 1", "}", "#"} {
			fails(t, s+x, api.ErrForm, len(s))
		}
		fails(t, s, api.ErrEnd, len(strings.TrimRight(s, " ")))
	}
	s := "int f() { if (x) " + times("{", 14, "", "")
	for _, x := range []string{";", "{", "{}", "if", "while", "return", "typedef", "int", "x", "1", "-", "("} {
		fails(t, s+x, api.ErrDeep, len(s))
	}
	for _, x := range []string{"else", ")", "]", "=", "@", ","} {
		fails(t, s+x, api.ErrForm, len(s))
	}
	fails(t, s, api.ErrEnd, len(s))
	fails(t, s+"}", api.ErrEnd, len(s)+1)
}

// What comes first from the left is told.
func TestI3First(t *testing.T) {
	deep := times("(", 40, "1", ")")
	marked(t, api.ErrForm, "int x = 1 ^2; int y = "+deep+";")
	marked(t, api.ErrDeep, "int x = "+times("(", 15, "^((", "")+"; ;")
	marked(t, api.ErrForm, "int f() { ^@ int x =")
	marked(t, api.ErrForm, "int ^; int x =")
}

// Z1: every call ends, and soon, however long its list is.
func TestLong(t *testing.T) {
	many := 1 << 17
	for _, x := range []struct {
		ahead, again, end string
		err               api.Errno
	}{
		{"int x = 1", "+ 1", ";", api.OK}, {"int x = f", "()", ";", api.OK}, {"int x = f", "[1]", ";", api.OK}, {"int x", ", y = 1", ";", api.OK}, {"int ", "*", "x;", api.OK}, {"int f() {", "x;", "}", api.OK}, {"int f() {", "{ typedef int T; T x; }", "}", api.OK}, {"int f(int x", ", int x", ") { }", api.OK}, {"int x = f(1", ", 1", ");", api.OK},
		{"", "int x; ", "", api.OK}, {"", "int f() { { } } ", "", api.OK}, {"", "typedef int T; T x; ", "", api.OK}, {"", "int f() {", "", api.ErrForm}, {"", "{", "", api.ErrForm}, {"", "int", "", api.ErrForm},
		{"int x = ", "(", "", api.ErrDeep}, {"int x = ", "- ", "", api.ErrDeep}, {"int x = ", "a =", "", api.ErrDeep}, {"int f()", "{", "", api.ErrDeep}, {"int f() {", "if (1)", "", api.ErrDeep}, {"int x = ", "a[", "", api.ErrDeep}, {"int x = ", "f(1,", "", api.ErrDeep},
	} {
		ahead, again, end := read(t, x.ahead), read(t, x.again), read(t, x.end)
		for range many / len(again) {
			ahead = append(ahead, again...)
		}
		if n, f := tree.Parse(append(ahead, end...)); f.Err != x.err || f.Err == api.OK && len(n.Kids) == 0 {
			t.Errorf("%q, and %q again and again: %v", x.ahead, x.again, f)
		}
	}
}
