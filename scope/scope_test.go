package scope_test

import (
	"reflect"
	"regexp"
	"slices"
	"strings"
	"testing"

	"preamble/api"
	"preamble/lex"
	"preamble/scope"
	"preamble/tree"
)

// parsed answers the tokens of s, and their tree.
func parsed(t *testing.T, s string) ([]api.Token, api.Node) {
	t.Helper()
	l, f := lex.Tokens(0, s)
	if f.Err != api.OK {
		t.Fatalf("%q has no tokens: %v", s, f)
	}
	n, f := tree.Parse(l)
	if f.Err != api.OK {
		t.Fatalf("%q has no tree: %v", s, f)
	}
	return l, n
}

func same(a, b []api.Bind) bool {
	return len(a) == 0 && len(b) == 0 || reflect.DeepEqual(a, b)
}

// binds answers one of each two numbers.
func binds(l ...int) (out []api.Bind) {
	for i := 0; i < len(l); i += 2 {
		out = append(out, api.Bind{Tok: l[i], Decl: l[i+1]})
	}
	return out
}

// means resolves s, in which names that mean the same have the same sign behind an @, the one that makes it first: just those are bound.
func means(t *testing.T, s string) {
	t.Helper()
	mark := regexp.MustCompile(`@\w+`)
	plain := mark.ReplaceAllString(s, "")
	l, n := parsed(t, plain)
	var want []api.Bind
	made := map[string]int{}
	gone := 0
	for _, at := range mark.FindAllStringIndex(s, -1) {
		end := at[0] - gone
		gone += at[1] - at[0]
		tok := slices.IndexFunc(l, func(x api.Token) bool { return x.End == end })
		if tok < 0 {
			t.Fatalf("%q: no token ends at %d", plain, end)
		}
		sign := s[at[0]:at[1]]
		if _, found := made[sign]; !found {
			made[sign] = tok
		}
		want = append(want, api.Bind{Tok: tok, Decl: made[sign]})
	}
	out, f := scope.Resolve(l, n)
	if f != (api.Fault{File: -1}) || !same(out, want) {
		t.Errorf("%q: %v and %v, not %v", plain, out, f, want)
	}
	ofAll(t, len(l), out, want)
}

// ofAll holds what Of answers of out against want, for all tokens, and for some that there are not.
func ofAll(t *testing.T, tokens int, out, want []api.Bind) {
	t.Helper()
	for tok := -2; tok < tokens+2; tok++ {
		decl := -1
		for _, b := range want {
			if b.Tok == tok {
				decl = b.Decl
			}
		}
		if got := scope.Of(out, tok); got != decl {
			t.Errorf("token %d of %v means %d, not %d", tok, out, got, decl)
		}
	}
}

// fails resolves s, without its ^: err is told where that stands, and nothing beside it.
func fails(t *testing.T, err api.Errno, s string) {
	t.Helper()
	at := strings.Index(s, "^")
	if at < 0 {
		t.Fatalf("%q has no mark", s)
	}
	plain := s[:at] + s[at+1:]
	l, n := parsed(t, plain)
	out, f := scope.Resolve(l, n)
	if f != (api.Fault{Err: err, At: at}) || len(out) != 0 {
		t.Errorf("%q: %v and %v, not %v at %d", plain, out, f, err, at)
	}
}

func TestJ1Makes(t *testing.T) {
	for _, s := range []string{
		"", "int x@1;", "int x@1, y@2;", "int *x@1, **y@2, z@3[3];", "typedef int T@1;", "typedef int T@1, *U@2, V@3[2];",
		"int f@1() { }", "int f@1(int a@2) { }", "int f@1(int a@2, char *b@3, long c@4[2]) { }", "int f@1() { int a@2; typedef char T@3; { long b@4; } }",
		"int f@1() { if (1) int x@2; }", "int f@1() { if (1) int x@2; else int y@3; while (1) int z@4; }",
		"int x@1; int X@2; int _@3; int xx@4; int x1@5;",
	} {
		means(t, s)
	}
}

// A name is made in the surroundings in which it stands: elsewhere it may be made again.
func TestJ1MakesAgain(t *testing.T) {
	for _, s := range []string{
		"int x@1; int f@2(int x@3) { return x@3; } int y@4 = x@1;",
		"int x@1; int f@2() { int x@3; return x@3; } int y@4 = x@1;",
		"int x@1; int f@2() { x@1; int x@3; x@3; { x@3; int x@4; x@4; { x@4; int x@5; x@5; } x@4; } x@3; } int g@6() { x@1; }",
		"int f@1(int a@2) { { int a@3; a@3 = 1; } a@2 = 2; }",
		"int f@1(int a@2) { { a@2; } { int a@3; } { int a@4; a@4; } a@2; }",
		"int f@1() { int a@2; { int a@3; { int a@4; } { int a@5; a@5; } a@3; } a@2; }",
		"int f@1(int a@2) { } int g@3(int a@4) { } int a@5; int h@6(int a@7) { a@7; }",
		"int f@1(int f@2) { return f@2; } int g@3() { f@1; }",
		"int f@1() { int f@2; f@2; { int f@3; f@3(); } } int g@4() { f@1(); }",
		"int f@1() { if (1) { int a@2; a@2; } else { int a@3; a@3; } while (1) { int a@4; a@4; } int a@5; a@5; }",
		"int f@1() { { { } } int a@2; { } a@2; { { int a@3; } a@2; } }",
	} {
		means(t, s)
	}
}

func TestJ1Taken(t *testing.T) {
	for _, s := range []string{
		"int x; int ^x;", "int x, ^x;", "int x, y, *^x;", "int x; char ^x[2];", "int x; int y; int ^x = y;", "int x; int ^x[nothing];", "int x; int ^x = x;",
		"typedef int T; typedef int ^T;", "typedef int T, ^T;", "typedef int T; int ^T;", "typedef int T; T ^T;", "int x; typedef int ^x;", "typedef int T; int ^T() { }",
		"void g() { } void ^g() { }", "int f; int ^f() { }", "int f() { } int ^f;", "int f() { } typedef int ^f;", "int f() { } int ^f(int nothing[nothing]) { }",
		"int f(int a, int ^a) { }", "int f(int a, int b, char *^a) { }", "int f(int a, int ^a[nothing]) { }",
		"int f(int a) { int ^a; }", "int f(int a, int b) { int ^b; }", "int f(int a) { typedef int ^a; }", "int f(int a) { int b, ^a; }", "int f(int a) { ; { int a; } int ^a; }",
		"int f() { int a; int ^a; }", "int f() { int a, ^a; }", "int f() { int a; { int a; int ^a; } }", "int f() { int a; { } int ^a; }", "int f() { { int a; } int a; { int a; } int ^a; }",
		"int f() { typedef int T; int ^T; }", "int f() { typedef int T; T ^T; }", "int f() { int a; typedef int ^a; }",
		"int f() { int a; if (1) int ^a; }", "int f() { if (1) int a; else int ^a; }", "int f() { if (1) int a; int ^a; }", "int f() { while (1) int a; int ^a; }", "int f(int a) { if (1) while (1) int ^a; }",
		"int f() { { int a; if (1) int ^a; } }",
	} {
		fails(t, api.ErrName, s)
	}
}

// What is used means what was made last, and is nearest.
func TestJ1Uses(t *testing.T) {
	for _, s := range []string{
		"int x@1; int y@2 = x@1;", "int x@1, y@2 = x@1, z@3 = x@1 + y@2;", "int x@1 = x@1;", "int a@1[a@1];", "int a@1[a@1] = a@1;", "int a@1 = a@1 + a@1, b@2 = a@1, c@3[b@2];",
		"int n@1; int a@2[n@1], b@3[a@2];", "int n@1; typedef int T@2[n@1]; T@2 x@3;", "typedef int T@1[T@1];",
		"int f@1() { return f@1(); }", "int f@1(int a@2[a@2]) { }", "int f@1(int a@2[f@1]) { }", "int f@1(int f@2[f@2]) { }", "int f@1(int a@2, int b@3[a@2]) { }", "int a@1; int f@2(int b@3[a@1], int a@4, int c@5[a@4]) { }",
		"int x@1; int f@2() { int x@3 = x@3; }", "int x@1; int f@2() { int x@3[x@3]; }", "int x@1; int f@2() { int y@3 = x@1, x@4 = y@3, z@5 = x@4; }", "int x@1; int f@2() { int y@3[x@1], x@4[y@3 + x@4] = x@4; }",
		"int a@1, b@2; int f@3(int a@4) { int c@5; a@4 + b@2 * c@5; -a@4; a@4[b@2](c@5, f@3(a@4)); (a@4, b@2) = c@5; if (a@4) b@2; else c@5; while (b@2) a@4; return c@5; }",
		"int a@1; int f@2() { return a@1 + 1 * 'a' - \"a\"; }",
		"int a@1; int f@2() { a@1, a@1 = a@1 || a@1 && a@1 | a@1 ^ a@1 & a@1 == a@1 < a@1 << a@1 + a@1 * a@1; }",
		"int f@1() { if (f@1) int x@2; return x@2; }", "int f@1() { while (f@1) int x@2 = f@1; x@2; }",
		"int g@1; int f@2() { g@1; { int g@3; g@3; } g@1; int g@4; g@4; }",
		"int f@1() { { int a@2; } int b@3; { b@3; int a@4 = b@3; a@4; } }",
	} {
		means(t, s)
	}
}

func TestJ1Types(t *testing.T) {
	for _, s := range []string{
		"typedef int T@1; T@1 x@2;", "typedef int T@1; T@1 *x@2, y@3[2];", "typedef int T@1; typedef T@1 U@2; U@2 x@3; T@1 y@4;",
		"typedef int T@1; T@1 f@2() { }", "typedef int T@1; T@1 f@2(T@1 a@3, T@1 *b@4) { T@1 c@5; }", "typedef int T@1; T@1 x@2; T@1 f@3(T@1 T@4) { return T@4; }",
		"typedef int T@1; int f@2() { T@1 T@3; T@3 = 1; }", "typedef int T@1; int f@2() { { T@1 T@3; T@3; } T@1 x@4; }", "typedef int T@1; T@1 f@2() { typedef T@1 T@3; T@3 x@4; { typedef T@3 T@5; T@5 y@6; } T@3 z@7; } T@1 w@8;",
		"int f@1() { typedef int U@2; U@2 x@3; return x@3; } typedef int U@4; U@4 y@5;", "int f@1() { if (1) typedef int U@2; U@2 x@3; }",
		"typedef int T@1; int f@2(T@1 a@3, int T@4[2]) { T@4; { typedef char T@5; T@5 b@6; } T@4 * a@3; }",
		"typedef int T@1; int f@2() { int x@3 = 1, T@4 = x@3; T@4 * x@3; }", "typedef void T@1; int f@2() { T@1 *a@3; int b@4; b@4 * a@3; }",
		"int x@1; char y@2; long z@3; void *w@4;",
		"typedef int T@1; int x@2 = T@1;",
	} {
		means(t, s)
	}
}

func TestJ1None(t *testing.T) {
	for _, s := range []string{
		"int x = ^y;", "int x = ^y, y;", "int x[^y];", "typedef int T[^y];", "int x = 1 + -^y * 2;", "int x = ^f(1);", "int x = x(^f);", "int x = x[^f];", "int x = ^X;", "int x = ^xx;",
		"int f() { return ^y; } int y;", "int f() { ^g(); } int g() { }", "int f() { ^y; int y; }", "int f() { int x = ^y, y; }", "int f() { int x = 1, y = x, z = ^w; }",
		"int f() { { int a; } ^a = 1; }", "int f() { { { int a; } ^a; } }", "int f() { { int a; } { ^a; } }", "int f() { if (1) { int a; } else ^a; }", "int f() { while (^a) { int a; } }", "int f() { if (^a) int a; }",
		"int f(int a) { } int b = ^a;", "int f() { int a; } int b = ^a;", "int f(int a) { } int g() { ^a; }", "int f() { int a; } int g() { ^a; }", "int f(int a) { } int g(int b[^a]) { }",
		"int f(int a[^b], int b) { }", "int f(int a[^b]) { int b; }", "int f(int a[^g]) { } int g;",
		"int f() { ^a; } int g(int a) { a; }",
		"int f() { typedef int U; } int x = ^U;",
	} {
		fails(t, api.ErrNone, s)
	}
}

// What is read from the left has its first fault from the left, whichever it is; what a node is of is told ahead of what is in it.
func TestJ1First(t *testing.T) {
	for _, k := range []struct {
		err api.Errno
		s   string
	}{
		{api.ErrName, "int x; int ^x = y;"}, {api.ErrName, "int x; int ^x[y];"}, {api.ErrName, "int x, ^x, y = z;"}, {api.ErrNone, "int x = ^y; int x;"}, {api.ErrNone, "int x[^y], x;"},
		{api.ErrNone, "int x = ^a + b;"}, {api.ErrNone, "int x = (^a)(b);"}, {api.ErrNone, "int x = ^a[b];"}, {api.ErrNone, "int x = x(x, ^a, b);"}, {api.ErrNone, "int x = x[^a] + b;"}, {api.ErrNone, "int x[^a] = b;"}, {api.ErrNone, "int x[1] = ^b;"},
		{api.ErrName, "int f() { } int ^f(int a, int a) { b; }"}, {api.ErrName, "int f(int a, int ^a) { b; }"}, {api.ErrNone, "int f(int a, int b[^c]) { int a; }"}, {api.ErrName, "int f(int a) { int ^a; } int f;"},
		{api.ErrNone, "int f() { if (^a) b; else c; }"}, {api.ErrNone, "int f() { if (1) ^b; else c; }"}, {api.ErrNone, "int f() { if (1) ; else ^c; }"}, {api.ErrNone, "int f() { while (^a) b; }"}, {api.ErrNone, "int f() { while (1) ^b; }"}, {api.ErrNone, "int f() { return ^b; c; }"},
	} {
		fails(t, k.err, k.s)
	}
}

// What names mean hangs on their texts alone, and a fault's place is that of the token, whatever stands in it.
func TestJ1Places(t *testing.T) {
	for _, k := range []struct {
		s    string
		tok  int
		want api.Errno
	}{{"int x; int x;", 4, api.ErrName}, {"int x = y;", 3, api.ErrNone}, {"int x = x;", -1, api.OK}, {"int f(int a) { int a; }", 8, api.ErrName}} {
		l, n := parsed(t, k.s)
		for i := range l {
			l[i].File, l[i].At, l[i].End, l[i].Line, l[i].Space, l[i].First = 7-3*i, 40*i-99, -5, 3, i%2 == 0, i%3 == 0
			l[i].Made, l[i].Hide, l[i].Calls = i%4, []string{"x", "y"}, []api.Call{{Name: "x", File: i, At: 2}}
		}
		want := api.Fault{Err: k.want, File: -1}
		if k.tok >= 0 {
			want.File, want.At = l[k.tok].File, l[k.tok].At
		}
		out, f := scope.Resolve(l, n)
		if f != want || (len(out) > 0) != (k.want == api.OK) {
			t.Errorf("%q: %v and %v, not %v", k.s, out, f, want)
		}
	}
}

// Without a tree, which is what comes beside a fault of Parse, there are no names.
func TestJ1NoTree(t *testing.T) {
	l, _ := lex.Tokens(0, "int x; U y;")
	n, f := tree.Parse(l)
	if f.Err == api.OK {
		t.Fatal("there is a tree")
	}
	for _, l := range [][]api.Token{l, nil, {}} {
		if out, f := scope.Resolve(l, n); len(out) != 0 || f != (api.Fault{File: -1}) {
			t.Errorf("%v and %v", out, f)
		}
	}
}

// Names of any text are told apart byte by byte, an empty one too, and whatever they are written like.
func TestJ1Texts(t *testing.T) {
	token := func(kind int, s string) api.Token { return api.Token{Kind: kind, Text: s, File: 2, At: 5} }
	whole, semi := token(api.TokName, "int"), token(api.TokSign, ";")
	texts := []string{"", " ", "x", "X", "x ", "x\x00", "\xff", "\u00e9", "e\u0301", "Int", "for", "__LINE__"}
	var l []api.Token
	var want []api.Bind
	for i, s := range texts {
		name := token(api.TokName, s)
		l = append(l, whole, name, token(api.TokSign, "="), name, semi)
		want = append(want, api.Bind{Tok: 5*i + 1, Decl: 5*i + 1}, api.Bind{Tok: 5*i + 3, Decl: 5*i + 1})
	}
	n, f := tree.Parse(l)
	if f.Err != api.OK {
		t.Fatal(f)
	}
	out, f := scope.Resolve(l, n)
	if f != (api.Fault{File: -1}) || !same(out, want) {
		t.Errorf("%v and %v, not %v", out, f, want)
	}
}

func TestJ1Deep(t *testing.T) {
	deep := 13
	s := "int x@outer; int f@self() { "
	for i := range deep {
		sign := string(rune('a' + i))
		s += "{ int x@" + sign + "; int y" + sign + "@y" + sign + "; x@" + sign + "; f@self; "
	}
	for i := deep - 1; i >= 0; i-- {
		sign := string(rune('a' + i))
		s += "x@" + sign + "; y" + sign + "@y" + sign + "; }"
	}
	means(t, s+" x@outer; }")
}

// Chains to the left are as deep in the tree as they are long.
func TestJ1Long(t *testing.T) {
	name, sign := api.Token{Kind: api.TokName, Text: "x"}, api.Token{Kind: api.TokSign, Text: "+"}
	l, _ := lex.Tokens(0, "int x = x")
	for range 1 << 16 {
		l = append(l, sign, name)
	}
	l = append(l, api.Token{Kind: api.TokSign, Text: ";"})
	n, f := tree.Parse(l)
	if f.Err != api.OK {
		t.Fatal(f)
	}
	out, f := scope.Resolve(l, n)
	if f != (api.Fault{File: -1}) || len(out) != 1<<16+2 {
		t.Fatalf("%d binds, %v", len(out), f)
	}
	for i, b := range out {
		if b.Tok != 2*i+1 || b.Decl != 1 {
			t.Fatalf("bind %d is %v", i, b)
		}
	}
}

func TestJ1Of(t *testing.T) {
	for _, l := range [][]api.Bind{
		nil, {}, binds(0, 0), binds(5, 2), binds(-3, 7), binds(1, 1, 4, 4, 6, 1), binds(0, 3, 1, 2, 2, 1, 3, 0), binds(-5, -6, 0, -1, 7, 1<<60, 9, -1<<60), binds(2, 0, 3, 0, 5, 0, 7, 0, 11, 0),
	} {
		ofAll(t, 13, l, l)
	}
	ends := binds(-1<<63, 4, 0, 5, 1<<63-1, 6)
	for _, k := range []struct{ tok, want int }{{-1 << 63, 4}, {1<<63 - 1, 6}, {0, 5}, {-1<<63 + 1, -1}, {1<<63 - 2, -1}, {1, -1}, {-1, -1}} {
		if got := scope.Of(ends, k.tok); got != k.want {
			t.Errorf("token %d means %d, not %d", k.tok, got, k.want)
		}
	}
	for _, l := range [][]api.Bind{nil, ends[1:2]} {
		if scope.Of(l, -1<<63) != -1 || scope.Of(l, 1<<63-1) != -1 {
			t.Errorf("%v has what it has not", l)
		}
	}
}
