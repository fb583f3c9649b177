package tree_test

import (
	"strconv"
	"strings"
	"testing"

	"preamble/api"
	"preamble/lex"
	"preamble/tree"
)

func read(t *testing.T, s string) []api.Token {
	t.Helper()
	l, f := lex.Tokens(0, s)
	if f.Err != api.OK {
		t.Fatalf("%q has no tokens: %v", s, f)
	}
	return l
}

// shape tells a node: types as :int, declared names as @x, signs ahead as -[x], signs between as (x + y); what must have no token, and has one, as ?3.
func shape(l []api.Token, n api.Node) string {
	var kids []string
	for _, k := range n.Kids {
		kids = append(kids, shape(l, k))
	}
	inner := strings.Join(kids, ", ")
	if word := wordOf(n.Kind); word != "" {
		if n.Tok != -1 {
			word += "?" + strconv.Itoa(n.Tok)
		}
		return word + "(" + inner + ")"
	}
	text := "?"
	if 0 <= n.Tok && n.Tok < len(l) {
		text = l[n.Tok].Text
	}
	switch {
	case n.Kind == api.NodeType && len(kids) == 0:
		return ":" + text
	case n.Kind == api.NodeUse && len(kids) == 0, n.Kind == api.NodeLit && len(kids) == 0:
		return text
	case n.Kind == api.NodeUn && len(kids) == 1:
		return text + "[" + inner + "]"
	case n.Kind == api.NodeBin && len(kids) == 2:
		return "(" + kids[0] + " " + text + " " + kids[1] + ")"
	case n.Kind == api.NodeName && len(kids) == 0:
		return "@" + text
	case n.Kind == api.NodeName:
		return "@" + text + "{" + inner + "}"
	}
	return "?" + strconv.Itoa(n.Kind) + "(" + inner + ")"
}

// wordOf answers what kinds without a token are told as.
func wordOf(kind int) string {
	switch kind {
	case api.NodeUnit:
		return "unit"
	case api.NodeDecl:
		return "decl"
	case api.NodeFunc:
		return "func"
	case api.NodeBlock:
		return "block"
	case api.NodeIf:
		return "if"
	case api.NodeWhile:
		return "while"
	case api.NodeReturn:
		return "return"
	case api.NodeExpr:
		return "expr"
	case api.NodeCall:
		return "call"
	case api.NodeAt:
		return "at"
	}
	return ""
}

// parsed answers the shape of what s is read as.
func parsed(t *testing.T, s string) string {
	t.Helper()
	l := read(t, s)
	n, f := tree.Parse(l)
	if f != (api.Fault{File: -1}) {
		t.Errorf("%q: %v", s, f)
	}
	return shape(l, n)
}

func is(t *testing.T, s, want string) {
	t.Helper()
	if got := parsed(t, s); got != "unit("+want+")" {
		t.Errorf("%q is %s, not %s", s, got, want)
	}
}

// acts holds s as all statements of a function against want.
func acts(t *testing.T, s, want string) {
	t.Helper()
	is(t, "int f() {"+s+"}", "func(:int, @f, block("+want+"))")
}

// means holds s as an expression against want.
func means(t *testing.T, s, want string) {
	t.Helper()
	acts(t, s+";", "expr("+want+")")
}

func fails(t *testing.T, s string, err api.Errno, at int) {
	t.Helper()
	n, f := tree.Parse(read(t, s))
	if f != (api.Fault{Err: err, At: at}) {
		t.Errorf("%q: %v, not %v at %d", s, f, err, at)
	}
	if n.Kind != 0 || n.Tok != 0 || len(n.Kids) != 0 {
		t.Errorf("%q: %v beside %v", s, n, f)
	}
}

// marked fails s, without its ^, at the byte at which that stands.
func marked(t *testing.T, err api.Errno, s string) {
	t.Helper()
	at := strings.Index(s, "^")
	if at < 0 {
		t.Fatalf("%q has no mark", s)
	}
	fails(t, s[:at]+s[at+1:], err, at)
}

func TestI1Key(t *testing.T) {
	for _, s := range strings.Fields("int char long void typedef if else while return") {
		if !tree.Key(s) {
			t.Errorf("%q is no key", s)
		}
	}
	for _, s := range []string{"", " ", "x", "Int", "INT", "in", "ints", "int ", " int", "int char", "for", "do", "short", "signed", "unsigned", "struct", "static", "const", "sizeof", "switch", "case", "break", "continue", "goto", "defined", "include", "elif", "(", "{", ";", "\x00", "int\x00", "typedeF"} {
		if tree.Key(s) {
			t.Errorf("%q is a key", s)
		}
	}
}

func TestI1Declarations(t *testing.T) {
	for _, x := range []struct{ s, want string }{
		{"", ""}, {" \n", ""},
		{"int x;", "decl(:int, @x)"}, {"char c;", "decl(:char, @c)"}, {"long l;", "decl(:long, @l)"}, {"void v;", "decl(:void, @v)"},
		{"int x; char y; long z;", "decl(:int, @x), decl(:char, @y), decl(:long, @z)"},
		{"int *x, **y, ***z;", "decl(:int, @x, @y, @z)"},
		{"int x = 1;", "decl(:int, @x{1})"}, {"int *x = y;", "decl(:int, @x{y})"},
		{"int a[3];", "decl(:int, @a{3})"}, {"int *a[3] = 4;", "decl(:int, @a{3, 4})"}, {"int a[b, c];", "decl(:int, @a{(b , c)})"}, {"int a[b = c] = d = e;", "decl(:int, @a{(b = c), (d = e)})"},
		{"int a = 1, *b, c[2], d[3] = 4, e;", "decl(:int, @a{1}, @b, @c{2}, @d{3, 4}, @e)"},
		{"int a = (b, c), d;", "decl(:int, @a{(b , c)}, @d)"},
		{"int x, x, x;", "decl(:int, @x, @x, @x)"},
		{"typedef int T;", "decl(:int, @T)"}, {"typedef int T, *U, V[3];", "decl(:int, @T, @U, @V{3})"}, {"typedef void T;", "decl(:void, @T)"}, {"typedef int T; typedef T U; U x;", "decl(:int, @T), decl(:T, @U), decl(:U, @x)"},
		{"typedef int T; T *p;", "decl(:int, @T), decl(:T, @p)"},
		{"int defined, forty, Int;", "decl(:int, @defined, @forty, @Int)"},
	} {
		is(t, x.s, x.want)
	}
}

func TestI1Functions(t *testing.T) {
	for _, x := range []struct{ s, want string }{
		{"int f() {}", "func(:int, @f, block())"}, {"void *f() {}", "func(:void, @f, block())"},
		{"int f(int a) {}", "func(:int, @f, decl(:int, @a), block())"},
		{"int f(int a, char *b, long c[3]) {}", "func(:int, @f, decl(:int, @a), decl(:char, @b), decl(:long, @c{3}), block())"},
		{"int f(int a[b, c]) {}", "func(:int, @f, decl(:int, @a{(b , c)}), block())"},
		{"int f() {} int x; int g() {;}", "func(:int, @f, block()), decl(:int, @x), func(:int, @g, block(expr()))"},
		{"typedef int T; T f(T a, T b) {}", "decl(:int, @T), func(:T, @f, decl(:T, @a), decl(:T, @b), block())"},
		{"int f(int f) {}", "func(:int, @f, decl(:int, @f), block())"}, {"int f(int a, int a) {}", "func(:int, @f, decl(:int, @a), decl(:int, @a), block())"},
	} {
		is(t, x.s, x.want)
	}
}

// Which names are types' is seen by T * x: a declaration of x, or a product.
func TestI1Types(t *testing.T) {
	const declared, reckoned = "decl(:T, @x)", "expr((T * x))"
	for _, x := range []struct{ s, want string }{
		{"int f() { T * x; }", "func(:int, @f, block(" + reckoned + "))"},
		{"typedef int T; int f() { T * x; }", "decl(:int, @T), func(:int, @f, block(" + declared + "))"},
		{"int T; int f() { T * x; }", "decl(:int, @T), func(:int, @f, block(" + reckoned + "))"},
		// The last one made counts, in the same surroundings too.
		{"typedef int T; int T; int f() { T * x; }", "decl(:int, @T), decl(:int, @T), func(:int, @f, block(" + reckoned + "))"},
		{"int T; typedef int T; int f() { T * x; }", "decl(:int, @T), decl(:int, @T), func(:int, @f, block(" + declared + "))"},
		{"typedef int T, T; T x;", "decl(:int, @T, @T), decl(:T, @x)"},
		{"typedef int T; T T; int f() { T * x; }", "decl(:int, @T), decl(:T, @T), func(:int, @f, block(" + reckoned + "))"},
		// To the end of the block, and no further.
		{"int f() { typedef int T; T * x; } int g() { T * x; }", "func(:int, @f, block(decl(:int, @T), " + declared + ")), func(:int, @g, block(" + reckoned + "))"},
		{"int f() { { typedef int T; T * x; } T * x; }", "func(:int, @f, block(block(decl(:int, @T), " + declared + "), " + reckoned + "))"},
		{"int f() { { typedef int T; } { T * x; } }", "func(:int, @f, block(block(decl(:int, @T)), block(" + reckoned + ")))"},
		{"typedef int T; int f() { { int T; T * x; } T * x; }", "decl(:int, @T), func(:int, @f, block(block(decl(:int, @T), " + reckoned + "), " + declared + "))"},
		{"typedef int T; int f() { int T; { typedef int T; T * x; } T * x; } T x;", "decl(:int, @T), func(:int, @f, block(decl(:int, @T), block(decl(:int, @T), " + declared + "), " + reckoned + ")), " + declared},
		{"int f() { typedef int T; { { T * x; } } }", "func(:int, @f, block(decl(:int, @T), block(block(" + declared + "))))"},
		{"int f() { T * x; typedef int T; T * x; }", "func(:int, @f, block(" + reckoned + ", decl(:int, @T), " + declared + "))"},
		// A statement that is no block has no surroundings of its own.
		{"int f() { if (1) typedef int T; T * x; }", "func(:int, @f, block(if(1, decl(:int, @T)), " + declared + "))"},
		{"int f() { while (1) { typedef int T; } T * x; }", "func(:int, @f, block(while(1, block(decl(:int, @T))), " + reckoned + "))"},
		{"typedef int T; int f() { if (1) T * x; else int T; T * x; }", "decl(:int, @T), func(:int, @f, block(if(1, " + declared + ", decl(:int, @T)), " + reckoned + "))"},
		// Parameters, and the function's name.
		{"typedef int T; int f(int T) { T * x; } T x;", "decl(:int, @T), func(:int, @f, decl(:int, @T), block(" + reckoned + ")), " + declared},
		{"typedef int T; int f(T T) { T * x; } T x;", "decl(:int, @T), func(:int, @f, decl(:T, @T), block(" + reckoned + ")), " + declared},
		{"typedef int T; int f(T x, int T) { T * x; { T * x; } }", "decl(:int, @T), func(:int, @f, decl(:T, @x), decl(:int, @T), block(" + reckoned + ", block(" + reckoned + ")))"},
		{"typedef int T; int f(int T) { typedef int T; T * x; } T x;", "decl(:int, @T), func(:int, @f, decl(:int, @T), block(decl(:int, @T), " + declared + ")), " + declared},
		{"typedef int T; int T() { T * x; } int g() { T * x; }", "decl(:int, @T), func(:int, @T, block(" + reckoned + ")), func(:int, @g, block(" + reckoned + "))"},
		{"typedef int T; T T() {} int g() { T * x; }", "decl(:int, @T), func(:T, @T, block()), func(:int, @g, block(" + reckoned + "))"},
		// A name that is a type's is a name all the same.
		{"typedef int T; int x = T + (T) - T(T)[T];", "decl(:int, @T), decl(:int, @x{((T + T) - at(call(T, T), T))})"},
		{"typedef int T; int f() { (T) * x; return T; }", "decl(:int, @T), func(:int, @f, block(" + reckoned + ", return(T)))"},
		// A thing is one behind its declarator, ahead of what it is at first.
		{"typedef int T; int T = T, y = T;", "decl(:int, @T), decl(:int, @T{T}, @y{T})"},
	} {
		is(t, x.s, x.want)
	}
	for _, s := range []string{
		"typedef int T; int T; ^T x;", "typedef int T; int f() { int T; } int T() { } ^T x;", "int f() { typedef int T; } ^T x;", "int f(int T) { typedef int T; } ^T x;",
		"typedef int T; int f(int T, ^T x) { }", "typedef int T; int f(T T, ^T x) { }", "typedef int T; int T(^T x) { }", "typedef int T; T T, x; ^T y;",
		"typedef int T, ^int;", "typedef ^T T;", "^T x; typedef int T;", "int f() { typedef int T; T^; }", "typedef int T; int f() { T ^= 1; }", "typedef int T; int f() { T ^+ 1; }",
		"typedef int T; int f() { int T = 1; typedef ^T U; }", "typedef int T; int f() { { int T; } T^; }",
	} {
		marked(t, api.ErrForm, s)
	}
	// What stands in a typedef's [ ] is behind its name, but ahead of its being a type; that is not seen by what is read, as a type's name in there is a name.
	is(t, "typedef int T[T * T], U[T];", "decl(:int, @T{(T * T)}, @U{T})")
}

func TestI1Wrong(t *testing.T) {
	for _, s := range []string{
		"int^", "int x^", "int ^1;", "int ^int;", "int ^;", "int *^", "int *^;", "int * * ^3;", "int x ^y;", "int x ^1;", "int x,^", "int x, ^;", "int x, ^int y;", "int x, ^,y;", "int x = 1^", "int x = 1 ^2;", "int x = 1 ^}",
		"^x;", "^;", "^{}", "^else", "^if (1) ;", "^return;", "^1;", "^*x;", "^'a'", "^\"int\" x;", "^#", "^@", "int x; ^;", "int x; ^}", "int f() {} ^;", "int f() {} ^}", "int f() {} ^{}",
		"int a[1^", "int a[1^;", "int a[1^)", "int a[^];", "int a[1]^", "int a[1] ^[2];", "int a[1]^(int b) {}", "int a[1]^() {}", "int ^(f)();", "int ^[3] a;",
		"typedef^", "typedef ^x;", "typedef int^", "typedef int ^;", "typedef int T^", "typedef int T ^= 1;", "typedef int T, U ^= 1;", "typedef ^typedef int T;", "typedef int T^() {}", "int ^typedef T;", "typedef int ^long;",
		"int f(^", "int f(int^", "int f(int ^)", "int f(int a^", "int f(int a,^", "int f(int a, ^)", "int f(^,)", "int f(int a ^int b) {}", "int f(^a) {}", "int f(^1) {}", "int f(int a ^= 1) {}", "int f(^typedef int a) {}", "int f(int a^;) {}", "int f(int a, ^b) {}", "int f(int a^(int b)) {}", "int f(^...) {}",
		"int f()^", "int f()^;", "int f() ^= 1;", "int f()^, g;", "int f() ^int x; {}", "int f()^[3] {}", "int f()^(int a) {}", "int f(int a)^",
		"int x = 1, f^() {}", "int x, f^();", "int f() { int g^(); }", "int f() { int g^() {} }",
	} {
		marked(t, api.ErrForm, s)
	}
}
