package tree_test

import (
	"strings"
	"testing"

	"preamble/api"
)

func TestI2Statements(t *testing.T) {
	for _, x := range []struct{ s, want string }{
		{"", ""}, {";", "expr()"}, {";;", "expr(), expr()"}, {"x;", "expr(x)"}, {"{}", "block()"}, {"{{}{;}}{}", "block(block(), block(expr())), block()"},
		{"if (a) b;", "if(a, expr(b))"}, {"if (a) b; else c;", "if(a, expr(b), expr(c))"}, {"if (a) ; else ;", "if(a, expr(), expr())"}, {"if (a) { } else { }", "if(a, block(), block())"}, {"if (a, b) c;", "if((a , b), expr(c))"}, {"if ((a)) c;", "if(a, expr(c))"}, {"if (a) return; else int x;", "if(a, return(), decl(:int, @x))"},
		// An else is of the innermost if that has none.
		{"if (a) if (b) c; else d;", "if(a, if(b, expr(c), expr(d)))"},
		{"if (a) if (b) c; else d; else e;", "if(a, if(b, expr(c), expr(d)), expr(e))"},
		{"if (a) { if (b) c; } else d;", "if(a, block(if(b, expr(c))), expr(d))"},
		{"if (a) while (b) if (c) d; else e;", "if(a, while(b, if(c, expr(d), expr(e))))"},
		{"if (a) while (b) if (c) d; else e; else g;", "if(a, while(b, if(c, expr(d), expr(e))), expr(g))"},
		{"if (a) b; else if (c) d; else e;", "if(a, expr(b), if(c, expr(d), expr(e)))"},
		{"while (a) b;", "while(a, expr(b))"}, {"while (a, b) ;", "while((a , b), expr())"}, {"while (a) while (b) { }", "while(a, while(b, block()))"}, {"while (a) int x;", "while(a, decl(:int, @x))"},
		{"return;", "return()"}, {"return x;", "return(x)"}, {"return a, b = c;", "return((a , (b = c)))"}, {"return (x);", "return(x)"}, {"return -1;", "return(-[1])"},
		{"int x;", "decl(:int, @x)"}, {"int x = 1, *y; x;", "decl(:int, @x{1}, @y), expr(x)"}, {"typedef int T; T x; x = T;", "decl(:int, @T), decl(:T, @x), expr((x = T))"}, {"x; int y; y;", "expr(x), decl(:int, @y), expr(y)"},
		{"a, b;", "expr((a , b))"}, {"f();", "expr(call(f))"}, {"*p = 1;", "expr((*[p] = 1))"}, {"'a'; \"b\"; 1;", "expr('a'), expr(\"b\"), expr(1)"},
	} {
		acts(t, x.s, x.want)
	}
}

func TestI2StatementsWrong(t *testing.T) {
	for _, s := range []string{
		"if^;", "if^ a;", "if (^) a;", "if (a^;", "if (a^ b", "if (a)^)", "if (a)^}", "if (a) ^else b;", "if ^{}", "if (^int x) ;", "if (a) b^}", "if (a) b^ else c;", "if (a) b; else^}", "if (a) b; else ^else c;", "if (a) b; else c; ^else d;", "{} ^else {}", "^else",
		"while^;", "while (^)", "while (a^;", "while (a)^}", "while (a) b; ^else c;", "while ^1;",
		"return^}", "return ^int;", "return ^return;", "return 1^}", "return 1 ^2;", "return ^)", "return ^{", "return x^ if",
		"x^}", "x^)", "x ^y;", "x ^int y;", "x ^{}", "^)", "^]", "^@", "^#", "^=", "^...", "^?", "x ^? y : z;", "x^->y;", "x^.y;", "x ^: y;",
		"int^}", "int^;", "int x^}", "int x ^{", "typedef^}", "typedef int^;", "typedef int T ^= 2;", "int x = ^}", "int x, ^}", "void^()",
		"{ ^) }", "{ x^ }", "{ } ^]",
	} {
		at := strings.Index(s, "^")
		fails(t, "int f() {"+s[:at]+s[at+1:]+"}", api.ErrForm, 9+at+blanks(s[at+1:]))
	}
}

// blanks answers how many blanks s begins with.
func blanks(s string) int { return len(s) - len(strings.TrimLeft(s, " ")) }

var levels = []string{",", "= += -= *= /= %= &= |= ^= <<= >>=", "||", "&&", "|", "^", "&", "== !=", "< > <= >=", "<< >>", "+ -", "* / %"}

// Of any two signs it is told which is first.
func TestI2EveryPair(t *testing.T) {
	for i, left := range levels {
		for j, right := range levels {
			for _, a := range strings.Fields(left) {
				for _, b := range strings.Fields(right) {
					want := "((x " + a + " y) " + b + " z)"
					if i < j || i == j && i == 1 {
						want = "(x " + a + " (y " + b + " z))"
					}
					means(t, "x "+a+" y "+b+" z", want)
				}
			}
		}
	}
}

func TestI2Between(t *testing.T) {
	for _, x := range []struct{ s, want string }{
		{"a + b * c - d", "((a + (b * c)) - d)"}, {"a - b - c - d", "(((a - b) - c) - d)"}, {"a / b * c % d", "(((a / b) * c) % d)"},
		{"a = b += c -= d", "(a = (b += (c -= d)))"}, {"a, b = c, d", "((a , (b = c)) , d)"}, {"a + b = c + d = e", "((a + b) = ((c + d) = e))"}, {"a = b + c = d", "(a = ((b + c) = d))"}, {"a = b || c = d", "(a = ((b || c) = d))"},
		{"a << b + c << d", "((a << (b + c)) << d)"}, {"a < b == c < d", "((a < b) == (c < d))"}, {"a == b & c == d", "((a == b) & (c == d))"},
		{"a , b = c || d && e | f ^ g & h == i < j << k + l * m", "(a , (b = (c || (d && (e | (f ^ (g & (h == (i < (j << (k + (l * m))))))))))))"},
		{"a * b + c << d < e == f & g ^ h | i && j || k = l , m", "((((((((((((a * b) + c) << d) < e) == f) & g) ^ h) | i) && j) || k) = l) , m)"},
		{"(a + b) * c", "((a + b) * c)"}, {"a * (b + c)", "(a * (b + c))"}, {"a - (b - c)", "(a - (b - c))"}, {"(a = b) = c", "((a = b) = c)"}, {"((a))", "a"}, {"(a, b), c", "((a , b) , c)"}, {"a, (b, c)", "(a , (b , c))"},
		{"a * * b", "(a * *[b])"}, {"a & & b", "(a & &[b])"}, {"a && b", "(a && b)"}, {"a && & b", "(a && &[b])"}, {"a - - b", "(a - -[b])"}, {"a - -- b", "(a - --[b])"}, {"a + + + b", "(a + +[+[b]])"}, {"1 + 'a' + \"s\"", "((1 + 'a') + \"s\")"},
	} {
		means(t, x.s, x.want)
	}
}

func TestI2Parts(t *testing.T) {
	for _, x := range []struct{ s, want string }{
		{"x", "x"}, {"1", "1"}, {"0x1fUL", "0x1fUL"}, {"1.5e3", "1.5e3"}, {"'a'", "'a'"}, {`"a b"`, `"a b"`}, {"(x)", "x"}, {"(1)", "1"},
		{"-x", "-[x]"}, {"+x", "+[x]"}, {"!x", "![x]"}, {"~x", "~[x]"}, {"*x", "*[x]"}, {"&x", "&[x]"}, {"++x", "++[x]"}, {"--x", "--[x]"}, {"- - x", "-[-[x]]"}, {"-!~*&x", "-[![~[*[&[x]]]]]"}, {"++ -- - x", "++[--[-[x]]]"}, {"-1", "-[1]"}, {"!(a + b)", "![(a + b)]"}, {"-(x)", "-[x]"},
		{"-x + y", "(-[x] + y)"}, {"-x * y", "(-[x] * y)"}, {"!x = y", "(![x] = y)"}, {"*x, y", "(*[x] , y)"},
		{"f()", "call(f)"}, {"f(a)", "call(f, a)"}, {"f(a, b)", "call(f, a, b)"}, {"f(a, b, c)", "call(f, a, b, c)"}, {"f((a, b))", "call(f, (a , b))"}, {"f(a = b, c = d)", "call(f, (a = b), (c = d))"}, {"f(g(h()))", "call(f, call(g, call(h)))"}, {"f(a)(b)()", "call(call(call(f, a), b))"}, {"1()", "call(1)"}, {`"s"(x)`, `call("s", x)`}, {"(f)(x)", "call(f, x)"}, {"(a + b)(x)", "call((a + b), x)"},
		{"a[1]", "at(a, 1)"}, {"a[b, c]", "at(a, (b , c))"}, {"a[b = c]", "at(a, (b = c))"}, {"a[1][2]", "at(at(a, 1), 2)"}, {"a[b[c]]", "at(a, at(b, c))"}, {"1[a]", "at(1, a)"}, {"(a)[1]", "at(a, 1)"}, {"a[(1)]", "at(a, 1)"},
		{"f(1)[2](3)", "call(at(call(f, 1), 2), 3)"}, {"-f(x)", "-[call(f, x)]"}, {"*a[1]", "*[at(a, 1)]"}, {"(*a)[1]", "at(*[a], 1)"}, {"(-f)(x)", "call(-[f], x)"}, {"&a[1] + f()", "(&[at(a, 1)] + call(f))"}, {"a[1] = f(2)", "(at(a, 1) = call(f, 2))"}, {"a + b[1]", "(a + at(b, 1))"}, {"f(-x, !y)", "call(f, -[x], ![y])"},
	} {
		means(t, x.s, x.want)
	}
}

func TestI2ExpressionsWrong(t *testing.T) {
	for _, s := range []string{
		"^;", "^)", "^]", "^}", "^,", "^int", "^if", "^else", "^typedef", "^=", "^/ 2", "^% 2", "^|| a", "^&& a", "^== a", "^< a", "^| a", "^.", "^->", "^?", "^:", "^...", "^#", "^##", "^@", "^\\", "^{",
		"(^)", "(^;", "(1^;", "(1^]", "(1 ^2)", "((1)^;", "(1)^)", "(^int) x", "- ^;", "-^)", "! ^/ x", "-- ^]", "- ^int",
		"a + ^;", "a + ^)", "a +^/ b", "a * ^= b", "a = ^;", "a = ^= b", "a == ^== b", "a < ^> b", "a ^b", "a ^1", "1 ^1", "1 ^a", "a ^'b'", "\"a\" ^\"b\"", "a^++", "a^--", "a^++ b", "a ^! b", "a ^~ b", "a^.b", "a ^-> b", "a ^? b : c", "a ^{", "a ^int", "a ^if", "a ^@",
		"f(1^;", "f(1,^)", "f(^,1)", "f(^,)", "f(1^]", "f(1 ^2)", "f(^int x)", "f(^;", "f(1, ^;", "f()^)", "a[^]", "a[1^;", "a[1^)", "a[1 ^2]", "a[^;", "a[1]^]", "a[^int]", "f ^@ ()", "f(1) ^2",
	} {
		at := strings.Index(s, "^")
		for _, ahead := range []string{"int x = ", "int y, x = ", "int a[2] = ", "int f() { int x = "} {
			fails(t, ahead+s[:at]+s[at+1:]+";", api.ErrForm, len(ahead)+at)
		}
	}
	// Where no comma may stand.
	marked(t, api.ErrForm, "int x = a, ^(b);")
	marked(t, api.ErrForm, "int x = a, b ^+ c;")
	marked(t, api.ErrForm, "int x = a = b, ^1;")
}
