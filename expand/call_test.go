package expand_test

import (
	"reflect"
	"strings"
	"testing"

	"preamble/api"
	"preamble/expand"
)

func TestF2Arguments(t *testing.T) {
	l := defined(t, "h() !", "f(x) <x>", "two(x,y) <x|y>", "v(...) <__VA_ARGS__>", "w(a,...) <a|__VA_ARGS__>", "w3(a,b,...) <a|b|__VA_ARGS__>", "six(a,b,c,d,e,f) f e d c b a", "q(...) #__VA_ARGS__")
	for _, x := range []struct {
		s, want string
		// the steps: those of the name, those of arguments as they are read, as they are expanded, and of what comes of it.
		steps int
	}{
		{"h()", "!", 1 + 0 + 0 + 1}, {"h( /* */ )", "!", 1 + 0 + 0 + 1},
		{"f()", "< >", 1 + 0 + 0 + 2}, {"f( )", "< >", 1 + 0 + 0 + 2}, {"f(1)", "< 1 >", 1 + 1 + 1 + 3}, {"f(1 2)", "< 1 2 >", 1 + 2 + 2 + 4}, {"f(())", "< ( ) >", 1 + 2 + 2 + 4}, {"f((,))", "< ( , ) >", 1 + 3 + 3 + 5}, {"f((1,(2,3),4))", "< ( 1 , ( 2 , 3 ) , 4 ) >", 1 + 11 + 11 + 13}, {"f([)", "< [ >", 1 + 1 + 1 + 3},
		{"two(1,2)", "< 1 | 2 >", 1 + 2 + 2 + 5}, {"two(,)", "< | >", 1 + 0 + 0 + 3}, {"two(1,)", "< 1 | >", 1 + 1 + 1 + 4}, {"two(,2)", "< | 2 >", 1 + 1 + 1 + 4}, {"two((1,2),3)", "< ( 1 , 2 ) | 3 >", 1 + 6 + 6 + 9}, {"two(1\n,\n2)", "< 1 | 2 >", 1 + 2 + 2 + 5}, {"two((),())", "< ( ) | ( ) >", 1 + 4 + 4 + 7}, {"two([,])", "< [ | ] >", 1 + 2 + 2 + 5},
		{"v()", "< >", 1 + 0 + 0 + 2}, {"v(1)", "< 1 >", 1 + 1 + 1 + 3}, {"v(,)", "< , >", 1 + 0 + 1 + 3}, {"v(1,2)", "< 1 , 2 >", 1 + 2 + 3 + 5}, {"v(1,,2)", "< 1 , , 2 >", 1 + 2 + 4 + 6}, {"v((1,2),3)", "< ( 1 , 2 ) , 3 >", 1 + 6 + 7 + 9},
		{"w()", "< | >", 1 + 0 + 0 + 3}, {"w(1)", "< 1 | >", 1 + 1 + 1 + 4}, {"w(1,)", "< 1 | >", 1 + 1 + 1 + 4}, {"w(,)", "< | >", 1 + 0 + 0 + 3}, {"w(1,2)", "< 1 | 2 >", 1 + 2 + 2 + 5}, {"w(1,2,3)", "< 1 | 2 , 3 >", 1 + 3 + 4 + 7}, {"w(,,)", "< | , >", 1 + 0 + 1 + 4}, {"w(,,,)", "< | , , >", 1 + 0 + 2 + 5},
		{"w3(1,2)", "< 1 | 2 | >", 1 + 2 + 2 + 6}, {"w3(1,2,3,4)", "< 1 | 2 | 3 , 4 >", 1 + 4 + 5 + 9}, {"w3(,)", "< | | >", 1 + 0 + 0 + 4},
		{"six(1,2,3,4,5,6)", "6 5 4 3 2 1", 1 + 6 + 6 + 6}, {"six(,,,,,)", "", 1}, {"q(1, 2 ,(3,4))", `"1, 2 ,(3,4)"`, 1 + 7 + 0 + 1}, {"q(,)", `","`, 1 + 0 + 0 + 1}, {"q()", `""`, 1 + 0 + 0 + 1},
	} {
		comes(t, l, x.s, x.want, x.steps)
	}
}

// A call may begin in what a macro stands for, and end behind it; but what an argument is expanded to parts no arguments, and ends none.
func TestF2Elsewhere(t *testing.T) {
	l := defined(t, "f(x) <x>", "open f (", "close )", "two(x,y) <x|y>", "comma ,")
	comes(t, l, "open 1 )", "< 1 >", 1+1+1+1+3)
	comes(t, l, "f(close)", "< ) >", 1+1+2+3)
	comes(t, l, "two(comma,comma)", "< , | , >", 1+2+4+5)
	fails(t, l, "f(1 close", 99, 99, api.Fault{Err: api.ErrEnd})
	fails(t, l, "two(1 comma 2)", 99, 99, api.Fault{Err: api.ErrMany})
}

// Parentheses and commas are told by their texts.
func TestF2ByText(t *testing.T) {
	l := []api.Token{{Kind: api.TokName, Text: "two"}, {Kind: api.TokOther, Text: "("}, {Kind: 0, Text: "("}, {Kind: 9, Text: ","}, {Kind: api.TokNum, Text: ")"}, {Kind: -1, Text: ","}, {Kind: api.TokText, Text: ")"}}
	out, left, f := expand.All(nil, defined(t, "two(x,y) x|y"), l, 99, 99)
	if texts(out) != "( , ) |" || left != 99-1-3-3-4 || f != fine {
		t.Errorf("%q %d %v", texts(out), left, f)
	}
}

func TestF2Wrong(t *testing.T) {
	l := defined(t, "h() !", "f(x) <x>", "two(x,y) <x|y>", "v(...) <__VA_ARGS__>", "w3(a,b,...) 1", "open f (", "p(x,y) x##y", "none(x) 1", "no2(x,y) #x x##1")
	for _, x := range []struct {
		s        string
		err      api.Errno
		file, at int
	}{
		{"f(", api.ErrEnd, 0, 0}, {"  f(1", api.ErrEnd, 0, 2}, {"f(()", api.ErrEnd, 0, 0}, {"f((1,2)", api.ErrEnd, 0, 0}, {"h(", api.ErrEnd, 0, 0}, {"v(1,2", api.ErrEnd, 0, 0}, {"f(1) f(", api.ErrEnd, 0, 5}, {"f(f(1)", api.ErrEnd, 0, 0}, {"f(1,2", api.ErrEnd, 0, 0}, {"open", api.ErrEnd, 1, 5}, {"p(f,)(", api.ErrEnd, 0, 2}, {"f(v()(", api.ErrEnd, 0, 0},
		{"h(1)", api.ErrMany, 0, 0}, {" h(,)", api.ErrMany, 0, 1}, {"h(())", api.ErrMany, 0, 0}, {"f(,)", api.ErrMany, 0, 0}, {"f(1,2)", api.ErrMany, 0, 0}, {"x f(1,2,3)", api.ErrMany, 0, 2}, {"two()", api.ErrMany, 0, 0}, {"two(1)", api.ErrMany, 0, 0}, {"two((1,2))", api.ErrMany, 0, 0}, {"two(1,2,3)", api.ErrMany, 0, 0}, {"w3()", api.ErrMany, 0, 0}, {"w3(1)", api.ErrMany, 0, 0}, {"open 1,2)", api.ErrMany, 1, 5}, {"f(two(1))", api.ErrMany, 0, 2}, {"p(tw,o)(1)", api.ErrMany, 0, 2},
		{"two(h(1),f(,))", api.ErrMany, 0, 4}, {"two(f( ,h(1))", api.ErrEnd, 0, 0}, {"f(1) two(1,h(2))", api.ErrMany, 0, 11},
	} {
		fails(t, l, x.s, api.MaxFuel, api.MaxOut, api.Fault{Err: x.err, File: x.file, At: x.at})
	}
	// An argument that nothing asks to be expanded is not.
	comes(t, l, "none(f(,))", "1", 1+4+1)
	comes(t, l, "no2(h,f(,))", `"h" h1`, 1+5+2)
	// Steps run out ahead of how many arguments there are.
	fails(t, l, "f(1,2)", 2, 9, api.Fault{Err: api.ErrFuel, At: 4})
	fails(t, l, "f(1,2)", 3, 9, api.Fault{Err: api.ErrMany})
}

// A call that does not end has no arguments, whose tokens could be steps: that it does not is told as soon as its name has its step.
func TestF2EndsAheadOfSteps(t *testing.T) {
	l := defined(t, "h() !", "f(x) <x>", "two(x,y) <x|y>", "v(...) <__VA_ARGS__>", "open f (", "more f (1 ( 2 )", "shut )", "p(x,y) x##y")
	for _, x := range []struct {
		s string
		// the steps up to that of the name whose call does not end, and where it stands.
		steps    int
		file, at int
	}{
		{"f(", 1, 0, 0}, {"f(1 2", 1, 0, 0}, {" f (1 2", 1, 0, 1}, {"h(1", 1, 0, 0}, {"h(,", 1, 0, 0}, {"two(1,2,3", 1, 0, 0}, {"v(1,2,3", 1, 0, 0}, {"v(,,,", 1, 0, 0},
		{"a f((1) 2, 3", 2, 0, 2}, {"f(1 (2)", 1, 0, 0}, {"f((((1)))", 1, 0, 0}, {"f(f(1) f(2)", 1, 0, 0}, {"f(1 shut", 1, 0, 0}, {"f(\n1\n2", 1, 0, 0},
		{"f(1) f(2 3", 1 + 1 + 1 + 3 + 1, 0, 5}, {"open 1 2", 2, 1, 5}, {"more 3 4", 2, 1, 5}, {"x more (3) 4", 3, 1, 5}, {"p(f,)(1 2", 1 + 1 + 1, 0, 2}, {"f(open 1 2)", 1 + 3 + 2, 1, 5}, {"two(1,f(more))", 1 + 5 + 1 + 1 + 1 + 2, 1, 5},
	} {
		for fuel := x.steps; fuel < x.steps+9; fuel++ {
			fails(t, l, x.s, fuel, api.MaxOut, api.Fault{Err: api.ErrEnd, File: x.file, At: x.at})
		}
		if _, _, f := expand.All(sources, l, read(t, 0, x.s), x.steps-1, api.MaxOut); f.Err != api.ErrFuel {
			t.Errorf("%q, %d steps: %v", x.s, x.steps-1, f)
		}
	}
	// One that ends has its arguments' tokens be steps, however far its ) is.
	fails(t, l, "f(1 2)", 1, 9, api.Fault{Err: api.ErrFuel, At: 2})
	fails(t, l, "f(1 2)", 2, 9, api.Fault{Err: api.ErrFuel, At: 4})
	fails(t, l, "open 1 2)", 3, 9, api.Fault{Err: api.ErrFuel, At: 7})
	fails(t, l, "f(f(1 2) 3", 1, 9, api.Fault{Err: api.ErrEnd})
	fails(t, l, "f(f(1 2) 3)", 1, 9, api.Fault{Err: api.ErrFuel, At: 2})
	// Steps that run out in an argument come ahead of a call that does not end behind it.
	fails(t, l, "f(1) f(2", 3, 9, api.Fault{Err: api.ErrFuel, File: 1, At: 5})
}

func TestF3Quoted(t *testing.T) {
	l := defined(t, "s(x) #x", "x(x) s(x)", "A a  b", "b(x,y) [ # x#y ]", "hash # x #", "w(a,...) # __VA_ARGS__ #a", "f(x) x")
	for _, x := range []struct {
		s, want string
		steps   int
	}{
		{"s()", `""`, 2}, {"s( a  +  b )", `"a + b"`, 5}, {"s(A)", `"A"`, 3}, {`s("x\n")`, `"\"x\\n\""`, 3}, {"s(s(1))", `"s(1)"`, 1 + 4 + 1}, {"x(A)", `"a b"`, 1 + 1 + 3 + 1 + 2 + 1}, {"x(s(1))", `"\"1\""`, 1 + 4 + 3 + 1 + 1 + 1}, {"b(1,(2,3))", `[ "1" "(2,3)" ]`, 1 + 6 + 4},
		{"w(1,2 , 3)", `"2 , 3" "1"`, 1 + 3 + 2}, {"w(1)", `"" "1"`, 1 + 1 + 2},
		// Of one that is not Called # is a token, and so is one that an argument brings.
		{"hash", "# x #", 4}, {"s(#)", `"#"`, 3}, {"f(# x)", "# x", 1 + 2 + 2 + 2}, {"f(hash)", "# x #", 1 + 1 + 4 + 3},
	} {
		comes(t, l, x.s, x.want, x.steps)
	}
}

func TestF3Pasted(t *testing.T) {
	l := defined(t, "c(x,y) x##y", "sp(x,y) [ x ## y ]", "c3(a,b,c) a##b##c", "A a1", "AB ab", "o x ## 1 ## 2 y", "two(x,y) x x##y y", "q(x,y) x## #y", "q2(x,y) #x##y", "dup(x) x##x", "gap(x,y) 1 x##y 2", "twice(x,y) x ## ## y", "v(a,...) a##__VA_ARGS__", "chain(x,y) x##y##1 y##x 2")
	for _, x := range []struct {
		s, want string
		steps   int
	}{
		{"c(a,b)", "ab", 4}, {"c(A,B)", "ab", 5}, {"c(a,A)", "aA", 4}, {"c(1,e)", "1e", 4}, {"c(+,=)", "+=", 4}, {"c(a,)", "a", 3}, {"c(,b)", "b", 3}, {"c(,)", "", 1}, {"c(A,)", "a1", 4}, {"c(,A)", "a1", 4},
		{"c(1 a,b 2)", "1 ab 2", 1 + 4 + 3}, {"c(1 a,)", "1 a", 1 + 2 + 2}, {"c(,b 2)", "b 2", 1 + 2 + 2},
		{"sp(a,b)", "[ ab ]", 6}, {"sp(,b)", "[ b ]", 5}, {"sp(,)", "[ ]", 3},
		{"c3(a,b,c)", "abc", 5}, {"c3(a,,c)", "ac", 4}, {"c3(,,c)", "c", 3}, {"c3(a,,)", "a", 3}, {"c3(,b,c)", "bc", 4}, {"c3(,,)", "", 1}, {"c3(a b,c d,e f)", "a bc de f", 1 + 6 + 4}, {"c3(<,<,=)", "<<=", 5}, {"c3(1,e,+)", "1e+", 5},
		{"o", "x12 y", 3}, {"two(A,B)", "a1 ab B", 1 + 2 + 2 + (1 + 1 + 1) + 1 + 1}, {"dup(A)", "AA", 3}, {"dup(<)", "<<", 3}, {"chain(a,b)", "ab1 ba 2", 1 + 2 + 3},
		// What stands ahead of an argument without tokens is not taken hold of.
		{"gap(,3)", "1 3 2", 5}, {"gap(3,)", "1 3 2", 5}, {"gap(,)", "1 2", 3}, {"chain(,)", "1 2", 3},
		{"q(,b)", `"b"`, 3}, {"q2(b,)", `"b"`, 3}, {"twice(a,b)", "ab", 4}, {"twice(,b)", "b", 3}, {"twice(a,)", "a", 3},
		{"v(a,b,c)", "ab , c", 1 + 3 + 3}, {"v(a)", "a", 3}, {"v(,1)", "1", 3},
	} {
		comes(t, l, x.s, x.want, x.steps)
	}
}

// ## pastes where it stands in a body, as a sign: not where it comes from an argument, or is pasted itself.
func TestF3PasteSigns(t *testing.T) {
	comes(t, defined(t, "f(x) a x b"), "f(##)", "a ## b", 1+1+1+3)
	comes(t, defined(t, "p # ## #", "f(x) 1 x 2"), "f(p)", "1 ## 2", 1+1+2+3)
	m := defined(t, "f(x) x ## 1 # x")
	for i := range m[0].Body {
		if m[0].Body[i].Kind == api.TokSign {
			m[0].Body[i].Kind = api.TokOther
		}
	}
	comes(t, m, "f(a)", "a ## 1 # a", 1+1+2+5)
	// Nor is what is no name a parameter.
	m[0].Body[0].Kind = api.TokOther
	comes(t, m, "f(a)", "x ## 1 # a", 1+1+1+5)
}

func TestF3PasteWrong(t *testing.T) {
	l := defined(t, "c(x,y) x##y", "c3(a,b,c) a##b ## c", "bad(x) x ##+", "q(x,y) x## # y", "q2(x) #x##x", "o a ## +", "f(x) [x]", "both(x,y) x##y f(x,y)", "late(x,y) f(1,2) x##y", "twice(x) x ## ## +")
	for _, x := range []struct {
		s        string
		err      api.Errno
		file, at int
	}{
		{"c(+,a)", api.ErrPaste, 1, 10}, {"c(a,+)", api.ErrPaste, 1, 10}, {`c("a","b")`, api.ErrPaste, 1, 10}, {"c(/,/)", api.ErrPaste, 1, 10}, {"c(a b,+ c)", api.ErrPaste, 1, 10}, {"x\nc(a,(1))", api.ErrPaste, 1, 10},
		{"c3(+,a,b)", api.ErrPaste, 1, 13}, {"c3(a,b,+)", api.ErrPaste, 1, 18}, {"c3(a,,+)", api.ErrPaste, 1, 18}, {"c3(<,=,=)", api.ErrPaste, 1, 18},
		{"bad(1)", api.ErrPaste, 1, 11}, {"q(a,b)", api.ErrPaste, 1, 13}, {"q2(a)", api.ErrPaste, 1, 10}, {"o", api.ErrPaste, 1, 7}, {"f(o)", api.ErrPaste, 1, 7}, {"f(c(+,a))", api.ErrPaste, 1, 10}, {"twice(a)", api.ErrPaste, 1, 17},
		// The body is taken from the left, whole, ahead of what is expanded of it.
		{"both(a,+)", api.ErrPaste, 1, 13}, {"both(a,b)", api.ErrMany, 1, 15}, {"late(a,+)", api.ErrPaste, 1, 20}, {"late(a,b)", api.ErrMany, 1, 10},
	} {
		fails(t, l, x.s, api.MaxFuel, api.MaxOut, api.Fault{Err: x.err, File: x.file, At: x.at})
	}
	first := defined(t, "g(x,y) x y##+", "k(x,y) y##+ x", "e f()", "f(x,y) 1")
	fails(t, first, "g(e,a)", 99, 99, api.Fault{Err: api.ErrMany, File: 1, At: 2})
	fails(t, first, "g(1,a)", 99, 99, api.Fault{Err: api.ErrPaste, File: 1, At: 12})
	fails(t, first, "k(e,a)", 99, 99, api.Fault{Err: api.ErrPaste, File: 1, At: 10})
}

// A text of more than MaxText bytes is no token.
func TestF3PasteLong(t *testing.T) {
	long := strings.Repeat("a", api.MaxText-1)
	for _, x := range []struct {
		b   string
		err api.Errno
	}{{"b", api.OK}, {"bb", api.ErrPaste}} {
		in := []api.Token{{Kind: api.TokName, Text: "c"}, {Text: "("}, {Kind: api.TokName, Text: long}, {Text: ","}, {Kind: api.TokName, Text: x.b}, {Text: ")"}}
		out, _, f := expand.All(nil, defined(t, "c(x,y) x##y"), in, 9, 9)
		if f.Err != x.err || x.err == api.OK && texts(out) != long+x.b {
			t.Errorf("%d bytes and %d are %d tokens, %v", len(long), len(x.b), len(out), f)
		}
	}
}

// An argument is expanded by itself, once for each time that it stands there; what comes of it is expanded again with what follows.
func TestF3Expanded(t *testing.T) {
	l := defined(t, "A B x", "B A y", "S S + 1", "f(x) [x]", "g f", "two(x) x x", "q(x) x(2)", "nf f (", "r(x) g(x)", "id(x) x", "m(a) f(a", "self(x) self(x) x", "swap(x,y) y x")
	for _, x := range []struct {
		s, want string
		steps   int
	}{
		{"A", "A y x", 5}, {"B", "B x y", 5}, {"B A", "B x y A y x", 10}, {"S", "S + 1", 4}, {"f(A)", "[ A y x ]", 1 + 1 + 5 + 5}, {"two(A)", "A y x A y x", 1 + 1 + 10 + 6}, {"two()", "", 1},
		{"g(3)", "[ 3 ]", 7}, {"g", "f", 2}, {"nf 5)", "[ 5 ]", 7}, {"q(f)", "[ 2 ]", 1 + 1 + 1 + 1 + 1 + 1 + 3}, {"q(g)", "[ 2 ]", 1 + 1 + 2 + 1 + 1 + 1 + 3}, {"r(A)", "[ A y x ]", 20}, {"m(7))", "[ 7 ]", 1 + 1 + 1 + 1 + 1 + 1 + 3},
		{"f(f)(1)", "[ f ] ( 1 )", 9}, {"f(f(1))", "[ [ 1 ] ]", 1 + 4 + 6 + 5}, {"id(f)(1)", "[ 1 ]", 1 + 1 + 1 + 1 + 1 + 1 + 3}, {"id(id)(1)", "id ( 1 )", 1 + 1 + 1 + 4}, {"id(f(f)(1))", "[ f ] ( 1 )", 1 + 7 + 9 + 6},
		{"self(1)", "self ( 1 ) 1", 1 + 1 + 2 + 5}, {"swap(f,(1))", "( 1 ) f", 1 + 4 + 4 + 4}, {"swap((1),f)", "[ 1 ]", 1 + 4 + 4 + 1 + 1 + 1 + 3},
	} {
		comes(t, l, x.s, x.want, x.steps)
	}
}

// spaced writes tokens, with a blank where Space is.
func spaced(l []api.Token) string {
	out := ""
	for _, t := range l {
		if t.Space {
			out += " "
		}
		out += t.Text
	}
	return out
}

// Space: that of the parameter for an argument's first token; that of the called name for the first one of all.
func TestF3Space(t *testing.T) {
	l := defined(t, "f(x) x[x x]x", "E", "A a", "c(x,y) |{x ## y}{ x ##y}", "s(x) +#x # x", "p(x) x+x", "q(x) x x", "t(x,y) x y")
	for _, x := range []struct{ s, want string }{
		{"f(1)", "1[1 1]1"}, {"f( 1 2 )", "1 2[1 2 1 2]1 2"}, {" f(1)", " 1[1 1]1"}, {"x f(\n1)", "x 1[1 1]1"}, {"x f()", "x []"}, {"x\nA", "x a"}, {"A A", "a a"}, {"+A", "+a"}, {"+ A", "+ a"}, {"E+ E+E +", "++ +"},
		{"f(E)", "[]"}, {"f(E 1)", "1[1 1]1"}, {"f(A)", "a[a a]a"}, {"f( A)", "a[a a]a"}, {"f(1 A)", "1 a[1 a 1 a]1 a"}, {"x p(E)", "x +"}, {"xp(1)", "xp(1)"}, {"x p( 1)", "x 1+1"}, {"[q( E)]", "[]"}, {"[t(,1)]", "[1]"}, {"[ t(,1) ]", "[ 1 ]"},
		{"c(1,2)", "|{12}{ 12}"}, {"c( 1 , 2 )", "|{12}{ 12}"}, {"c(,2)", "|{ 2}{2}"}, {"c(,2 3)", "|{ 2 3}{2 3}"}, {"c(1,)", "|{1}{ 1}"}, {"c(,)", "|{}{}"}, {"s( a )", `+"a" "a"`},
	} {
		out, _, f := expand.All(nil, l, read(t, 0, x.s), api.MaxFuel, api.MaxOut)
		if spaced(out) != x.want || f != fine {
			t.Errorf("%q is %q, not %q, %v", x.s, spaced(out), x.want, f)
		}
	}
}

// whole checks all of token i of what comes of s.
func whole(t *testing.T, macros []api.Macro, s string, i int, want api.Token) {
	t.Helper()
	out, _, f := expand.All(sources, macros, read(t, 0, s), api.MaxFuel, api.MaxOut)
	if f != fine || i >= len(out) || !reflect.DeepEqual(out[i], want) {
		t.Errorf("%q: %v %v, not %v at %d", s, out, f, want, i)
	}
}

// by is a call of a macro.
func by(name string, file, at int) api.Call { return api.Call{Name: name, File: file, At: at} }

// A token keeps where it stood, and hides and tells of each call.
func TestF3Tokens(t *testing.T) {
	l := defined(t, "A B x", "B A y", "f(x) [x]", "g f", "q(x) x(2)", "nf f (", "c(x,y) x##y", "AB z", "s(x) #x", "L __LINE__", "id(x) x", "r(x) g(x)")
	type hide = []string
	type calls = []api.Call
	whole(t, l, "x A", 0, api.Token{Kind: api.TokName, Text: "x", First: true, End: 1, Line: 1})
	whole(t, l, "x A", 1, api.Token{Kind: api.TokName, Text: "A", Space: true, File: 1, At: 2, End: 3, Line: 1, Hide: hide{"A", "B"}, Calls: calls{by("A", 0, 2), by("B", 1, 2)}})
	whole(t, l, "x A", 3, api.Token{Kind: api.TokName, Text: "x", Space: true, File: 1, At: 4, End: 5, Line: 1, Hide: hide{"A"}, Calls: calls{by("A", 0, 2)}})
	// An argument's token stays First: that a line begins with it.
	whole(t, l, "f(\n1)", 1, api.Token{Kind: api.TokNum, Text: "1", First: true, At: 3, End: 4, Line: 2, Hide: hide{"f"}, Calls: calls{by("f", 0, 0)}})
	whole(t, l, "\nf (1)", 0, api.Token{Kind: api.TokSign, Text: "[", Space: true, File: 1, At: 5, End: 6, Line: 1, Hide: hide{"f"}, Calls: calls{by("f", 0, 1)}})
	// What the name hid and ) did not is hidden no more.
	whole(t, l, "nf 5)", 1, api.Token{Kind: api.TokNum, Text: "5", At: 3, End: 4, Line: 1, Hide: hide{"f"}, Calls: calls{by("nf", 0, 0), by("f", 1, 3)}})
	whole(t, l, "q(f)", 1, api.Token{Kind: api.TokNum, Text: "2", File: 1, At: 7, End: 8, Line: 1, Hide: hide{"f", "q"}, Calls: calls{by("q", 0, 0), by("f", 0, 2), by("q", 0, 0)}})
	whole(t, l, "r(A)", 1, api.Token{Kind: api.TokName, Text: "A", File: 1, At: 2, End: 3, Line: 1, Hide: hide{"A", "B", "f", "r"}, Calls: calls{by("r", 0, 0), by("g", 1, 5), by("f", 1, 2), by("r", 0, 0), by("A", 0, 2), by("B", 1, 2)}})
	// A name that was made stands nowhere.
	whole(t, l, "c(A,B)", 0, api.Token{Kind: api.TokName, Text: "z", File: 1, At: 3, End: 4, Line: 1, Hide: hide{"AB", "c"}, Calls: calls{by("c", 0, 0), by("AB", -1, 0)}})
	whole(t, l, "c(i,d)(1)", 0, api.Token{Kind: api.TokNum, Text: "1", At: 7, End: 8, Line: 1, Hide: hide{"id"}, Calls: calls{by("c", 0, 0), by("id", -1, 0)}})
	whole(t, l, "c( x,\ny)", 0, api.Token{Kind: api.TokName, Text: "xy", At: 3, End: 4, Line: 1, Hide: hide{"c"}, Calls: calls{by("c", 0, 0)}, Made: api.Pasted})
	whole(t, l, "s(\nx)", 0, api.Token{Kind: api.TokText, Text: `"x"`, File: 1, At: 5, End: 6, Line: 1, Hide: hide{"s"}, Calls: calls{by("s", 0, 0)}, Made: api.Quoted})
	whole(t, l, "id(L)", 0, api.Token{Kind: api.TokNum, Text: "1", File: 1, At: 2, End: 10, Line: 1, Hide: hide{"L", "id"}, Calls: calls{by("id", 0, 0), by("L", 0, 3)}, Made: api.Given})
}

// What was handed in with Hide and Calls keeps them, beside new ones; Hide rises, each name once.
func TestF3HideAndCalls(t *testing.T) {
	name := api.Token{Kind: api.TokName, Text: "f", Hide: []string{"a", "k", "z"}, Calls: []api.Call{{Name: "n", File: 4, At: 2}}, File: 3, At: 9}
	arg := api.Token{Kind: api.TokName, Text: "x", Hide: []string{"b", "k", "y"}, Calls: []api.Call{{Name: "m", File: 5, At: 1}, {Name: "n"}}}
	end := api.Token{Kind: api.TokSign, Text: ")", Hide: []string{"a", "b", "z"}, Calls: []api.Call{{Name: "no"}}}
	open := api.Token{Kind: api.TokSign, Text: "(", Hide: []string{"no"}}
	in := []api.Token{name, open, arg, end, {Kind: api.TokName, Text: "A", Hide: []string{"f"}, Made: api.Quoted, File: 6, At: 6}}
	out, _, f := expand.All(nil, defined(t, "f(p) p;", "A v"), in, 99, 99)
	if f != fine || texts(out) != "x ; v" {
		t.Fatalf("%v %v", out, f)
	}
	for i, want := range [][]string{{"a", "b", "f", "k", "y", "z"}, {"a", "f", "z"}, {"A", "f"}} {
		if !reflect.DeepEqual(out[i].Hide, want) {
			t.Errorf("token %d hides %q, not %q", i, out[i].Hide, want)
		}
	}
	for i, want := range [][]api.Call{{{Name: "n", File: 4, At: 2}, {Name: "f", File: 3, At: 9}, {Name: "m", File: 5, At: 1}, {Name: "n"}}, {{Name: "n", File: 4, At: 2}, {Name: "f", File: 3, At: 9}}, {{Name: "A", File: -1}}} {
		if !reflect.DeepEqual(out[i].Calls, want) {
			t.Errorf("token %d comes of %v, not %v", i, out[i].Calls, want)
		}
	}
	// Two that are pasted hide what both do.
	b := arg
	b.Hide = []string{"c", "k", "y"}
	out, _, f = expand.All(nil, defined(t, "c(p,q) p##q"), []api.Token{{Kind: api.TokName, Text: "c"}, open, arg, {Text: ","}, b, end}, 99, 99)
	if f != fine || len(out) != 1 || out[0].Text != "xx" || !reflect.DeepEqual(out[0].Hide, []string{"c", "k", "y"}) || !reflect.DeepEqual(out[0].Calls, []api.Call{{Name: "c"}, {Name: "m", File: 5, At: 1}, {Name: "n"}}) {
		t.Errorf("%v %v", out, f)
	}
}
