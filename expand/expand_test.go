package expand_test

import (
	"reflect"
	"slices"
	"strconv"
	"strings"
	"testing"

	"preamble/api"
	"preamble/expand"
	"preamble/lex"
	"preamble/macro"
)

// read answers the tokens of s, in that file.
func read(t *testing.T, file int, s string) []api.Token {
	t.Helper()
	l, f := lex.Tokens(file, s)
	if f.Err != api.OK {
		t.Fatalf("%q can't be read: %v", s, f)
	}
	return l
}

// defined answers the macros that texts tell of; all of them stand in file 1.
func defined(t *testing.T, all ...string) []api.Macro {
	t.Helper()
	var out []api.Macro
	for _, s := range all {
		m, f := macro.Parse(read(t, 1, s))
		if f.Err != api.OK {
			t.Fatalf("%q is no macro: %v", s, f)
		}
		l, err := macro.Define(out, m)
		if err != api.OK {
			t.Fatalf("%q is not taken: %d", s, err)
		}
		out = l
	}
	return out
}

var fine = api.Fault{File: -1}

var sources = api.Files{{Path: "p/q.c"}, {Path: "r.h"}}

// texts answers what tokens are, written with a blank between.
func texts(l []api.Token) string {
	var out []string
	for _, t := range l {
		out = append(out, t.Text)
	}
	return strings.Join(out, " ")
}

// comes checks what comes of s: all texts, and how many steps it took.
func comes(t *testing.T, macros []api.Macro, s, want string, steps int) {
	t.Helper()
	out, left, f := expand.All(sources, macros, read(t, 0, s), api.MaxFuel, api.MaxOut)
	if f != fine || texts(out) != want || api.MaxFuel-left != steps {
		t.Errorf("%q comes to %q in %d steps, %v, not to %q in %d", s, texts(out), api.MaxFuel-left, f, want, steps)
	}
}

// fails checks what is wrong with s, with so many steps, and tokens that may come out.
func fails(t *testing.T, macros []api.Macro, s string, fuel, most int, want api.Fault) {
	t.Helper()
	out, left, f := expand.All(sources, macros, read(t, 0, s), fuel, most)
	if f != want || out != nil || left != 0 {
		t.Errorf("%q, %d, %d: %q %d %v, not %v", s, fuel, most, texts(out), left, f, want)
	}
}

func TestF1Range(t *testing.T) {
	for _, x := range [][2]int{{-1, 0}, {0, -1}, {-1, -1}, {api.MaxFuel + 1, 0}, {0, api.MaxOut + 1}, {1 << 62, 5}, {5, 1 << 62}, {-1 << 63, 5}, {5, -1 << 63}} {
		for _, s := range []string{"", "a", "f("} {
			fails(t, defined(t, "f(x) x"), s, x[0], x[1], api.Fault{Err: api.ErrRange, File: -1})
		}
	}
	for _, x := range [][2]int{{0, 0}, {api.MaxFuel, 0}, {0, api.MaxOut}, {api.MaxFuel, api.MaxOut}, {7, 9}} {
		out, left, f := expand.All(nil, nil, nil, x[0], x[1])
		if len(out) != 0 || left != x[0] || f != fine {
			t.Errorf("%v: %v %d %v", x, out, left, f)
		}
		out, left, f = expand.All(api.Files{}, []api.Macro{}, []api.Token{}, x[0], x[1])
		if len(out) != 0 || left != x[0] || f != fine {
			t.Errorf("%v: %v %d %v", x, out, left, f)
		}
	}
}

// What is no macro comes out as it was, to the last field.
func TestF1ComesOut(t *testing.T) {
	l := read(t, 0, "a 1 'c' \"d\" + @ \n#include <e>\nf x")
	l = append(l,
		api.Token{Kind: api.TokName, Text: "A", Hide: []string{"A", "B"}, Calls: []api.Call{{Name: "B", File: 1, At: 2}}, Made: api.Pasted, File: 9, At: 8, End: 7, Line: 6, First: true, Space: true},
		api.Token{Kind: api.TokText, Text: "A"}, api.Token{Kind: api.TokOther, Text: "A"}, api.Token{Text: "A"}, api.Token{Kind: 99, Text: "A"}, api.Token{Kind: -1, Text: "__LINE__"}, api.Token{Kind: api.TokNum, Text: "__FILE__"}, api.Token{}, api.Token{Kind: api.TokName})
	out, left, f := expand.All(sources, defined(t, "A no", "f() no"), l, 100, 100)
	if !reflect.DeepEqual(out, l) || left != 100-len(l) || f != fine {
		t.Errorf("%v %d %v, not %v", out, left, f, l)
	}
}

func TestF1Given(t *testing.T) {
	at := api.Token{Kind: api.TokName, Space: true, First: true, At: 5, End: 6, Hide: []string{"__FILE__", "__LINE__"}, Calls: []api.Call{{Name: "X", File: 1, At: 2}}, Made: api.Pasted}
	for _, x := range []struct {
		name       string
		file, line int
		kind       int
		want       string
	}{
		{"__LINE__", 0, 1, api.TokNum, "1"}, {"__LINE__", -1, 3000, api.TokNum, "3000"}, {"__LINE__", 7, 0, api.TokNum, "0"}, {"__LINE__", 0, -3, api.TokNum, "-3"},
		{"__FILE__", 0, 1, api.TokText, `"p/q.c"`}, {"__FILE__", 1, 1, api.TokText, `"r.h"`}, {"__FILE__", 2, 1, api.TokText, `""`}, {"__FILE__", -1, 1, api.TokText, `""`}, {"__FILE__", 1 << 62, 1, api.TokText, `""`}, {"__FILE__", -1 << 63, 1, api.TokText, `""`},
		{"__VA_ARGS__", 0, 4, api.TokName, "__VA_ARGS__"}, {"defined", 0, 4, api.TokName, "defined"}, {"__line__", 0, 4, api.TokName, "__line__"},
	} {
		in, want := at, at
		in.Text, in.File, in.Line = x.name, x.file, x.line
		want.Kind, want.Text, want.File, want.Line = x.kind, x.want, x.file, x.line
		if x.kind != api.TokName {
			want.Made = api.Given
		}
		out, left, f := expand.All(sources, nil, []api.Token{in}, 1, 1)
		if !reflect.DeepEqual(out, []api.Token{want}) || left != 0 || f != fine {
			t.Errorf("%v is %v %d %v, not %v", in, out, left, f, want)
		}
	}
	comes(t, nil, "a\n__LINE__ \\\n __LINE__ x", "a 2 3 x", 4)
	comes(t, defined(t, "L __LINE__ __FILE__"), "\n\nL", `1 "r.h"`, 3)
	comes(t, defined(t, "c(x,y) x##y", "id(x) x"), "c(__LI,NE__)\nid(\n__LINE__)", "1 3", 4+4)
	comes(t, defined(t, "q(x) #x x##x"), "q(__FILE__)", `"__FILE__" __FILE____FILE__`, 4)
}

func TestF1Called(t *testing.T) {
	l := defined(t, "A a b", "E", "f(x) [x]", "h() !")
	for _, x := range []struct {
		s, want string
		steps   int
	}{
		{"", "", 0}, {"A", "a b", 3}, {"x A y", "x a b y", 5}, {"AA A1", "AA A1", 2}, {"A(1)", "a b ( 1 )", 6}, {"E", "", 1}, {"E E E", "", 3}, {"E x E", "x", 3},
		{"f", "f", 1}, {"f f", "f f", 2}, {"f x", "f x", 2}, {"f )", "f )", 2}, {"f(1)", "[ 1 ]", 6}, {"f  ( 1 )", "[ 1 ]", 6}, {"f\n(1)", "[ 1 ]", 6}, {"f/**/(1)", "[ 1 ]", 6}, {"f E (1)", "f ( 1 )", 5}, {"f f(1)", "f [ 1 ]", 7}, {"(f)(1)", "( f ) ( 1 )", 6},
		{"h", "h", 1}, {"h()", "!", 2}, {"h ( ) h", "! h", 3}, {"\"A\" 'A'", "\"A\" 'A'", 2},
	} {
		comes(t, l, x.s, x.want, x.steps)
	}
	// A ( that is not read as a sign is one by its text.
	out, _, f := expand.All(nil, l, []api.Token{{Kind: api.TokName, Text: "h"}, {Text: "("}, {Text: ")"}}, 9, 9)
	if texts(out) != "!" || f != fine {
		t.Errorf("h ( ) is %q %v", texts(out), f)
	}
}

// The first macro of a name is the one that counts, whatever order they have.
func TestF1AnyOrder(t *testing.T) {
	all := []string{"A B x", "B A y", "f(x) [x A]", "g f"}
	for range all {
		all = append(all[1:], all[0])
		comes(t, defined(t, all...), "A g(B)", "A y x [ B x y A y x ]", 5+1+1+1+5+10)
	}
}

func TestF1Fuel(t *testing.T) {
	l := defined(t, "A a b", "E", "f(x) [x]", "two(x,y) y x", "v(...) __VA_ARGS__")
	for _, x := range []struct {
		s string
		// where what each step is taken for stands: file, and byte.
		at [][2]int
	}{
		{"a b", [][2]int{{0, 0}, {0, 2}}},
		{" A x", [][2]int{{0, 1}, {1, 2}, {1, 4}, {0, 3}}},
		{"E E", [][2]int{{0, 0}, {0, 2}}},
		{"f(1)", [][2]int{{0, 0}, {0, 2}, {0, 2}, {1, 5}, {0, 2}, {1, 7}}},
		{"f((1))", [][2]int{{0, 0}, {0, 2}, {0, 3}, {0, 4}, {0, 2}, {0, 3}, {0, 4}, {1, 5}, {0, 2}, {0, 3}, {0, 4}, {1, 7}}},
		// Arguments are read first, each of them is expanded where its parameter stands; a comma that parts is no step.
		{"two(a, A)", [][2]int{{0, 0}, {0, 4}, {0, 7}, {0, 7}, {1, 2}, {1, 4}, {0, 4}, {1, 2}, {1, 4}, {0, 4}}},
		// Those that More takes are steps where they are expanded, and come out.
		{"v(a,b)", [][2]int{{0, 0}, {0, 2}, {0, 4}, {0, 2}, {0, 3}, {0, 4}, {0, 2}, {0, 3}, {0, 4}}},
		{"v((a,b))", [][2]int{{0, 0}, {0, 2}, {0, 3}, {0, 4}, {0, 5}, {0, 6}, {0, 2}, {0, 3}, {0, 4}, {0, 5}, {0, 6}, {0, 2}, {0, 3}, {0, 4}, {0, 5}, {0, 6}}},
	} {
		for fuel, at := range x.at {
			fails(t, l, x.s, fuel, api.MaxOut, api.Fault{Err: api.ErrFuel, File: at[0], At: at[1]})
		}
		for _, more := range []int{0, 1, 7} {
			if _, left, f := expand.All(nil, l, read(t, 0, x.s), len(x.at)+more, api.MaxOut); left != more || f != fine {
				t.Errorf("%q: %d left, not %d, %v", x.s, left, more, f)
			}
		}
	}
}

func TestF1Much(t *testing.T) {
	l := defined(t, "A a b c", "f(x) x", "g(x) #x", "c(x) x##1", "no(x)", "two(x) x x")
	for _, x := range []struct {
		s        string
		most     int
		file, at int
	}{
		{"a", 0, 0, 0}, {"a b", 1, 0, 2}, {"A", 0, 1, 2}, {"A", 1, 1, 4}, {"A", 2, 1, 6}, {"x A", 3, 1, 6}, {"__LINE__ __FILE__", 1, 0, 9}, {"__LINE__", 0, 0, 0},
		{"f(a b c)", 2, 0, 6}, {"f(A)", 2, 1, 6}, {"x f(a b)", 2, 0, 6}, {"x f(A)", 2, 1, 6}, {"two(a b)", 3, 0, 6}, {"c(a b c)", 2, 0, 6}, {"f(f(f(a b)))", 1, 0, 8},
	} {
		fails(t, l, x.s, api.MaxFuel, x.most, api.Fault{Err: api.ErrMuch, File: x.file, At: x.at})
	}
	for _, x := range []struct {
		s, want string
		most    int
	}{
		{"", "", 0}, {"no(1 2 3)", "", 0}, {"A", "a b c", 3}, {"f(A) x", "a b c x", 4}, {"f(A) f(A)", "a b c a b c", 6}, {"g(a b c d)", `"a b c d"`, 1}, {"two(a b)", "a b a b", 4},
	} {
		out, _, f := expand.All(nil, l, read(t, 0, x.s), api.MaxFuel, x.most)
		if texts(out) != x.want || f != fine {
			t.Errorf("%q, %d, is %q %v, not %q", x.s, x.most, texts(out), f, x.want)
		}
	}
	// An argument may have more come out than all else has, and is held against most by itself.
	fails(t, defined(t, "f(x) s(x)", "s(x) #x"), "f(a b c)", api.MaxFuel, 2, api.Fault{Err: api.ErrMuch, File: 0, At: 6})
	// Where no step is left, and no more may come out, the step is told.
	fails(t, l, "a", 0, 0, api.Fault{Err: api.ErrFuel})
}

func TestF1Most(t *testing.T) {
	for n := api.MaxOut - 1; n <= api.MaxOut+1; n++ {
		l := slices.Repeat(read(t, 0, "a"), n)
		out, left, f := expand.All(nil, nil, l, api.MaxFuel, api.MaxOut)
		if n <= api.MaxOut && (len(out) != n || left != api.MaxFuel-n || f != fine) || n > api.MaxOut && (out != nil || left != 0 || f.Err != api.ErrMuch) {
			t.Errorf("of %d tokens %d come, %d %v", n, len(out), left, f)
		}
	}
	e := defined(t, "E")
	for n := api.MaxFuel - 1; n <= api.MaxFuel+1; n++ {
		_, left, f := expand.All(nil, e, slices.Repeat(read(t, 0, "E"), n), api.MaxFuel, 0)
		if n <= api.MaxFuel && (left != api.MaxFuel-n || f != fine) || n > api.MaxFuel && (left != 0 || f.Err != api.ErrFuel) {
			t.Errorf("of %d steps: %d %v", n, left, f)
		}
	}
}

// However long a list is, however macros call each other, and however deep calls stand in one another, it ends.
func TestF1Ends(t *testing.T) {
	var all []string
	for i := range api.MaxMacros {
		body := ""
		for j := range 10 {
			body += " M" + strconv.Itoa((i+j)%api.MaxMacros)
		}
		all = append(all, "M"+strconv.Itoa(i)+body)
	}
	if _, _, f := expand.All(nil, defined(t, all...), read(t, 0, "M0"), api.MaxFuel, api.MaxOut); f.Err != api.ErrFuel && f.Err != api.ErrMuch {
		t.Errorf("M0 is %v", f)
	}
	if _, _, f := expand.All(nil, defined(t, "f(x) x g", "g(x) f"), read(t, 0, strings.Repeat("f", 1)+strings.Repeat("(1)", 900)), api.MaxFuel, api.MaxOut); f.Err != api.ErrFuel && f.Err != api.OK {
		t.Errorf("f(1)(1).. is %v", f)
	}
	f1 := defined(t, "f(x) x")
	for _, n := range []int{10, 40, 100, 900} {
		out, _, f := expand.All(nil, f1, read(t, 0, strings.Repeat("f(", n)+"1"+strings.Repeat(")", n)), api.MaxFuel, api.MaxOut)
		if f.Err != api.ErrFuel && (f != fine || texts(out) != "1" || len(out[0].Calls) != n) {
			t.Errorf("%d calls are %q %v", n, texts(out), f)
		}
	}
	long := slices.Repeat(read(t, 0, "f (1)"), 1<<20)
	for range 20 {
		if _, _, f := expand.All(nil, f1, long, api.MaxFuel, api.MaxOut); f.Err != api.ErrFuel {
			t.Errorf("%d tokens are %v", len(long), f)
		}
	}
	// Looking for a ) takes no steps, and is given up but once.
	open := slices.Repeat(read(t, 0, "f (1"), 1<<20)
	for range 20 {
		if _, _, f := expand.All(nil, f1, open, 1, api.MaxOut); f != (api.Fault{Err: api.ErrEnd}) {
			t.Errorf("%d tokens are %v", len(open), f)
		}
	}
}
