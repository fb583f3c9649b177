package lex_test

import (
	"reflect"
	"regexp"
	"strconv"
	"strings"
	"testing"

	"preamble/api"
	"preamble/lex"
	"preamble/splice"
)

// brief tells tokens by their kinds and texts; a blank ahead of one is Space, | is First.
func brief(l []api.Token) string {
	const kinds = "?NDCTSOP"
	var out strings.Builder
	for _, t := range l {
		if t.Space {
			out.WriteByte(' ')
		}
		if t.First {
			out.WriteByte('|')
		}
		out.WriteByte(kinds[t.Kind])
		out.WriteString(strconv.Quote(t.Text))
	}
	return out.String()
}

func TestC2Kinds(t *testing.T) {
	for _, x := range []struct{ s, want string }{
		{"", ``}, {" \t\r\n", ``}, {"// a", ``}, {"/**/", ``}, {"/***/", ``}, {"\\\n", ``}, {"//", ``}, {"//\n", ``},
		{"a", `|N"a"`}, {" a", ` |N"a"`}, {"_a1 B", `|N"_a1" N"B"`}, {"a$", `|N"a"O"$"`},
		{"1", `|D"1"`}, {"1.", `|D"1."`}, {".1", `|D".1"`}, {"..1", `|S"."D".1"`}, {"1..2", `|D"1..2"`}, {".a", `|S"."N"a"`}, {"...1", `|S"..."D"1"`},
		{"1a_Z", `|D"1a_Z"`}, {"1e+2", `|D"1e+2"`}, {"1E-2", `|D"1E-2"`}, {"1e+-2", `|D"1e+"S"-"D"2"`}, {"1+2", `|D"1"S"+"D"2"`}, {"1p+2", `|D"1p"S"+"D"2"`},
		{"0xe+1", `|D"0xe+1"`}, {"1.e-", `|D"1.e-"`}, {"1ee+e-", `|D"1ee+e-"`}, {"1e +", `|D"1e" S"+"`}, {"e+1", `|N"e"S"+"D"1"`}, {"1e\\\n+2", `|D"1e+2"`}, {"1e++", `|D"1e+"S"+"`},
		{`""`, `|T"\"\""`}, {`''`, `|C"''"`}, {`"a'b"`, `|T"\"a'b\""`}, {`'a"b'`, `|C"'a\"b'"`}, {`"\""`, `|T"\"\\\"\""`}, {`"\\"a`, `|T"\"\\\\\""N"a"`},
		{`"/*"//"`, `|T"\"/*\""`}, {`"a""b"`, `|T"\"a\""T"\"b\""`}, {`'\\''\''`, `|C"'\\\\'"C"'\\''"`}, {"\"\r\t\"", `|T"\"\r\t\""`}, {"\"\\\n\"", `|T"\"\""`},
		{"L\"a\"", `|N"L"T"\"a\""`}, {"1'a'", `|D"1"C"'a'"`},
		{"x+++y", `|N"x"S"++"S"+"N"y"`}, {"<<<=", `|S"<<"S"<="`}, {"<<==", `|S"<<="S"="`}, {"->>=", `|S"->"S">="`}, {">>>=", `|S">>"S">="`}, {"....", `|S"..."S"."`}, {"..", `|S"."S"."`}, {"###", `|S"##"S"#"`}, {"&&&", `|S"&&"S"&"`}, {"<:%:", `|S"<"S":"S"%"S":"`},
		{"+\\\n+", `|S"++"`}, {"+ +", `|S"+" S"+"`}, {"*/", `|S"*"S"/"`},
		{"@`$", `|O"@"O"` + "`" + `"O"$"`}, {"\\", `|O"\\"`}, {"\\a", `|O"\\"N"a"`}, {"\x00\x80\f\v", `|O"\x00"O"\x80"O"\f"O"\v"`}, {"\u00e4", `|O"\xc3"O"\xa4"`},
		{"a/**/b", `|N"a" N"b"`}, {"/*/ */a", ` |N"a"`}, {"/* /* */a", ` |N"a"`}, {"/*//*/a", ` |N"a"`}, {"/*\"*/a", ` |N"a"`}, {"//\"'/*\na", ` |N"a"`}, {"/\\\n*a*\\\n/b", ` |N"b"`}, {"/\\\n/ x\\\n y\nb", ` |N"b"`}, {"a/b", `|N"a"S"/"N"b"`}, {"a//b*/\nc", `|N"a" |N"c"`},
	} {
		if got := brief(read(t, x.s)); got != x.want {
			t.Errorf("Tokens(%q) is %s, not %s", x.s, got, x.want)
		}
	}
}

func TestC2First(t *testing.T) {
	for _, x := range []struct{ s, want string }{
		{"a b", `|N"a" N"b"`}, {"a\nb", `|N"a" |N"b"`}, {"a\r\nb", `|N"a" |N"b"`}, {"a\rb", `|N"a" N"b"`}, {"a\tb", `|N"a" N"b"`},
		{"a\n b", `|N"a" |N"b"`}, {"a \nb", `|N"a" |N"b"`}, {"a\\\nb", `|N"ab"`}, {"a \\\nb", `|N"a" N"b"`}, {"a\\\n\nb", `|N"a" |N"b"`},
		{"+\\\n-", `|S"+"S"-"`}, {"a//\nb", `|N"a" |N"b"`}, {"a//\\\n\nb", `|N"a" |N"b"`},
		// A comment is one blank: its line feeds part no lines, those around it do.
		{"a/*\n*/b", `|N"a" N"b"`}, {"a\n/*\n*/b", `|N"a" |N"b"`}, {"a/*\n*/\nb", `|N"a" |N"b"`}, {"/*\n*/a", ` |N"a"`},
		// What is left of a \ and two ends of lines is a \ at a line's end.
		{"\\\\\n\na", `|O"\\" |N"a"`},
	} {
		if got := brief(read(t, x.s)); got != x.want {
			t.Errorf("Tokens(%q) is %s, not %s", x.s, got, x.want)
		}
	}
}

func TestC2Path(t *testing.T) {
	for _, x := range []struct{ s, want string }{
		{"#include <a>", `|S"#"N"include" P"<a>"`},
		{"#include<a>", `|S"#"N"include"P"<a>"`},
		{" # include <a/b.h> <c>", ` |S"#" N"include" P"<a/b.h>" S"<"N"c"S">"`},
		{"x\n#include <a>", `|N"x" |S"#"N"include" P"<a>"`},
		{"#include <>", `|S"#"N"include" P"<>"`},
		{"#include <<=>>", `|S"#"N"include" P"<<=>"S">"`},
		{"#include < a \" /* // \\ >", `|S"#"N"include" P"< a \" /* // \\ >"`},
		{"#include <a\\\nb>", `|S"#"N"include" P"<ab>"`},
		{"#\\\ninc\\\nlude\\\n<a>", `|S"#"N"include"P"<a>"`},
		{"#/*\n*/include/*\n*/<a>", `|S"#" N"include" P"<a>"`},
		{"#include \"a\"", `|S"#"N"include" T"\"a\""`},
		{"#include <a", `|S"#"N"include" S"<"N"a"`},
		{"#include <=a", `|S"#"N"include" S"<="N"a"`},
		{"#include <a\n>", `|S"#"N"include" S"<"N"a" |S">"`},
		{"#include\n<a>", `|S"#"N"include" |S"<"N"a"S">"`},
		{"#\ninclude <a>", `|S"#" |N"include" S"<"N"a"S">"`},
		{"x #include <a>", `|N"x" S"#"N"include" S"<"N"a"S">"`},
		{"##include <a>", `|S"##"N"include" S"<"N"a"S">"`},
		{"#includes <a>", `|S"#"N"includes" S"<"N"a"S">"`},
		{"#Include <a>", `|S"#"N"Include" S"<"N"a"S">"`},
		{"#\"include\" <a>", `|S"#"T"\"include\"" S"<"N"a"S">"`},
		{"#include x <a>", `|S"#"N"include" N"x" S"<"N"a"S">"`},
		{"#define include <a>", `|S"#"N"define" N"include" S"<"N"a"S">"`},
		{"include <a>", `|N"include" S"<"N"a"S">"`},
		{"<a>", `|S"<"N"a"S">"`},
	} {
		if got := brief(read(t, x.s)); got != x.want {
			t.Errorf("Tokens(%q) is %s, not %s", x.s, got, x.want)
		}
	}
}

func TestC2Places(t *testing.T) {
	const s = "\\\nab\\\r\ncd /*\n*/\\\n+\\\n= x\r\n\r\n\"y\\\nz\" 1\\\n"
	want := []api.Token{
		{Kind: api.TokName, Text: "abcd", First: true, File: -7, At: 2, End: 9, Line: 2},
		{Kind: api.TokSign, Text: "+=", Space: true, File: -7, At: 17, End: 21, Line: 5},
		{Kind: api.TokName, Text: "x", Space: true, File: -7, At: 22, End: 23, Line: 6},
		{Kind: api.TokText, Text: `"yz"`, Space: true, First: true, File: -7, At: 27, End: 33, Line: 8},
		{Kind: api.TokNum, Text: "1", Space: true, File: -7, At: 34, End: 35, Line: 9},
	}
	got, f := lex.Tokens(-7, s)
	if f != (api.Fault{File: -1}) || !reflect.DeepEqual(got, want) {
		t.Errorf("Tokens(%q) is\n%v %v, not\n%v", s, got, f, want)
	}
	// What is answered is the caller's.
	for i := range got[:cap(got)] {
		got[:cap(got)][i] = api.Token{}
	}
	if again, _ := lex.Tokens(-7, s); !reflect.DeepEqual(again, want) {
		t.Error("tokens are shared")
	}
}

func TestC2Faults(t *testing.T) {
	for _, x := range []struct {
		s  string
		at int
	}{
		{`"`, 0}, {`'`, 0}, {`"a`, 0}, {`a "b" "c`, 6}, {`'"`, 0}, {`"'`, 0}, {`"\"`, 0}, {`"\`, 0}, {`'\'`, 0}, {`"\\\"`, 0}, {`don't`, 3},
		{"\"a\n\"", 0}, {"x\n'a\r\n'", 2}, {"\"\\\\\n\n\"", 0}, {"\"a\\\nb", 0}, {"\\\nx\\\r\n\"a", 6},
		{"/*", 0}, {"/*/", 0}, {"/**", 0}, {"/* * /", 0}, {"a /*b*/ /*", 8}, {"a\\\n/\\\n*", 3}, {"a\r\n/* \"", 3},
		// The first one from the left is told.
		{"'a\n/*", 0}, {"/* 'a", 0}, {"a \"b\n'c", 2}, {"#include <a>\"", 12}, {"#include <a\n/*>", 12}, {"#include '<a>", 9},
	} {
		want := api.Fault{Err: api.ErrEnd, File: 3, At: x.at}
		if l, f := lex.Tokens(3, x.s); f != want || len(l) != 0 {
			t.Errorf("Tokens(%q) is %v, %v, not %v", x.s, l, f, want)
		}
	}
}

func TestC2Much(t *testing.T) {
	for _, s := range []string{"x", "+", "\n", "\\\n"} {
		full := strings.Repeat(s, api.MaxText/len(s))
		if _, f := lex.Tokens(3, full); f != (api.Fault{File: -1}) {
			t.Errorf("%d bytes have fault %v", len(full), f)
		}
		if l, f := lex.Tokens(3, full+"\n"); f != (api.Fault{Err: api.ErrMuch, File: 3}) || len(l) != 0 {
			t.Errorf("%d bytes have %v, %v", len(full)+1, len(l), f)
		}
	}
	if got := read(t, strings.Repeat("+\n", api.MaxText/2)); len(got) != api.MaxText/2 || got[len(got)-1].Line != api.MaxText/2 {
		t.Errorf("%d tokens", len(got))
	}
	// A text that is too long is told of ahead of what is in it.
	if _, f := lex.Tokens(3, "a'"+strings.Repeat("x", api.MaxText)); f != (api.Fault{Err: api.ErrMuch, File: 3}) {
		t.Errorf("the fault is %v", f)
	}
}

// each calls f with every text of at most n bytes of letters.
func each(letters string, n int, f func(string)) {
	var grow func(string)
	grow = func(s string) {
		f(s)
		if len(s) == n {
			return
		}
		for i := range len(letters) {
			grow(s + letters[i:i+1])
		}
	}
	grow("")
}

// patterns are the document's words once more, as regular expressions: blanks, a comment, and the kinds in turn.
var patterns = []struct {
	kind int
	*regexp.Regexp
}{
	{0, regexp.MustCompile(`^(?:[ \t\n\r]|//[^\n]*)`)},
	{0, regexp.MustCompile(`^/\*(?s:.*?)\*/`)},
	{-1, regexp.MustCompile(`^/\*`)},
	{api.TokName, regexp.MustCompile(`^[A-Za-z_][A-Za-z_0-9]*`)},
	{api.TokNum, regexp.MustCompile(`^\.?[0-9](?:[eE][-+]|[A-Za-z_0-9.])*`)},
	{api.TokText, regexp.MustCompile(`^"(?:\\[^\n]|[^"\\\n])*"`)},
	{api.TokChar, regexp.MustCompile(`^'(?:\\[^\n]|[^'\\\n])*'`)},
	{-1, regexp.MustCompile(`^["']`)},
	{api.TokSign, regexp.MustCompile(`^(?:\.\.\.|<<=|>>=|->|\+\+|--|<<|>>|&&|\|\||##|[-<>=!+*/%&|^]=|[][(){}.&*+~!/%<>^|?:;=,#-])`)},
	{api.TokOther, regexp.MustCompile(`^(?s:.)`)},
}

// plainly reads s by the patterns; it knows of no paths.
func plainly(file int, s string) ([]api.Token, api.Fault) {
	x := splice.Text(s)
	var out []api.Token
	space, first := false, true
next:
	for at := 0; at < len(x.Text); {
		for _, p := range patterns {
			got := p.FindString(x.Text[at:])
			if got == "" {
				continue
			}
			end := at + len(got)
			switch p.kind {
			case -1:
				return nil, api.Fault{Err: api.ErrEnd, File: file, At: x.At[at]}
			case 0:
				space, first = true, first || got == "\n"
			default:
				out = append(out, api.Token{
					Kind: p.kind, Text: got, Space: space, First: first, File: file,
					At: x.At[at], End: x.At[end-1] + 1, Line: 1 + strings.Count(s[:x.At[at]], "\n"),
				})
				space, first = false, false
			}
			at = end
			continue next
		}
	}
	return out, api.Fault{File: -1}
}

func TestC2Every(t *testing.T) {
	for _, x := range []struct {
		letters string
		most    int
	}{
		{"a\"'\\\n", 6}, {"/*\n\\ a", 6}, {"1.e+-_", 6}, {"<>=-.&|", 5}, {"#+*/%^!=", 5}, {"a1\r\n\\+ ", 5}, {"[](){}~?:;,@\t", 3},
	} {
		each(x.letters, x.most, func(s string) {
			got, f := lex.Tokens(1, s)
			want, g := plainly(1, s)
			if f != g || len(got) != len(want) || len(got) > 0 && !reflect.DeepEqual(got, want) {
				t.Fatalf("Tokens(%q) is\n%v %v, not\n%v %v", s, got, f, want, g)
			}
		})
	}
}

func TestC2EveryPath(t *testing.T) {
	path := regexp.MustCompile(`^[ \r]*(<[^>\n]*>)`)
	each("<> \n\r\"/", 5, func(s string) {
		want := ""
		if m := path.FindStringSubmatch(splice.Text(s).Text); m != nil {
			want = m[1]
		}
		l, f := lex.Tokens(0, "#include"+s)
		if f.Err != api.OK {
			return
		}
		for i, x := range l {
			if (x.Kind == api.TokPath) != (i == 2 && want != "") || i == 2 && want != "" && x.Text != want {
				t.Fatalf("Tokens(%q) is %s", "#include"+s, brief(l))
			}
		}
	})
}

func TestC2Pairs(t *testing.T) {
	// All bytes, by twos: whatever comes, the tokens and what is blank between them are the text.
	for a := range 256 {
		for b := range 256 {
			s := string([]byte{byte(a), byte(b)})
			l, f := lex.Tokens(0, s)
			want, g := plainlyBytes(s)
			if f != g || brief(l) != brief(want) {
				t.Fatalf("Tokens(%q) is %s %v, not %s %v", s, brief(l), f, brief(want), g)
			}
		}
	}
}

// plainlyBytes reads bytes above 127, which the patterns take for parts of runes, as one that is no part of any other token.
func plainlyBytes(s string) ([]api.Token, api.Fault) {
	low := func(c byte) byte {
		if c > 127 {
			return '@'
		}
		return c
	}
	out, f := plainly(0, string([]byte{low(s[0]), low(s[1])}))
	for i := range out {
		out[i].Text = s[out[i].At:out[i].End]
	}
	return out, f
}
