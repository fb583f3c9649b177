package lex_test

import (
	"reflect"
	"slices"
	"strings"
	"testing"

	"preamble/api"
	"preamble/lex"
)

const letters = "abcdefghijklmnopqrstuvwxyzABCDEFGHIJKLMNOPQRSTUVWXYZ_"
const digits = "0123456789"

// read answers the tokens of a text that has no fault.
func read(t *testing.T, s string) []api.Token {
	t.Helper()
	l, f := lex.Tokens(0, s)
	if f != (api.Fault{File: -1}) {
		t.Fatalf("Tokens(%q) has fault %v", s, f)
	}
	return l
}

func texts(l []api.Token) []string {
	var out []string
	for _, t := range l {
		out = append(out, t.Text)
	}
	return out
}

func TestC1Byte(t *testing.T) {
	for c := range 256 {
		one := string([]byte{byte(c)})
		letter := strings.Contains(letters, one)
		digit := strings.Contains(digits, one)
		if lex.Letter(byte(c)) != letter {
			t.Errorf("Letter(%q) is %v", one, !letter)
		}
		if lex.Digit(byte(c)) != digit {
			t.Errorf("Digit(%q) is %v", one, !digit)
		}
		if lex.Name(one) != letter {
			t.Errorf("Name(%q) is %v", one, !letter)
		}
		for _, s := range []string{"a" + one, "a" + one + "b"} {
			if lex.Name(s) != (letter || digit) {
				t.Errorf("Name(%q) is %v", s, !(letter || digit))
			}
		}
	}
}

func TestC1Name(t *testing.T) {
	for _, s := range []string{"a", "_", "Z9", "a1b2", "__LINE__", "int", strings.Repeat("x", api.MaxText+1)} {
		if !lex.Name(s) {
			t.Errorf("%q is a name", s)
		}
	}
	for _, s := range []string{"", "1", "1a", " a", "a ", "a b", "a\n", "a\\\nb", "a.b", "\xc3\xa4", "a\x00", "...", "a+"} {
		if lex.Name(s) {
			t.Errorf("%q is no name", s)
		}
	}
}

func TestC1Signs(t *testing.T) {
	want := []string{
		"...", "<<=", ">>=",
		"->", "++", "--", "<<", ">>", "<=", ">=", "==", "!=", "&&", "||", "+=", "-=", "*=", "/=", "%=", "&=", "|=", "^=", "##",
		"[", "]", "(", ")", "{", "}", ".", "&", "*", "+", "-", "~", "!", "/", "%", "<", ">", "^", "|", "?", ":", ";", "=", ",", "#",
	}
	got := lex.Signs()
	if !slices.Equal(got, want) {
		t.Errorf("Signs is %q", got)
	}
	// What is answered is the caller's.
	for i := range got[:cap(got)] {
		got[:cap(got)][i] = "x"
	}
	if !slices.Equal(lex.Signs(), want) {
		t.Error("Signs are shared")
	}
	for _, s := range want {
		l := read(t, s)
		if len(l) != 1 || l[0].Kind != api.TokSign || l[0].Text != s {
			t.Errorf("Tokens(%q) is %v", s, l)
		}
	}
}

func TestC3Lines(t *testing.T) {
	for _, x := range []struct {
		s    string
		want []string
	}{
		{"", nil},
		{"\n\n", nil},
		{"a", []string{"a"}},
		{"a b", []string{"a b"}},
		{"a\nb", []string{"a", "b"}},
		{"\n a b\n\n\nc\n", []string{"a b", "c"}},
		{"a\\\n b\nc", []string{"a b", "c"}},
		{"a /*\n*/ b\nc", []string{"a b", "c"}},
		{"a // b\nc", []string{"a", "c"}},
	} {
		var got []string
		for _, line := range lex.Lines(read(t, x.s)) {
			got = append(got, strings.Join(texts(line), " "))
		}
		if !slices.Equal(got, x.want) {
			t.Errorf("Lines of %q are %q, not %q", x.s, got, x.want)
		}
	}
}

func TestC3LinesOfAnyList(t *testing.T) {
	// What comes ahead of the first First is a line too; nothing of a token is lost.
	a := api.Token{Kind: 99, Text: "a", Hide: []string{"h"}, Calls: []api.Call{{Name: "c"}}, Made: api.Pasted}
	b := api.Token{Text: "b", First: true, Line: -3}
	for _, x := range []struct {
		l    []api.Token
		want [][]api.Token
	}{
		{[]api.Token{a}, [][]api.Token{{a}}},
		{[]api.Token{a, a}, [][]api.Token{{a, a}}},
		{[]api.Token{a, b}, [][]api.Token{{a}, {b}}},
		{[]api.Token{b, a, b, b, a, a}, [][]api.Token{{b, a}, {b}, {b, a, a}}},
	} {
		if got := lex.Lines(x.l); !reflect.DeepEqual(got, x.want) {
			t.Errorf("Lines(%v) is %v", x.l, got)
		}
	}
	if len(lex.Lines(nil)) != 0 || len(lex.Lines([]api.Token{})) != 0 {
		t.Error("nothing has lines")
	}
}

func TestC3LinesMemory(t *testing.T) {
	full := read(t, "a b\nc\nd e f\ng")
	l := full[:len(full)-1]
	got := lex.Lines(l)
	for _, line := range got {
		for i := range line[:cap(line)] {
			line[:cap(line)][i] = api.Token{Text: "x"}
		}
		if want := slices.Repeat([]string{"x"}, len(line)); !slices.Equal(texts(line), want) {
			t.Errorf("a line is %q", texts(line))
		}
	}
	if got := texts(full); !slices.Equal(got, []string{"a", "b", "c", "d", "e", "f", "g"}) {
		t.Errorf("lines share memory with the list: %q", got)
	}
	got = lex.Lines(l)
	got[0] = append(got[0], api.Token{Text: "y"})
	got[1] = append(got[1], api.Token{Text: "z"})
	if got[1][0].Text != "c" || got[2][0].Text != "d" {
		t.Error("lines share memory with each other")
	}
}

func TestC3Join(t *testing.T) {
	for _, x := range []struct{ s, want string }{
		{"", ""},
		{"  a", "a"},
		{"a  b", "a b"},
		{"x+++y", "x+++y"},
		{"x + ++ y", "x + ++ y"},
		{"a\nb", "a b"},
		{"a/**/b", "a b"},
		{"f(a,b);", "f(a,b);"},
		{"a\\\nb\\\n c", "ab c"},
		{"#include <a>", "#include <a>"},
		{"\"a\"\t'b'", "\"a\" 'b'"},
	} {
		if got := lex.Join(read(t, x.s)); got != x.want {
			t.Errorf("Join of %q is %q, not %q", x.s, got, x.want)
		}
	}
}

func TestC3JoinOfAnyList(t *testing.T) {
	for _, x := range []struct {
		texts []string
		want  string
	}{
		{nil, ""},
		{[]string{"a"}, "a"},
		{[]string{""}, ""},
		{[]string{"a", "b"}, "a b"},
		{[]string{"+", "+", "+"}, "+ + +"},
		{[]string{"-", "x", "-", "-", ">"}, "-x- - >"},
		{[]string{"a", "(", "1", ")"}, "a(1)"},
		{[]string{"1", ".", "e", "+"}, "1 .e+"},
		{[]string{"/", "*", "/", "/"}, "/ */ /"},
		{[]string{"", "a", "", ""}, " a  "},
		{[]string{"a b", ";"}, "a b ;"},
		{[]string{"\"", "a"}, "\" a"},
		// Only neighbours are held against each other.
		{[]string{".", ".", "."}, "..."},
	} {
		var l []api.Token
		for _, s := range x.texts {
			l = append(l, api.Token{Text: s})
		}
		if got := lex.Join(l); got != x.want {
			t.Errorf("Join(%q) is %q, not %q", x.texts, got, x.want)
		}
	}
	// Space counts but for the first one; First does not.
	l := []api.Token{{Text: "(", Space: true, First: true}, {Text: ")", Space: true}, {Text: ";", First: true}}
	if got := lex.Join(l); got != "( );" {
		t.Errorf("Join is %q", got)
	}
	if l[0].Text != "(" || !l[0].Space || lex.Join(l[:1]) != "(" {
		t.Error("the list is changed, or what is behind it is read")
	}
}

func TestC3Sticks(t *testing.T) {
	for _, x := range [][2]string{
		{"", ""}, {"", "a"}, {"a", ""}, {" ", "a"}, {"a", " "}, {"a ", "b"}, {"a b", ";"}, {"a", "\n"},
		{"a", "b"}, {"a", "1"}, {"1", "a"}, {"1", "."}, {".", "1"}, {"1e", "+"}, {"1E", "-1"}, {"1", "2"}, {"1", ".5"},
		{"+", "+"}, {"+", "="}, {"-", ">"}, {"<", "<"}, {"<<", "="}, {"#", "#"}, {"/", "/"}, {"/", "*"}, {"/", "="}, {"&", "&"}, {"|", "|"}, {"!", "="},
		{"<", "<="}, {"..", "."}, {"#include", "<a>"},
		{"\"", "a"}, {"a", "'"}, {"\"a", "b\""}, {"a", "/*"}, {"/**/", "a"}, {"a", "//"}, {"a", "\\\nb"}, {"a", "\\\n+"}, {"\\", "\n+"},
		{strings.Repeat("x", api.MaxText), "+"}, {"+", strings.Repeat("x", api.MaxText)},
	} {
		if !lex.Sticks(x[0], x[1]) {
			t.Errorf("%q and %q stick", x[0], x[1])
		}
	}
	for _, x := range [][2]string{
		{"a", "+"}, {"+", "a"}, {"1", "+"}, {"1", "-"}, {"1p", "+"}, {"a", "."}, {"a", ".5"}, {"e", "+"}, {"+", "-"}, {"=", "+"}, {"=", "!"}, {"+", "1"},
		{".", "."}, {".", "a"}, {"<", "-"}, {">", "<"}, {"*", "/"}, {"##", "#"}, {"...", "."}, {"++", "+"},
		{"\"x\"", "\"y\""}, {"\"x\"", "'y'"}, {"L", "'y'"}, {"\"x\"", "a"}, {"1", "\"x\""}, {"@", "@"}, {"\\", "a"}, {"\xc3", "\xa4"}, {"(", ")"},
		{strings.Repeat("x", api.MaxText-1), "+"},
	} {
		if lex.Sticks(x[0], x[1]) {
			t.Errorf("%q and %q don't stick", x[0], x[1])
		}
	}
}

func TestC3Again(t *testing.T) {
	// A line's tokens, written without what was blank between them, are the same ones.
	each("a1+.\"/*e \n", 5, func(s string) {
		l, _ := lex.Tokens(0, s)
		for _, line := range lex.Lines(l) {
			if again := read(t, lex.Join(line)); !slices.Equal(texts(again), texts(line)) {
				t.Fatalf("a line of %q is %q, and then %q", s, texts(line), texts(again))
			}
		}
	})
}
