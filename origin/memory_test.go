package origin_test

import (
	"reflect"
	"slices"
	"strings"
	"testing"

	"preamble/api"
	"preamble/lex"
	"preamble/origin"
)

// Z2: neither lists, nor the room behind them, are changed, or looked at.
func TestOnlyReads(t *testing.T) {
	tokens, _ := lex.Tokens(0, "ab cd ef")
	calls := []api.Call{{Name: "ab"}, {Name: "cd", At: 3}, {Name: "no", At: 9}}
	tokens[1].Calls, tokens[2].Calls = calls[:2], calls[:0]
	l := api.Files{{Path: "a", Text: "ab cd ef"}, {Path: "b", Text: "cd"}}
	keptTokens, keptCalls, keptFiles := slices.Clone(tokens), slices.Clone(calls), slices.Clone(l)
	if !origin.Right(l[:1], tokens[1]) || !origin.Right(l[:1], tokens[2]) {
		t.Error("calls behind the list are looked at")
	}
	if s, ok := origin.Span(l[:1], plain("cd", 1, 0, 2)); s != "" || ok || origin.Right(l[:1], plain("cd", 1, 0, 2)) {
		t.Error("files behind the list are looked at")
	}
	if file, at := origin.Outer(tokens[2]); file != 0 || at != 6 {
		t.Errorf("%d %d", file, at)
	}
	if len(origin.At(tokens[:2], 0, 6)) != 0 || !slices.Equal(origin.Here(tokens[:2]), []int{0}) || !slices.Equal(origin.Here(tokens), []int{0, 2}) {
		t.Error("tokens behind the list are looked at")
	}
	if !reflect.DeepEqual(tokens, keptTokens) || !slices.Equal(calls, keptCalls) || !slices.Equal(l, keptFiles) {
		t.Error("what was handed in is changed")
	}
}

// What is answered is the caller's, its spare room too.
func TestNewMemory(t *testing.T) {
	tokens, _ := lex.Tokens(0, strings.Repeat("a ", 40))
	for i := range tokens {
		tokens[i].At, tokens[i].End = 0, 1
	}
	for _, ask := range []func() []int{
		func() []int { return origin.At(tokens, 0, 0) },
		func() []int { return origin.Here(tokens) },
	} {
		one := ask()
		two := ask()
		for i := range one[:cap(one)] {
			one[:cap(one)][i] = -7
		}
		for i, n := range two {
			if n != i {
				t.Errorf("entry %d is %d", i, n)
			}
		}
		if len(two) != len(tokens) || !slices.Equal(ask(), two) {
			t.Error("answers share memory")
		}
	}
}

// A long file, and a token of many calls: each is looked at no further than its name goes.
func TestManyCalls(t *testing.T) {
	l := api.Files{{Path: "a", Text: strings.Repeat("f\\\noo ", 300000)}}
	x := plain("foo", 0, 0, 5)
	x.Calls = slices.Repeat([]api.Call{{Name: "foo"}, {Name: "oo", At: 3}, {Name: "foo", File: -1, At: -1}}, 200000)
	if !origin.Right(l, x) {
		t.Error("it is wrong")
	}
	x.Calls[len(x.Calls)-2].At++
	if origin.Right(l, x) {
		t.Error("it is right")
	}
}
