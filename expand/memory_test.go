package expand_test

import (
	"reflect"
	"slices"
	"testing"

	"preamble/api"
	"preamble/expand"
)

// deep answers l, and what is in it, as memory of its own.
func deep(l []api.Token) []api.Token {
	out := slices.Clone(l)
	for i := range out {
		out[i].Hide, out[i].Calls = slices.Clone(out[i].Hide), slices.Clone(out[i].Calls)
	}
	return out
}

var memory = []string{"a A b", "f(A) f(1)", "two(A, x y)", "p(a,b)", "s(a b)", "E", "v(1,A,f(2))", "g(A)", "a", "__LINE__ __FILE__", "f(f(f(A)))"}

func memoryMacros(t *testing.T) []api.Macro {
	return defined(t, "A B x", "B A y", "f(x) [x x]", "two(x,y) y x y", "p(x,y) x##y x##y", "s(x) #x #x", "E", "v(...) __VA_ARGS__ __VA_ARGS__", "g f")
}

// Z2: neither the list, nor the room behind it, nor macros are changed, or looked at.
func TestOnlyReads(t *testing.T) {
	for _, s := range append(memory, "f(", "f(1", "f", "g") {
		macros := memoryMacros(t)
		l := read(t, 0, s)
		n := len(l)
		full := append(l, read(t, 0, "(1) 2")...)
		kept, same := deep(full), memoryMacros(t)
		out, left, f := expand.All(sources, macros, full[:n], 200, 50)
		alone, left2, f2 := expand.All(sources, macros, slices.Clip(deep(full[:n])), 200, 50)
		if !reflect.DeepEqual(out, alone) || left != left2 || f != f2 {
			t.Errorf("%q hangs on what stands behind it", s)
		}
		if !reflect.DeepEqual(full, kept) || !reflect.DeepEqual(macros, same) {
			t.Errorf("%q changes what was handed in", s)
		}
	}
}

// The room behind lists within tokens is left alone too.
func TestRoomWithin(t *testing.T) {
	hide := []string{"h", "k", "l"}
	calls := []api.Call{{Name: "h"}, {Name: "k"}, {Name: "l"}}
	l := read(t, 0, "f(A) A two(1,f(A)) p(A,b)")
	for i := range l {
		l[i].Hide, l[i].Calls = hide[:1], calls[:1]
	}
	_, _, f := expand.All(sources, memoryMacros(t), l, api.MaxFuel, api.MaxOut)
	if f != fine || !slices.Equal(hide, []string{"h", "k", "l"}) || !slices.Equal(calls, []api.Call{{Name: "h"}, {Name: "k"}, {Name: "l"}}) {
		t.Errorf("%v %v %v", hide, calls, f)
	}
}

// What is answered stays as it is, whatever becomes of what was handed in.
func TestNothingKept(t *testing.T) {
	for _, s := range memory {
		macros, l := memoryMacros(t), read(t, 0, s)
		out, _, _ := expand.All(sources, macros, l, api.MaxFuel, api.MaxOut)
		kept := deep(out)
		for _, m := range macros {
			for i := range m.Body {
				m.Body[i] = api.Token{Text: "?"}
			}
		}
		for i := range l {
			l[i] = api.Token{Text: "?"}
		}
		if !reflect.DeepEqual(out, kept) {
			t.Errorf("%q: what is answered is what was handed in", s)
		}
	}
}

// No two lists of an answer share memory, nor room: changing one of them, and what stands behind it, changes no other one.
func TestListsOfTheirOwn(t *testing.T) {
	for _, s := range memory {
		macros, l := memoryMacros(t), read(t, 0, s)
		out, _, _ := expand.All(sources, macros, l, api.MaxFuel, api.MaxOut)
		for i := range out {
			kept, keptMacros, keptList := deep(out), memoryMacros(t), read(t, 0, s)
			hide, calls := out[i].Hide, out[i].Calls
			for j := range hide[:cap(hide)] {
				hide[:cap(hide)][j] = "?"
			}
			for j := range calls[:cap(calls)] {
				calls[:cap(calls)][j] = api.Call{Name: "?"}
			}
			kept[i].Hide, kept[i].Calls = hide, calls
			if !reflect.DeepEqual(out, kept) || !reflect.DeepEqual(macros, keptMacros) || !reflect.DeepEqual(l, keptList) {
				t.Errorf("%q: token %d shares its lists", s, i)
			}
		}
		for i := range out[:cap(out)] {
			out[:cap(out)][i] = api.Token{Text: "?"}
		}
		if !reflect.DeepEqual(l, read(t, 0, s)) || !reflect.DeepEqual(macros, memoryMacros(t)) {
			t.Errorf("%q: what is answered shares memory with what was handed in", s)
		}
	}
}
