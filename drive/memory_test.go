package drive_test

import (
	"reflect"
	"slices"
	"strings"
	"testing"

	"preamble/api"
	"preamble/drive"
)

var memory = []string{
	"", "x A f(A)", "#define B A\nB B\n#include \"b\"\nB", "#undef A\nA f(1)", "#define A\n", "#if defined A && f(A)\nA\n#elif 1\n#endif", "#include \"b\"\n#include \"b\"\nf(f(A))", "#error", "#if A",
}

func memoryMacros(t *testing.T) []api.Macro { return defined(t, 0, "A 1 + x", "f(x) x x #x", "E") }

// copied answers macros, and what is in them, as memory of their own.
func copied(l []api.Macro) []api.Macro {
	out := slices.Clone(l)
	for i, m := range out {
		out[i].Params, out[i].Body = slices.Clone(m.Params), slices.Clone(m.Body)
	}
	return out
}

// Z2: neither lists, nor the room behind them, are changed, or looked at.
func TestOnlyReads(t *testing.T) {
	for _, s := range memory {
		l := append(several(s, "A\n#define C f(A)\nC"), api.Source{Path: "0", Text: "\""})
		macros := append(memoryMacros(t), defined(t, 0, "x 2", "C 3")...)
		for i := range macros {
			macros[i].Body = append(macros[i].Body, api.Token{Text: "?"})[:len(macros[i].Body)]
		}
		keptFiles, kept := slices.Clone(l), copied(macros)
		out, after, f := drive.Run(l[:2], 0, macros[:3], room)
		alone, after2, f2 := drive.Run(slices.Clip(slices.Clone(l[:2])), 0, slices.Clip(copied(macros[:3])), room)
		if !reflect.DeepEqual(out, alone) || !reflect.DeepEqual(after, after2) || f != f2 {
			t.Errorf("%q hangs on what stands behind what is handed in", s)
		}
		if !reflect.DeepEqual(l, keptFiles) || !reflect.DeepEqual(macros, kept) {
			t.Errorf("%q changes what was handed in", s)
		}
		for _, m := range macros {
			if m.Body[:len(m.Body)+1][len(m.Body)].Text != "?" {
				t.Errorf("%q writes behind a body", s)
			}
		}
	}
}

// What is answered stays as it is, whatever becomes of what was handed in, and the other way round.
func TestNothingKept(t *testing.T) {
	for _, s := range memory {
		l, macros := several(s, "A"), memoryMacros(t)
		out, after, _ := drive.Run(l, 0, macros, room)
		tokens, read, kept := slices.Clone(out.Tokens), slices.Clone(out.Read), slices.Clone(after)
		for i := range macros {
			macros[i] = api.Macro{Name: "?"}
		}
		for i := range l {
			l[i] = api.Source{Path: "?"}
		}
		if !slices.EqualFunc(out.Tokens, tokens, sameToken) || !slices.Equal(out.Read, read) || !reflect.DeepEqual(slices.Clone(after), kept) {
			t.Errorf("%q: what is answered is what was handed in", s)
		}
		macros = memoryMacros(t)
		out, after, _ = drive.Run(several(s, "A"), 0, macros, room)
		for i := range after[:cap(after)] {
			after[:cap(after)][i] = api.Macro{Name: "?"}
		}
		for i := range out.Tokens[:cap(out.Tokens)] {
			out.Tokens[:cap(out.Tokens)][i] = api.Token{Text: "?"}
		}
		if !reflect.DeepEqual(macros, memoryMacros(t)) {
			t.Errorf("%q: what is answered shares memory with what was handed in", s)
		}
	}
}

func sameToken(a, b api.Token) bool { return reflect.DeepEqual(a, b) }

// No two tokens of an answer share their lists, nor the room behind them.
func TestListsOfTheirOwn(t *testing.T) {
	for _, s := range memory {
		out, after, _ := drive.Run(several(s, "A f(A)"), 0, memoryMacros(t), room)
		for i := range out.Tokens {
			again, afterAgain, _ := drive.Run(several(s, "A f(A)"), 0, memoryMacros(t), room)
			x := out.Tokens[i]
			for j := range x.Hide[:cap(x.Hide)] {
				x.Hide[:cap(x.Hide)][j] = "?"
			}
			for j := range x.Calls[:cap(x.Calls)] {
				x.Calls[:cap(x.Calls)][j] = api.Call{Name: "?"}
			}
			if !slices.EqualFunc(out.Tokens[i+1:], again.Tokens[i+1:], sameToken) || !reflect.DeepEqual(after, afterAgain) {
				t.Errorf("%q: token %d shares its lists", s, i)
			}
		}
	}
}

// Z3: nil and a list without entries are the same.
func TestNilIsEmpty(t *testing.T) {
	for _, s := range append(memory, "A\n#undef A") {
		out, after, f := drive.Run(several(s, "b"), 0, nil, room)
		out2, after2, f2 := drive.Run(several(s, "b"), 0, []api.Macro{}, room)
		if !reflect.DeepEqual(out, out2) || names(after) != names(after2) || f != f2 {
			t.Errorf("%q: %v %v %v, not %v %v %v", s, out2, after2, f2, out, after, f)
		}
	}
	for _, l := range []api.Files{nil, {}} {
		if _, _, f := drive.Run(l, 0, nil, room); f != within(api.ErrNone, -1, 0) {
			t.Errorf("%v", f)
		}
	}
}

// A file that is included very often is read as often.
func TestManyIncludes(t *testing.T) {
	row := func(name string) string { return strings.Repeat("#include \""+name+"\"\n", 30) }
	out, _, f := drive.Run(several(row("b"), row("c"), row("d"), "#if 0\n"+strings.Repeat("x ", 1400)+"\n#endif"), 0, nil, api.Limits{Fuel: api.MaxFuel, Deep: 3, Out: 1})
	if f != within(api.ErrFuel, 3, 4) || out.Read != nil {
		t.Errorf("%v %v", len(out.Read), f)
	}
	out, _, f = drive.Run(several(row("b"), row("c"), row("d"), "#ifdef A\n"+strings.Repeat("x ", 1400)+"\n#endif"), 0, nil, api.Limits{Deep: 3})
	if f != fine || len(out.Read) != 1+30+900+27000 || len(out.Tokens) != 0 {
		t.Errorf("%v %v", len(out.Read), f)
	}
}

// Nothing is promised of macros that were never parsed, but that a run ends, and answers.
func TestAnyMacros(t *testing.T) {
	sign := func(s string) api.Token { return api.Token{Kind: api.TokSign, Text: s} }
	name := func(s string) api.Token { return api.Token{Kind: api.TokName, Text: s} }
	for _, m := range []api.Macro{
		{}, {Name: "A", Call: true, Body: []api.Token{sign("#")}}, {Name: "A", Params: []string{"x"}, Body: []api.Token{name("x")}}, {Name: "A", Body: []api.Token{sign("##")}}, {Name: "A", Call: true, More: true, Body: []api.Token{name("x"), sign("##")}}, {Name: "__LINE__"}, {Name: "A", Body: []api.Token{{Kind: 99, File: -7, At: -7}}},
	} {
		for _, s := range []string{"A", "A()", "#if A\n#endif", "#if A()\n#endif\nA", "#undef A", "#define A"} {
			drive.Run(alone(s), 0, []api.Macro{m, m}, room)
		}
	}
}
