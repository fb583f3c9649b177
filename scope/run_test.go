package scope_test

import (
	"testing"

	"preamble/api"
	"preamble/drive"
	"preamble/lex"
	"preamble/scope"
	"preamble/tree"
)

// run resolves what comes of file m.c, beside a.h.
func run(t *testing.T, header, text string) ([]api.Token, []api.Bind, api.Fault) {
	t.Helper()
	l := api.Files{{Path: "a.h", Text: header}, {Path: "m.c", Text: text}}
	out, _, f := drive.Run(l, 1, nil, api.Limits{Fuel: api.MaxFuel, Out: api.MaxOut, Deep: api.MaxDeep})
	if f.Err != api.OK {
		t.Fatalf("%q: %v", text, f)
	}
	n, f := tree.Parse(out.Tokens)
	if f.Err != api.OK {
		t.Fatalf("%q: %v", text, f)
	}
	binds, f := scope.Resolve(out.Tokens, n)
	return out.Tokens, binds, f
}

// Names that came of macros, and of other files, mean what they would if they stood there.
func TestJ1Run(t *testing.T) {
	tokens, binds, f := run(t, "#define SET(x, y) x = y\n#define GLUE(x, y) x##y\nint GLUE(a, b);\n", "#include \"a.h\"\nint f(int c) { SET(ab, GLUE(c, )); return GLUE(a, b); }\n")
	if got := lex.Join(tokens); got != "int ab; int f(int c) { ab = c; return ab; }" {
		t.Fatal(got)
	}
	var want []api.Bind
	for i, x := range tokens {
		switch {
		case x.Text == "ab":
			want = append(want, api.Bind{Tok: i, Decl: 1})
		case x.Text == "f":
			want = append(want, api.Bind{Tok: i, Decl: 4})
		case x.Text == "c":
			want = append(want, api.Bind{Tok: i, Decl: 7})
		}
	}
	if f != (api.Fault{File: -1}) || !same(binds, want) {
		t.Errorf("%v and %v, not %v", binds, f, want)
	}
}

// A fault is where its token stands: in the file that has it, in a macro's body too.
func TestJ1RunFaults(t *testing.T) {
	for _, k := range []struct {
		header, text string
		want         api.Fault
	}{
		{"int x;\nint x;\n", "#include \"a.h\"\nint y;\n", api.Fault{Err: api.ErrName, File: 0, At: 11}},
		{"int x;\n", "#include \"a.h\"\nint x;\n", api.Fault{Err: api.ErrName, File: 1, At: 19}},
		{"int x;\n", "#include \"a.h\"\n#include \"a.h\"\n", api.Fault{Err: api.ErrName, File: 0, At: 4}},
		{"#define M x + y\n", "#include \"a.h\"\nint x = M;\n", api.Fault{Err: api.ErrNone, File: 0, At: 14}},
		{"#define M(x) x\n", "#include \"a.h\"\nint x = M(y);\n", api.Fault{Err: api.ErrNone, File: 1, At: 25}},
	} {
		if _, binds, f := run(t, k.header, k.text); f != k.want || len(binds) != 0 {
			t.Errorf("%q: %v and %v, not %v", k.text, binds, f, k.want)
		}
	}
}
