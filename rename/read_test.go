package rename_test

import (
	"reflect"
	"strings"
	"testing"

	"preamble/api"
	"preamble/lex"
	"preamble/rename"
)

func TestK1Read(t *testing.T) {
	l, root := made("#pragma once\n#define U g\nint g;\n", "#include \"h0.h\"\n#include \"h0.h\"\nint x = U;\n")
	out, n, binds, f := rename.Read(l, root, room)
	if got := lex.Join(out.Tokens); f != (api.Fault{File: -1}) || got != "int g; int x = g;" || !reflect.DeepEqual(out.Read, []int{1, 0}) {
		t.Errorf("%q, %v and %v", got, out.Read, f)
	}
	last := out.Tokens[6]
	if last.File != 0 || last.At != 23 || !reflect.DeepEqual(last.Calls, []api.Call{{Name: "U", File: 1, At: 40}}) {
		t.Errorf("%v", last)
	}
	decl := func(typ, name int, kids ...api.Node) api.Node {
		return api.Node{Kind: api.NodeDecl, Tok: -1, Kids: []api.Node{{Kind: api.NodeType, Tok: typ}, {Kind: api.NodeName, Tok: name, Kids: kids}}}
	}
	want := api.Node{Kind: api.NodeUnit, Tok: -1, Kids: []api.Node{decl(0, 1), decl(3, 4, api.Node{Kind: api.NodeUse, Tok: 6})}}
	if !sameTree(n, want) {
		t.Errorf("%v, not %v", n, want)
	}
	if want := []api.Bind{{Tok: 1, Decl: 1}, {Tok: 4, Decl: 4}, {Tok: 6, Decl: 1}}; !reflect.DeepEqual(binds, want) {
		t.Errorf("%v, not %v", binds, want)
	}
}

// sameTree holds two trees against each other: nil and no Kids are the same.
func sameTree(a, b api.Node) bool {
	if a.Kind != b.Kind || a.Tok != b.Tok || len(a.Kids) != len(b.Kids) {
		return false
	}
	for i := range a.Kids {
		if !sameTree(a.Kids[i], b.Kids[i]) {
			return false
		}
	}
	return true
}

// A file of which nothing comes out is read without a fault; and has nothing that could be called otherwise.
func TestK1ReadNothing(t *testing.T) {
	for _, s := range []string{"", " ", "\n\n", "// x", "#define x y\n", "#ifdef Q\nint x\n#endif\n"} {
		l, root := made(s)
		out, n, binds, f := rename.Read(l, root, api.Limits{})
		if f != (api.Fault{File: -1}) || len(out.Tokens) != 0 || !reflect.DeepEqual(out.Read, []int{0}) || len(binds) != 0 || !sameTree(n, api.Node{Kind: api.NodeUnit, Tok: -1}) {
			t.Errorf("%q: %v, %v, %v and %v", s, out, n, binds, f)
		}
		for at := -1; at < 9; at++ {
			refuses(t, l, root, 0, at, "y", api.Limits{}, api.Fault{Err: api.ErrNone, File: -1})
		}
	}
}

// faulty: Read tells this fault, and nothing beside it; so does To, whatever else is wrong.
func faulty(t *testing.T, l api.Files, root int, limits api.Limits, want api.Fault) {
	t.Helper()
	out, n, binds, f := rename.Read(l, root, limits)
	if f != want || len(out.Tokens) != 0 || len(out.Read) != 0 || !reflect.DeepEqual(n, api.Node{}) || len(binds) != 0 {
		t.Errorf("%.200q: %v, %v, %v and %v, not %v", l, out, n, binds, f, want)
	}
	for _, name := range []string{"y", "int", ""} {
		for _, at := range []int{-1, 4, 9999} {
			refuses(t, l, root, 0, at, name, limits, want)
		}
	}
}

// What stands behind the mark ^ is where the last file of these has its fault.
func TestK1ReadFaults(t *testing.T) {
	for _, k := range []struct {
		err  api.Errno
		text string
	}{
		// Run's
		{api.ErrEnd, "int x; ^/*"},
		{api.ErrEnd, "#^if 1\nint x;"},
		{api.ErrSaid, "int x;\n#^error x\n"},
		{api.ErrKind, "#^what\n"},
		{api.ErrNone, "#include ^\"x.h\"\n"},
		{api.ErrMany, "#define F(a) a\nint ^F(x, y);"},
		{api.ErrPaste, "#define C(a) a##^+\nint C(x);"},
		{api.ErrName, "#define x 1\n#define ^x 2\n"},
		// Parse's
		{api.ErrForm, "int x^"},
		{api.ErrForm, "int x = 1 ^2;"},
		{api.ErrForm, "^x;"},
		{api.ErrForm, "int ^int;"},
		{api.ErrForm, "#define M ^1\nint x; int M;"},
		{api.ErrEnd, "int f() {^"},
		{api.ErrEnd, "int x =^"},
		{api.ErrDeep, "int x = " + strings.Repeat("(", 15) + "^1" + strings.Repeat(")", 15) + ";"},
		// Resolve's
		{api.ErrName, "int x; int ^x;"},
		{api.ErrName, "int f(int a) { int ^a; }"},
		{api.ErrNone, "int f() { return ^q; }"},
		{api.ErrNone, "#define M(a) ^q + a\nint x = M(1);"},
		// Run's ahead of Parse's, that ahead of Resolve's
		{api.ErrSaid, "int x; int x\n#^error\n"},
		{api.ErrForm, "int x; int x; int y^"},
		{api.ErrName, "int x; int ^x; int y = q;"},
	} {
		l, root := made("int h;", k.text)
		at := strings.Index(k.text, "^")
		l[root].Text = k.text[:at] + k.text[at+1:]
		faulty(t, l, root, room, api.Fault{Err: k.err, File: root, At: at})
	}
}

// A fault is told where it stands: in another file, or in none.
func TestK1ReadFaultsElsewhere(t *testing.T) {
	l, root := made("int h", "#include \"h0.h\"\n")
	faulty(t, l, root, room, api.Fault{Err: api.ErrForm, File: 0, At: 5})
	l, root = made("int h;", "#include \"h0.h\"\n#include \"h0.h\"\n")
	faulty(t, l, root, room, api.Fault{Err: api.ErrName, File: 0, At: 4})
	for _, root := range []int{-1, 2, 1 << 62, -1 << 63} {
		faulty(t, l, root, room, api.Fault{Err: api.ErrNone, File: -1})
		faulty(t, nil, root, room, api.Fault{Err: api.ErrNone, File: -1})
	}
	faulty(t, nil, 0, room, api.Fault{Err: api.ErrNone, File: -1})
	faulty(t, api.Files{}, 0, room, api.Fault{Err: api.ErrNone, File: -1})
	faulty(t, api.Files{{Path: "b"}, {Path: "a"}}, 0, room, api.Fault{Err: api.ErrForm, File: 1})
	faulty(t, api.Files{{Path: "a"}, {Path: ".."}}, 0, room, api.Fault{Err: api.ErrName, File: 1})
	faulty(t, api.Files{{Path: "a"}, {Path: "b", Text: strings.Repeat(" ", api.MaxText+1)}}, 0, room, api.Fault{Err: api.ErrMuch, File: 1})
	faulty(t, make(api.Files, api.MaxFiles+1), 0, room, api.Fault{Err: api.ErrMany, File: -1})
}

func TestK1ReadLimits(t *testing.T) {
	l, root := made("int x;\n", "#include \"h0.h\"\nint y = x;\n")
	for _, limits := range []api.Limits{
		{Fuel: -1, Out: 99, Deep: 1}, {Fuel: api.MaxFuel + 1, Out: 99, Deep: 1}, {Fuel: 99, Out: -1, Deep: 1}, {Fuel: 99, Out: api.MaxOut + 1, Deep: 1},
		{Fuel: 99, Out: 99, Deep: -1}, {Fuel: 99, Out: 99, Deep: api.MaxDeep + 1}, {Fuel: -1 << 63, Out: 1<<63 - 1, Deep: 1 << 62},
	} {
		faulty(t, l, root, limits, api.Fault{Err: api.ErrRange, File: -1})
	}
	faulty(t, l, root, api.Limits{Fuel: 99, Out: 99}, api.Fault{Err: api.ErrDeep, File: 1, At: 9})
	faulty(t, l, root, api.Limits{Fuel: 7, Out: 8, Deep: 1}, api.Fault{Err: api.ErrFuel, File: 1, At: 25})
	faulty(t, l, root, api.Limits{Fuel: 8, Out: 7, Deep: 1}, api.Fault{Err: api.ErrMuch, File: 1, At: 16})
	tight := api.Limits{Fuel: 8, Out: 8, Deep: 1}
	if out, _, binds, f := rename.Read(l, root, tight); f != (api.Fault{File: -1}) || len(out.Tokens) != 8 || len(binds) != 3 {
		t.Errorf("%v, %v and %v", out, binds, f)
	}
	if out, edits, f := rename.To(l, root, 0, 4, "z", tight); f != (api.Fault{File: -1}) || len(out) != 2 || len(edits) != 2 {
		t.Errorf("%v, %v and %v", out, edits, f)
	}
}
