package rename_test

import (
	"reflect"
	"slices"
	"testing"

	"preamble/api"
	"preamble/rename"
)

// sample answers files in which x, at byte 4 of file 0, may be called otherwise.
func sample() (l api.Files, root int) {
	return made("int x;\n#define USE(v) x + v\n", "#include \"h0.h\"\nint f(int a) { return USE(x) + USE(a); }\n")
}

// Z2: neither the files, nor the room behind them, are changed, or looked at.
func TestOnlyReads(t *testing.T) {
	l, root := sample()
	want, edits, _ := rename.To(slices.Clip(l), root, 0, 4, "y", room)
	if len(want) != 2 || len(edits) != 3 {
		t.Fatalf("%q and %v", want, edits)
	}
	all := append(slices.Clone(l), api.Source{Path: "..", Text: "/*"}, api.Source{Path: "z.c", Text: "int x;"})
	before := slices.Clone(all)
	behind := all[:len(l)]
	out, got, f := rename.To(behind, root, 0, 4, "y", room)
	if f != (api.Fault{File: -1}) || !reflect.DeepEqual(out, want) || !reflect.DeepEqual(got, edits) {
		t.Errorf("with room behind: %q, %v and %v", out, got, f)
	}
	if _, _, _, f := rename.Read(behind, root, room); f != (api.Fault{File: -1}) {
		t.Errorf("with room behind: %v", f)
	}
	if !reflect.DeepEqual(all, before) {
		t.Errorf("the files are changed: %q, not %q", all, before)
	}
}

// What is answered is new, the room behind it too: who spoils one answer spoils neither another one, nor what was handed in.
func TestNewMemory(t *testing.T) {
	l, root := sample()
	kept := slices.Clone(l)
	one, edits, _ := rename.To(l, root, 0, 4, "y", room)
	two, more, _ := rename.To(l, root, 0, 4, "y", room)
	want, wantEdits := slices.Clone(two), slices.Clone(more)
	clear(one[:cap(one)])
	clear(edits[:cap(edits)])
	if !reflect.DeepEqual(two, want) || !reflect.DeepEqual(more, wantEdits) || !reflect.DeepEqual(l, kept) {
		t.Error("To's answers share memory")
	}
	clear(l)
	if !reflect.DeepEqual(two, want) || !reflect.DeepEqual(more, wantEdits) {
		t.Error("To's answer changes with what was handed in")
	}
}

func TestReadNewMemory(t *testing.T) {
	l, root := sample()
	kept := slices.Clone(l)
	out, n, binds, _ := rename.Read(l, root, room)
	other, m, more, _ := rename.Read(l, root, room)
	must, tree, _, _ := rename.Read(l, root, room)
	wantBinds := slices.Clone(more)
	spoil(out)
	clear(n.Kids[:cap(n.Kids)])
	clear(binds[:cap(binds)])
	if !reflect.DeepEqual(other, must) || !reflect.DeepEqual(m, tree) || !reflect.DeepEqual(more, wantBinds) || !reflect.DeepEqual(l, kept) {
		t.Error("Read's answers share memory")
	}
	clear(l)
	if !reflect.DeepEqual(other, must) || !reflect.DeepEqual(m, tree) || !reflect.DeepEqual(more, wantBinds) {
		t.Error("Read's answer changes with what was handed in")
	}
}

// spoil makes noughts of all that o has.
func spoil(o api.Out) {
	for _, t := range o.Tokens {
		clear(t.Hide[:cap(t.Hide)])
		clear(t.Calls[:cap(t.Calls)])
	}
	clear(o.Tokens[:cap(o.Tokens)])
	clear(o.Read[:cap(o.Read)])
}

// One call leaves nothing behind for the next one, even if it ended with a fault.
func TestNothingKept(t *testing.T) {
	l, root := sample()
	broken, _ := made("int x;\n#define USE(v) x + v\n", "#include \"h0.h\"\nint f(int a) { return q; }\n")
	want, edits, _ := rename.To(l, root, 0, 4, "y", room)
	for _, name := range []string{"a", "f", "int", "USE"} {
		rename.To(l, root, 0, 4, name, room)
		rename.To(broken, root, 0, 4, name, room)
		out, got, f := rename.To(l, root, 0, 4, "y", room)
		if f != (api.Fault{File: -1}) || !reflect.DeepEqual(out, want) || !reflect.DeepEqual(got, edits) {
			t.Errorf("behind %s: %q, %v and %v", name, out, got, f)
		}
	}
}
