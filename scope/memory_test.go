package scope_test

import (
	"reflect"
	"slices"
	"testing"

	"preamble/api"
	"preamble/scope"
	"preamble/tree"
)

const sample = "typedef int T; T x = 1, y[x]; T f(T p, int q[x]) { { int p = y; p; } if (p) return q; else while (x = y) { T z = 1; z; } return f(q, p); } int h() { }"

// copied answers a tree with lists of its own.
func copied(n api.Node) api.Node {
	out := n
	out.Kids = nil
	for _, k := range n.Kids {
		out.Kids = append(out.Kids, copied(k))
	}
	return out
}

// roomy answers a tree with room behind all its lists, in which something else stands.
func roomy(n api.Node) api.Node {
	out := n
	out.Kids = nil
	for _, k := range n.Kids {
		out.Kids = append(out.Kids, roomy(k))
	}
	wrong := api.Node{Kind: api.NodeUse, Tok: 0}
	out.Kids = append(out.Kids, wrong, wrong, wrong)[:len(n.Kids)]
	return out
}

// Z2: neither the tokens nor the tree, nor the room behind them, are changed, or looked at.
func TestOnlyReads(t *testing.T) {
	l, n := parsed(t, sample)
	want, f := scope.Resolve(slices.Clip(l), copied(n))
	if f.Err != api.OK || len(want) == 0 {
		t.Fatal(f)
	}
	behind := append(slices.Clone(l), l...)[:len(l)]
	wide := roomy(n)
	kept := roomy(n)
	out, f := scope.Resolve(behind, wide)
	if f.Err != api.OK || !same(out, want) {
		t.Errorf("with room behind: %v and %v, not %v", out, f, want)
	}
	if !reflect.DeepEqual(behind[:2*len(l)], append(slices.Clone(l), l...)) {
		t.Error("tokens are changed")
	}
	if !sameRoom(wide, kept) {
		t.Error("the tree is changed")
	}
}

// sameRoom holds two trees against each other, with three nodes of the room behind each list.
func sameRoom(a, b api.Node) bool {
	if a.Kind != b.Kind || a.Tok != b.Tok || len(a.Kids) != len(b.Kids) {
		return false
	}
	for i := range a.Kids {
		if !sameRoom(a.Kids[i], b.Kids[i]) {
			return false
		}
	}
	return cap(a.Kids) < len(a.Kids)+3 || reflect.DeepEqual(a.Kids[len(a.Kids):len(a.Kids)+3], b.Kids[len(b.Kids):len(b.Kids)+3])
}

// What is answered is new, the room behind it too, and hangs on what was handed in as it was then.
func TestNewMemory(t *testing.T) {
	l, n := parsed(t, sample)
	one, _ := scope.Resolve(l, n)
	two, _ := scope.Resolve(l, n)
	want := slices.Clone(one)
	room := one[:cap(one)]
	for i := range room {
		room[i] = api.Bind{Tok: -7, Decl: -7}
	}
	if !same(two, want) {
		t.Error("two answers share memory")
	}
	three, f := scope.Resolve(l, n)
	if f.Err != api.OK || !same(three, want) {
		t.Error("an answer shares memory with what comes later")
	}
	clear(l)
	clear(n.Kids)
	if !same(three, want) {
		t.Error("an answer changes with what was handed in")
	}
}

// Names that one call made are none to the next one, even if that one ended with a fault.
func TestNothingKept(t *testing.T) {
	l, n := parsed(t, "int x; int y = x; int x;")
	for range 2 {
		if out, f := scope.Resolve(l, n); len(out) != 0 || f != (api.Fault{Err: api.ErrName, At: 22}) {
			t.Errorf("%v and %v", out, f)
		}
		means(t, "int x@1; int y@2;")
	}
	fails(t, api.ErrNone, "int z = ^x;")
}

func TestOfOnlyReads(t *testing.T) {
	l := binds(1, 1, 3, 1, 4, 4, 6, 3, 8, 8)
	before := slices.Clone(l)
	for tok := range 10 {
		for n := range len(l) + 1 {
			if got, want := scope.Of(l[:n], tok), scope.Of(slices.Clip(slices.Clone(l[:n])), tok); got != want {
				t.Errorf("token %d of %v means %d with room behind, and %d without", tok, l[:n], got, want)
			}
		}
	}
	if !same(l, before) {
		t.Error("binds are changed")
	}
}

// Z3: nil and a list without entries are the same.
func TestNothing(t *testing.T) {
	for _, l := range [][]api.Token{nil, {}} {
		n, _ := tree.Parse(l)
		for _, kids := range [][]api.Node{nil, {}} {
			n.Kids = kids
			if out, f := scope.Resolve(l, n); len(out) != 0 || f != (api.Fault{File: -1}) {
				t.Errorf("%v and %v", out, f)
			}
		}
	}
	l, n := parsed(t, "int x; int f() { }")
	n.Kids[1].Kids[2].Kids = []api.Node{}
	n.Kids[0].Kids[0].Kids = []api.Node{}
	if out, f := scope.Resolve(l, n); !same(out, binds(1, 1, 4, 4)) || f != (api.Fault{File: -1}) {
		t.Errorf("%v and %v", out, f)
	}
	for _, l := range [][]api.Bind{nil, {}} {
		if scope.Of(l, 0) != -1 {
			t.Error("what is not there means something")
		}
	}
}
