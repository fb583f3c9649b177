package tree_test

import (
	"reflect"
	"slices"
	"testing"

	"preamble/api"
	"preamble/tree"
)

const sample = "typedef int T, *U[3]; T x = f(1, -a[2], (b, c)), y; U g(T p, int q[4]) { { ; } if (p) return q; else while (x = y) { T z = 1; z; } return; } int h() { }"

// Z2: neither the list, nor the room behind it, is changed, or looked at.
func TestOnlyReads(t *testing.T) {
	l := read(t, sample)
	before := slices.Clone(l)
	for n := range len(l) + 1 {
		with, f := tree.Parse(l[:n])
		without, g := tree.Parse(slices.Clip(slices.Clone(l[:n])))
		if f != g || !reflect.DeepEqual(with, without) {
			t.Errorf("%d tokens: %v, and with room behind them %v", n, g, f)
		}
	}
	if !reflect.DeepEqual(l, before) {
		t.Error("tokens are changed")
	}
}

// What is answered hangs on the list as it was: whoever handed it in may change it then.
func TestNothingKept(t *testing.T) {
	l := read(t, sample)
	n, _ := tree.Parse(l)
	want := shape(l, n)
	kept := slices.Clone(l)
	clear(l)
	if shape(kept, n) != want {
		t.Error("the tree changes with the list")
	}
	again, f := tree.Parse(kept)
	if f.Err != api.OK || !reflect.DeepEqual(n, again) {
		t.Errorf("another tree comes the second time: %v", f)
	}
}

// spoil writes into all lists of a tree, and into the room behind them.
func spoil(n api.Node) {
	for _, k := range n.Kids {
		spoil(k)
	}
	room := n.Kids[:cap(n.Kids)]
	for i := range room {
		room[i] = api.Node{Kind: -7, Tok: -7}
	}
}

// copied answers a tree with lists of its own.
func copied(n api.Node) api.Node {
	out := n
	out.Kids = nil
	for _, k := range n.Kids {
		out.Kids = append(out.Kids, copied(k))
	}
	return out
}

// What is answered is the caller's, the room behind it too, and no two lists of it are in one another's room.
func TestNewMemory(t *testing.T) {
	l := read(t, sample)
	one, _ := tree.Parse(l)
	two, _ := tree.Parse(l)
	want := shape(l, copied(one))
	spoil(one)
	if shape(l, two) != want {
		t.Error("two trees share memory")
	}
	three, f := tree.Parse(l)
	if f.Err != api.OK || shape(l, three) != want {
		t.Error("a tree shares memory with what comes later")
	}
	apart(t, l, &two, &two)
}

// apart fills the room behind each list of a tree: the whole tree stays as it was.
func apart(t *testing.T, l []api.Token, whole, n *api.Node) {
	t.Helper()
	want := shape(l, *whole)
	room := n.Kids[len(n.Kids):cap(n.Kids)]
	for i := range room {
		room[i] = api.Node{Kind: -7, Tok: -7}
	}
	if shape(l, *whole) != want {
		t.Error("a list lies in the room behind another one")
	}
	for i := range n.Kids {
		apart(t, l, whole, &n.Kids[i])
	}
}

// Z3: nil and a list without entries are the same.
func TestNothing(t *testing.T) {
	for _, l := range [][]api.Token{nil, {}, read(t, "int x;")[:0]} {
		n, f := tree.Parse(l)
		if n.Kind != api.NodeUnit || n.Tok != -1 || len(n.Kids) != 0 || f != (api.Fault{File: -1}) {
			t.Errorf("%v: %v", n, f)
		}
	}
}
