package macro_test

import (
	"reflect"
	"slices"
	"strconv"
	"testing"

	"preamble/api"
	"preamble/macro"
)

// parsedAll answers the macros that texts tell of.
func parsedAll(t *testing.T, all ...string) []api.Macro {
	t.Helper()
	var out []api.Macro
	for _, s := range all {
		out = append(out, parsed(t, s))
	}
	return out
}

// names answers the names of macros.
func names(l []api.Macro) []string {
	var out []string
	for _, m := range l {
		out = append(out, m.Name)
	}
	return out
}

func TestE2Same(t *testing.T) {
	for _, x := range [][2]string{
		{"A", "A"}, {"A 1", " A  1"}, {"A x + y", "A\tx /**/ +\n  y"}, {"A x+y", "A x\\\n+y"}, {"F()", "F( )"}, {"F(x,y) x", "F( x , y )x"}, {"F(...) #__VA_ARGS__", "F( ... )#__VA_ARGS__"},
		{"A(x)", "A(x) "}, {"A\n1", "A 1"},
	} {
		a, b := parsed(t, x[0]), parsed(t, x[1])
		if !macro.Same(a, b) || !macro.Same(b, a) {
			t.Errorf("%q and %q are the same", x[0], x[1])
		}
	}
	for _, x := range [][2]string{
		{"A", "B"}, {"A", "A 1"}, {"A 1", "A 2"}, {"A 1 2", "A 1"}, {"A x+y", "A x +y"}, {"A x+y", "A x+ y"}, {"A xy", "A x y"}, {"A x", "A X"}, {"A \"x\"", "A 'x'"}, {"A x y", "A y x"},
		{"F", "F()"}, {"F()", "F(x)"}, {"F(x)", "F(y)"}, {"F(x,y)", "F(y,x)"}, {"F(x)", "F(x,y)"}, {"F(x)", "F(x,...)"}, {"F(...)", "F()"}, {"F()", "F ()"}, {"F(x) x", "F(x) y"},
	} {
		a, b := parsed(t, x[0]), parsed(t, x[1])
		if macro.Same(a, b) || macro.Same(b, a) {
			t.Errorf("%q and %q are not the same", x[0], x[1])
		}
	}
}

// Each field counts by itself, but of a body's tokens only Kind, Text and Space.
func TestE2SameFields(t *testing.T) {
	changed := func(change func(m *api.Macro)) api.Macro {
		m := api.Macro{Name: "F", Call: true, Params: []string{"x", "__VA_ARGS__"}, More: true, Body: []api.Token{{Kind: api.TokName, Text: "x"}, {Kind: api.TokNum, Text: "1"}}}
		change(&m)
		return m
	}
	a := changed(func(*api.Macro) {})
	for i, change := range []func(m *api.Macro){
		func(m *api.Macro) {},
		func(m *api.Macro) { m.Body[0].First = true },
		func(m *api.Macro) { m.Body[1].File = 4 },
		func(m *api.Macro) { m.Body[1].At = 4 },
		func(m *api.Macro) { m.Body[1].End = 4 },
		func(m *api.Macro) { m.Body[0].Line = 4 },
		func(m *api.Macro) { m.Body[0].Hide = []string{"h"} },
		func(m *api.Macro) { m.Body[0].Calls = []api.Call{{Name: "c"}} },
		func(m *api.Macro) { m.Body[0].Made = api.Pasted },
	} {
		if b := changed(change); !macro.Same(a, b) || !macro.Same(b, a) {
			t.Errorf("change %d makes another one: %v", i, b)
		}
	}
	for i, change := range []func(m *api.Macro){
		func(m *api.Macro) { m.Name = "G" },
		func(m *api.Macro) { m.Call = false },
		func(m *api.Macro) { m.Params[0] = "y" },
		func(m *api.Macro) { m.Params = nil },
		func(m *api.Macro) { m.More = false },
		func(m *api.Macro) { m.Body[0].Kind = api.TokText },
		func(m *api.Macro) { m.Body[1].Text = "2" },
		func(m *api.Macro) { m.Body[0].Space = true },
		func(m *api.Macro) { m.Body[1].Space = true },
		func(m *api.Macro) { m.Body = nil },
		func(m *api.Macro) { m.Body = m.Body[:1] },
	} {
		if b := changed(change); macro.Same(a, b) || macro.Same(b, a) {
			t.Errorf("change %d makes no other one: %v", i, b)
		}
	}
	empty := api.Macro{Name: "A", Params: []string{}, Body: []api.Token{}}
	if !macro.Same(empty, api.Macro{Name: "A"}) || !macro.Same(api.Macro{Name: "A"}, empty) {
		t.Error("nil and a list without entries are the same")
	}
}

func TestE2Find(t *testing.T) {
	l := parsedAll(t, "A", "F(x) x", "B", "A 2", "F 1")
	for _, x := range []struct {
		name string
		want int
	}{{"A", 0}, {"F", 1}, {"B", 2}, {"a", -1}, {"", -1}, {"x", -1}, {"AB", -1}, {"__LINE__", -1}} {
		if got := macro.Find(l, x.name); got != x.want {
			t.Errorf("Find %q is %d, not %d", x.name, got, x.want)
		}
	}
	if macro.Find(nil, "") != -1 || macro.Find([]api.Macro{}, "A") != -1 || macro.Find(l[:2], "B") != -1 {
		t.Error("something is found where it is not")
	}
	if macro.Find([]api.Macro{{Name: "A"}, {}}, "") != 1 {
		t.Error("what has no name is not found")
	}
}

func TestE2Define(t *testing.T) {
	var l []api.Macro
	for _, x := range []struct {
		s    string
		size int
		err  api.Errno
	}{
		{"A 1", 1, api.OK}, {"A  1", 1, api.OK}, {"A 2", 0, api.ErrName}, {"A() 1", 0, api.ErrName}, {"B", 2, api.OK}, {"F(x) x + 1", 3, api.OK}, {"F( x ) x  +  1", 3, api.OK}, {"F(x) x+ 1", 0, api.ErrName}, {"F(y) y + 1", 0, api.ErrName}, {"A 1", 3, api.OK}, {"a 1", 4, api.OK},
	} {
		got, err := macro.Define(l, parsed(t, x.s))
		if err != x.err || len(got) != x.size {
			t.Errorf("Define %q is %q %d, not %d of them, %d", x.s, names(got), err, x.size, x.err)
		}
		if err == api.OK {
			l = got
		}
	}
	if want := parsedAll(t, "A 1", "B", "F(x) x + 1", "a 1"); !reflect.DeepEqual(l, want) {
		t.Errorf("Define makes %v, not %v", l, want)
	}
	if got, err := macro.Define([]api.Macro{}, api.Macro{}); err != api.OK || !reflect.DeepEqual(got, []api.Macro{{}}) {
		t.Errorf("Define is %v %d", got, err)
	}
}

// What is there already stays, with its own places; of two of one name the first one counts.
func TestE2DefineAgain(t *testing.T) {
	l := parsedAll(t, "A 1", "A 2", "B")
	for _, x := range []struct {
		s   string
		err api.Errno
	}{{"A   1", api.OK}, {"A 2", api.ErrName}} {
		got, err := macro.Define(l, parsed(t, x.s))
		if err != x.err || err == api.OK && !reflect.DeepEqual(got, l) {
			t.Errorf("Define %q is %v %d", x.s, got, err)
		}
	}
}

func TestE2Many(t *testing.T) {
	var l []api.Macro
	for i := range api.MaxMacros {
		got, err := macro.Define(l, parsed(t, "N"+strconv.Itoa(i)))
		if err != api.OK || len(got) != i+1 || got[i].Name != "N"+strconv.Itoa(i) {
			t.Fatalf("macro %d is refused: %d", i, err)
		}
		l = got
	}
	for _, x := range []struct {
		s    string
		size int
		err  api.Errno
	}{{"M", 0, api.ErrMany}, {"N0", api.MaxMacros, api.OK}, {"N29", api.MaxMacros, api.OK}, {"N3 1", 0, api.ErrName}} {
		if got, err := macro.Define(l, parsed(t, x.s)); err != x.err || len(got) != x.size {
			t.Errorf("Define %q is %d of them, %d", x.s, len(got), err)
		}
	}
	if got, err := macro.Define(append(l, l...), parsed(t, "M")); err != api.ErrMany || got != nil {
		t.Errorf("Define is %d of them, %d", len(got), err)
	}
	less := macro.Undef(l, "N7")
	if got, err := macro.Define(less, parsed(t, "M")); err != api.OK || len(got) != api.MaxMacros || got[api.MaxMacros-1].Name != "M" {
		t.Errorf("Define is %q %d", names(got), err)
	}
}

func TestE2Undef(t *testing.T) {
	l := parsedAll(t, "A", "F(x) x", "B", "A 2", "F 1")
	for _, x := range []struct {
		name string
		want []string
	}{
		{"A", []string{"F", "B", "F"}}, {"F", []string{"A", "B", "A"}}, {"B", []string{"A", "F", "A", "F"}}, {"", []string{"A", "F", "B", "A", "F"}}, {"x", []string{"A", "F", "B", "A", "F"}},
	} {
		if got := macro.Undef(l, x.name); !slices.Equal(names(got), x.want) {
			t.Errorf("Undef %q is %q, not %q", x.name, names(got), x.want)
		}
	}
	if got := macro.Undef(l[1:3], "B"); !reflect.DeepEqual(got, parsedAll(t, "F(x) x")) {
		t.Errorf("Undef is %v", got)
	}
	if len(macro.Undef(nil, "A")) != 0 || len(macro.Undef([]api.Macro{}, "A")) != 0 || len(macro.Undef(l[:1], "A")) != 0 {
		t.Error("something is left of nothing")
	}
}

// wipe changes all of l, and its spare room.
func wipe(l []api.Macro) {
	for i := range l[:cap(l)] {
		l[:cap(l)][i] = api.Macro{Name: "?"}
	}
}

func TestE2Memory(t *testing.T) {
	full := parsedAll(t, "A 1", "B", "C", "D")
	l, kept := full[:3], slices.Clone(full)
	same := parsed(t, "A 1")
	for i, call := range []func() []api.Macro{
		func() []api.Macro { out, _ := macro.Define(l, full[3]); return out },
		func() []api.Macro { out, _ := macro.Define(l, same); return out },
		func() []api.Macro { return macro.Undef(l, "A") },
		func() []api.Macro { return macro.Undef(l, "C") },
		func() []api.Macro { return macro.Undef(l, "E") },
		func() []api.Macro { return macro.Undef(l[:0], "E") },
	} {
		got := call()
		if !reflect.DeepEqual(full, kept) {
			t.Errorf("call %d changes the list", i)
		}
		wipe(got)
		if !reflect.DeepEqual(full, kept) {
			t.Errorf("what call %d answers shares memory with the list", i)
		}
	}
}
