package drive_test

import (
	"slices"
	"strconv"
	"strings"
	"testing"

	"preamble/api"
	"preamble/drive"
)

func TestG3Define(t *testing.T) {
	for _, x := range [][2]string{
		{"#define A\nA x", "x"}, {"#define A 1 2\nA", "1 2"}, {"#define A(x) x\nA(1) A", "1 A"}, {"#define A (x) x\nA", "( x ) x"}, {"#define F(a,...) __VA_ARGS__ a\nF(1,2,3)", "2 , 3 1"},
		{"#define A 1\n#define A 1\nA", "1"}, {"#define A 1\n#undef A\n#define A 2\nA", "2"}, {"#define A \\\n1\nA", "1"}, {"#define A B\n#define B A\nA B", "A B"},
		{"#define q(x) #x\nq(a  b)", `"a b"`}, {"#define if 1\n#if if\nif\n#endif", "1"}, {"#define include 2\ninclude", "2"},
	} {
		comesAlone(t, x[0], x[1])
	}
	for _, x := range []struct {
		s    string
		want api.Fault
	}{
		{"#define", at(api.ErrForm, 1)}, {"x\n # define /* A */", at(api.ErrForm, 5)}, {"#define\nA", at(api.ErrForm, 1)}, {"#define 1", at(api.ErrForm, 8)}, {"#define \"A\"", at(api.ErrForm, 8)},
		{"#define defined", at(api.ErrName, 8)}, {"#define __LINE__ 1", at(api.ErrName, 8)}, {"#define  __FILE__", at(api.ErrName, 9)},
		{"#define f(", at(api.ErrForm, 10)}, {"#define f(x,x)", at(api.ErrName, 12)}, {"#define f(a,b,c,d,e,f,g)", at(api.ErrMany, 22)}, {"#define f(x) #y", at(api.ErrForm, 13)}, {"#define A ##", at(api.ErrForm, 10)}, {"#define A __VA_ARGS__", at(api.ErrName, 10)},
		{"#define A" + strings.Repeat(" 1", api.MaxBody+1), at(api.ErrMuch, 10+2*api.MaxBody)},
		{"#define A 1\n#define  A 2", at(api.ErrName, 21)}, {"#define A 1\n#define A(x) 1", at(api.ErrName, 20)}, {"#define A x y\n#define A x  y\n#define A xy", at(api.ErrName, 37)},
	} {
		fails(t, alone(x.s), room, x.want)
	}
	var most strings.Builder
	for i := range api.MaxMacros {
		most.WriteString("#define A" + strconv.Itoa(i) + "\n")
	}
	s := most.String()
	_, after, f := drive.Run(alone(s+"#define A7"), 0, nil, room)
	if len(after) != api.MaxMacros || f != fine {
		t.Errorf("%d macros, %v", len(after), f)
	}
	fails(t, alone(s+"#define B"), room, at(api.ErrMany, len(s)+8))
	fails(t, alone(s+"#define A7 1"), room, at(api.ErrName, len(s)+8))
	comesAlone(t, s+"#undef A7\n#define B 1\nB", "1")
}

func TestG3Undef(t *testing.T) {
	comesAlone(t, "#define A 1\n#undef A\n#undef A\n#undef __VA_ARGS__\nA", "A")
	_, after, f := drive.Run(alone("#undef B"), 0, defined(t, 0, "A", "B", "C", "B 2"), room)
	if names(after) != "A C" || f != fine {
		t.Errorf("%q %v", names(after), f)
	}
	for _, x := range []struct {
		s    string
		want api.Fault
	}{
		{"#undef", at(api.ErrForm, 1)}, {"# undef\nA", at(api.ErrForm, 2)}, {"#undef A B", at(api.ErrForm, 1)}, {"#undef 1", at(api.ErrForm, 1)}, {"#undef (A)", at(api.ErrForm, 1)}, {"#undef __LINE__ x", at(api.ErrForm, 1)},
		{"#undef __LINE__", at(api.ErrName, 7)}, {"#undef __FILE__", at(api.ErrName, 7)}, {"#undef  defined", at(api.ErrName, 8)},
	} {
		fails(t, alone(x.s), room, x.want)
	}
}

func TestG3Include(t *testing.T) {
	l := func(s string) api.Files {
		return api.Files{
			{Path: "a.c", Text: s}, {Path: "b.h", Text: "b"}, {Path: "c.h", Text: "c"},
			{Path: "d/b.h", Text: "db"}, {Path: "d/e.h", Text: "#include \"b.h\"\n#include <b.h>\n#include \"c.h\"\n#include \"../b.h\""},
			{Path: "lib/b.h", Text: "lb\n#include \"f.h\""}, {Path: "lib/f.h", Text: "lf"},
		}
	}
	for _, x := range []struct {
		s, want string
		read    []int
	}{
		{`#include "b.h"`, "b", []int{0, 1}}, {"x\n#include \"b.h\"\ny", "x b y", []int{0, 1}}, {`#include "./d/../b.h"`, "b", []int{0, 1}}, {`#include "d/b.h"`, "db", []int{0, 3}},
		{`#include <b.h>`, "lb lf", []int{0, 5, 6}}, {`#include <../c.h>`, "c", []int{0, 2}},
		{`#include "d/e.h"`, "db lb lf c b", []int{0, 4, 3, 5, 6, 2, 1}},
		{"#include \\\n\"b.h\"", "b", []int{0, 1}}, {"#include \"b\\\n.h\" // x", "b", []int{0, 1}},
	} {
		comes(t, l(x.s), x.want, x.read...)
	}
	for _, x := range []struct {
		s    string
		want api.Fault
	}{
		{"#include", at(api.ErrForm, 1)}, {"# include\n\"b.h\"", at(api.ErrForm, 2)}, {"#include b.h", at(api.ErrForm, 1)}, {"#include \"b.h\" x", at(api.ErrForm, 1)}, {"#include \"b.h\" \"b.h\"", at(api.ErrForm, 1)}, {"#include <b.h> x", at(api.ErrForm, 1)}, {"#include <b.h", at(api.ErrForm, 1)}, {"#include 'b'", at(api.ErrForm, 1)}, {"#include x \"b.h\"", at(api.ErrForm, 1)},
		{"#define B \"b.h\"\n#include B", at(api.ErrForm, 17)},
		{"#include \"no\"", at(api.ErrNone, 9)}, {"#include  <a.c>", at(api.ErrNone, 10)}, {"#  include  < b.h>", at(api.ErrNone, 12)}, {"#include \"\"", at(api.ErrNone, 9)}, {"#include <>", at(api.ErrNone, 9)}, {"#include \"../b.h\"", at(api.ErrNone, 9)}, {"#include \"/b.h\"", at(api.ErrNone, 9)}, {"#include \"d\"", at(api.ErrNone, 9)}, {"#include \"B.h\"", at(api.ErrNone, 9)},
		{"x\n#include \"b.h\"\n#include \"no\"", at(api.ErrNone, 26)},
	} {
		fails(t, l(x.s), room, x.want)
	}
}

// chain answers files each of which includes the next one.
func chain(n int) api.Files {
	all := make([]string, n)
	for i := range n - 1 {
		all[i] = "#include \"" + string(rune('a'+i+1)) + "\"\n"
	}
	return several(append(all[:n-1], "x")...)
}

func TestG3Deep(t *testing.T) {
	for deep := range api.MaxDeep + 1 {
		limits := api.Limits{Fuel: 9, Out: 9, Deep: deep}
		out, _, f := drive.Run(chain(deep+1), 0, nil, limits)
		if texts(out.Tokens) != "x" || len(out.Read) != deep+1 || f != fine {
			t.Errorf("%d: %v %v", deep, out, f)
		}
		fails(t, chain(deep+2), limits, within(api.ErrDeep, deep, 9))
		fails(t, several("\n#include \"a\""), limits, at(api.ErrDeep, 10))
		// That there is none is told first.
		fails(t, several("#include \"z\""), limits, at(api.ErrNone, 9))
	}
	// One behind the other they are not deep.
	comes(t, several(strings.Repeat("#include \"b\"\n", 9), "#include \"c\"", "x"), strings.Repeat("x ", 8)+"x", append([]int{0}, slices.Repeat([]int{1, 2}, 9)...)...)
	// A file may include itself, while its macros tell it when to end.
	comes(t, several("#ifndef B\n#define B\n1\n#include \"a\"\n2\n#else\n3\n#endif"), "1 3 2", 0, 0)
}

func TestG3Once(t *testing.T) {
	// Once is once.
	comes(t, several("#include \"b\"\n#include \"b\"\n#include \"./b\"\nx", "#pragma once\nb"), "b x", 0, 1)
	comes(t, several("#include \"c\"\n#include \"b\"\nx", "#pragma once\nb", "#include \"b\"\nc"), "b c x", 0, 2, 1)
	// From where it is said on, in lines that count.
	comes(t, several("#pragma once\na\n#include \"a\"\n#include \"b\"", "b\n#include \"a\""), "a b", 0, 1)
	comes(t, several("#ifndef A\n#define A\n#include \"a\"\n#endif\na\n#pragma once\n#include \"a\""), "a a", 0, 0)
	comes(t, several("#include \"b\"\n#include \"b\"", "#if 0\n#pragma once\n#endif\nb"), "b b", 0, 1, 1)
	comes(t, several("#define B\n#include \"b\"\n#undef B\n#include \"b\"", "#ifndef B\n#pragma once\n#endif\nb"), "b b", 0, 1, 1)
	// It is of that file alone, and is kept by no run.
	l := several("#include \"b\"\n#include \"c\"\n#include \"b\"\n#include \"c\"", "#pragma once\nb", "c")
	for range 2 {
		comes(t, l, "b c c", 0, 1, 2, 2)
	}
	// It is nothing, even where files are too deep; what is none is none.
	out, _, f := drive.Run(several("#pragma once\n#include \"a\""), 0, nil, api.Limits{})
	if len(out.Tokens) != 0 || len(out.Read) != 1 || f != fine {
		t.Errorf("%v %v", out, f)
	}
	// Others are nothing, too.
	for _, s := range []string{"#pragma", "#pragma two", "#pragma once more", "#pragma \"once\"", "#pragma (once)", "#pragma Once", "#pragma\nonce"} {
		l := several("#include \"b\"\n#include \"b\"", s)
		out, _, f := drive.Run(l, 0, nil, room)
		if len(out.Read) != 3 || f != fine {
			t.Errorf("%q: %v %v", s, out, f)
		}
	}
	// A root that said so is still a root.
	comes(t, several("#pragma once\nx"), "x", 0)
}

func TestG3Others(t *testing.T) {
	for _, x := range []struct {
		s    string
		want api.Fault
	}{
		{"#error", at(api.ErrSaid, 1)}, {"x\n # error no good", at(api.ErrSaid, 5)}, {"#if 0\n#else\n#error\n#endif", at(api.ErrSaid, 13)},
		{"#what", at(api.ErrKind, 1)}, {"# 1 \"a\"", at(api.ErrKind, 2)}, {"# \"if\"", at(api.ErrKind, 2)}, {"# #", at(api.ErrKind, 2)}, {"#@", at(api.ErrKind, 1)}, {"#If 1", at(api.ErrKind, 1)}, {"#line 1", at(api.ErrKind, 1)}, {"#defined A", at(api.ErrKind, 1)}, {"#elseif", at(api.ErrKind, 1)}, {"#once", at(api.ErrKind, 1)},
		// A word is none that stands for another one.
		{"#define D define\n#D A", at(api.ErrKind, 18)},
		{"x\n#what\n#error", at(api.ErrKind, 3)},
	} {
		fails(t, alone(x.s), room, x.want)
	}
	for _, s := range []string{"#", " # ", "#\n#\n", "# // x", "/**/#/**/", "#\\\n"} {
		comesAlone(t, s, "")
		comesAlone(t, "x\n"+s+"\ny", "x y")
	}
}

// Included it is as if it stood there.
func TestIncludedAsIfThere(t *testing.T) {
	for _, s := range []string{"x\n", "#define A 1\nA\n", "#undef A\n", "#if A\nB\n#else\nA\n#endif\n", "#ifndef A\n#define A B\n#endif\nA\n", "", "f(1)\n"} {
		for _, frame := range [][2]string{{"", "A x"}, {"#define A 2\n", "A"}, {"#define A 0\nA\n", "f\n"}, {"#define f(x) x x A\n", "f(2)"}, {"#if 0\n", "#endif\nA"}} {
			there, macros, f := drive.Run(several(frame[0]+s+"#\n"+frame[1]), 0, nil, room)
			out, after, f2 := drive.Run(several(frame[0]+"#include \"b\"\n"+frame[1], s), 0, nil, room)
			if texts(out.Tokens) != texts(there.Tokens) || names(after) != names(macros) || f.Err != f2.Err {
				t.Errorf("%q in %q: %q %q %v, not %q %q %v", s, frame, texts(out.Tokens), names(after), f2, texts(there.Tokens), names(macros), f)
			}
		}
	}
}
