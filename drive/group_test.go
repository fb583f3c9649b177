package drive_test

import (
	"strings"
	"testing"

	"preamble/api"
	"preamble/drive"
)

// branch answers which of these lines, each in a branch of its own, come out of a group.
func branch(heads ...string) string {
	var out strings.Builder
	for i, h := range heads {
		out.WriteString("#" + h + "\n" + string(rune('a'+i)) + "\n")
	}
	return out.String() + "#endif\nz"
}

// One branch, or the other.
func TestG2Branches(t *testing.T) {
	for _, x := range []struct {
		heads string
		want  string
	}{
		{"if 1", "a z"}, {"if 0", "z"}, {"if 1|else", "a z"}, {"if 0|else", "b z"},
		{"if 1|elif 1|elif 1|else", "a z"}, {"if 0|elif 1|elif 1|else", "b z"}, {"if 0|elif 0|elif 1|else", "c z"}, {"if 0|elif 0|elif 0|else", "d z"}, {"if 0|elif 0", "z"},
		{"ifdef A", "z"}, {"ifndef A", "a z"}, {"ifdef A|else", "b z"}, {"ifndef A|else", "a z"}, {"ifdef A|elif 1", "b z"}, {"ifndef A|elif 1", "a z"},
		{"if -1", "a z"}, {"if 7 - 7", "z"}, {"if A", "z"}, {"if !A", "a z"}, {"if 'a' == 97", "a z"}, {"if 1 ? 0 : 1", "z"}, {"if (1)", "a z"},
		// What is not asked may be anything.
		{"if 1|elif", "a z"}, {"if 1|elif 1 / 0|elif defined|elif \"x\"", "a z"}, {"if 0|elif 1|elif (", "b z"},
		{"if 0 && 1 / 0", "z"},
	} {
		comesAlone(t, branch(strings.Split(x.heads, "|")...), x.want)
	}
}

// What stands in lines that do not count is not asked, and its groups never count.
func TestG2Counts(t *testing.T) {
	inner := "#if 1\na\n#else\nb\n#endif\n#if 0\nc\n#elif 1\nd\n#else\ne\n#endif\n#ifdef A\nf\n#else\ng\n#endif\n#ifndef A\nh\n#endif\n"
	comesAlone(t, inner, "a d g h")
	comesAlone(t, "#if 1\n"+inner+"#endif\nz", "a d g h z")
	comesAlone(t, "#if 0\n"+inner+"#endif\nz", "z")
	comesAlone(t, "#if 1\n#else\n"+inner+"#endif\nz", "z")
	comesAlone(t, "#if 0\n#if 1\n"+inner+"#endif\n#endif\nz", "z")
	comesAlone(t, "#if 1\n#if 0\n#elif 0\n"+inner+"#else\ny\n#endif\n#endif\nz", "y z")
	comesAlone(t, "#if 0\n#else\n"+inner+"#endif\nz", "a d g h z")
	for _, s := range []string{
		"#if", "#ifdef", "#ifndef", "#ifdef A B", "#ifndef 1", "#if (", "#if 1 / 0", "#if defined", "#if 1\n#elif", "#if 0\n#elif (", "#if 0\n#elif 1 / 0\n#else",
	} {
		comesAlone(t, "#if 0\n"+s+"\nno\n#endif\nno\n#endif\nz", "z")
	}
	for _, s := range []string{"#define", "#define 1", "#undef", "#undef defined", "#include", "#include \"no\"", "#include <no>", "#error", "#what", "#1", "# \"x\"", "#", "##", "#pragma once", "x f("} {
		comesAlone(t, "#if 0\n"+s+"\n#endif\nz", "z")
	}
	// Macros are as they were.
	comesAlone(t, "#define A 1\n#if 0\n#undef A\n#define B 2\n#endif\nA B", "1 B")
}

func TestG2Known(t *testing.T) {
	known := func(name string) string {
		return "#ifdef " + name + "\n1\n#endif\n#ifndef " + name + "\n0\n#endif\n#if defined " + name + "\n1\n#endif\n#if ! defined ( " + name + " )\n0\n#endif"
	}
	for _, x := range [][2]string{
		{"A", "0 0"}, {"__LINE__", "1 1"}, {"__FILE__", "1 1"}, {"__VA_ARGS__", "0 0"}, {"once", "0 0"}, {"__line__", "0 0"}, {"E", "1 1"}, {"f", "1 1"}, {"U", "0 0"}, {"defined", "0 0"},
	} {
		comesAlone(t, "#define E\n#define f(x) x\n#define U\n#undef U\n"+known(x[0]), x[1])
	}
	out, _, f := drive.Run(alone(known("A")), 0, defined(t, 3, "A"), room)
	if texts(out.Tokens) != "1 1" || f != fine {
		t.Errorf("%q %v", texts(out.Tokens), f)
	}
}

func TestG2Defined(t *testing.T) {
	// A is 0, so that what was expanded ahead of defined would be told apart.
	head := "#define A 0\n#define N defined A\n#define f(x) x\n"
	for _, x := range []struct {
		s    string
		want bool
	}{
		{"defined A", true}, {"defined(A)", true}, {"defined ( A )", true}, {"defined B", false}, {"defined A && defined f && !defined B", true}, {"defined A + defined(f) == 2", true},
		{"defined A == 1", true}, {"defined B == 0", true}, {"(defined A)", true}, {"-defined A", true}, {"defined defined", false}, {"defined(defined)", false}, {"!defined defined && defined A", true},
		{"f(defined A)", true}, {"f(defined(B))", false}, {"A", false}, {"f(1)", true}, {"f", false}, {"__LINE__ == 4", true}, {"__LINE__", true},
	} {
		want := "z"
		if x.want {
			want = "a z"
		}
		comesAlone(t, head+branch("if "+x.s), want)
		comesAlone(t, head+branch(strings.Split("if 0|elif "+strings.ReplaceAll(x.s, "4", "6"), "|")...), strings.ReplaceAll(want, "a", "b"))
	}
	for _, x := range []struct {
		s    string
		want api.Fault
	}{
		{"#if defined", at(api.ErrForm, 4)}, {"#if defined(", at(api.ErrForm, 4)}, {"#if defined()", at(api.ErrForm, 4)}, {"#if defined(A", at(api.ErrForm, 4)}, {"#if defined((A))", at(api.ErrForm, 4)}, {"#if defined(A(", at(api.ErrForm, 4)}, {"#if defined 1", at(api.ErrForm, 4)}, {"#if defined \"A\"", at(api.ErrForm, 4)}, {"#if defined(1)", at(api.ErrForm, 4)}, {"#if defined + A", at(api.ErrForm, 4)},
		{"#if 1 || defined", at(api.ErrForm, 9)}, {"#if defined A || defined", at(api.ErrForm, 17)}, {"#if defined defined defined", at(api.ErrForm, 20)}, {"#if 0\n#elif defined", at(api.ErrForm, 12)},
		// A defined is told ahead of what expanding, or reckoning, finds.
		{"#if 1 / 0 + defined", at(api.ErrForm, 12)},
		// The number stands where defined stood.
		{"#if 1 defined A", at(api.ErrForm, 6)}, {"#if defined A defined A", at(api.ErrForm, 14)}, {"#if (defined A x", at(api.ErrForm, 15)}, {"#if (defined A", at(api.ErrForm, 12)},
		// Without its parentheses a name is all that is asked for.
		{"#if defined f(A)", at(api.ErrForm, 13)},
		// One that comes of a macro is a name like others.
		{"#define N defined A\n#if N", at(api.ErrForm, 18)},
	} {
		fails(t, alone(x.s), room, x.want)
	}
}

func TestG2If(t *testing.T) {
	for _, x := range []struct {
		s    string
		want api.Fault
	}{
		{"#if", at(api.ErrForm, 1)}, {" # if // x", at(api.ErrForm, 3)}, {"#if\n1\n#endif", at(api.ErrForm, 1)}, {"#if 0\n#elif", at(api.ErrForm, 7)}, {"#if 0\n#elif\n#else", at(api.ErrForm, 7)},
		{"#ifdef", at(api.ErrForm, 1)}, {"#ifndef", at(api.ErrForm, 1)}, {"#ifdef A B", at(api.ErrForm, 1)}, {"#ifndef A B", at(api.ErrForm, 1)}, {"#ifdef 1", at(api.ErrForm, 1)}, {"#ifndef \"A\"", at(api.ErrForm, 1)}, {"#ifdef (A)", at(api.ErrForm, 1)}, {"#ifdef A +", at(api.ErrForm, 1)},
		// What expanding, and reckoning, finds is told where it is.
		{"#if 1 / 0", at(api.ErrZero, 6)}, {"#if 1 << 64", at(api.ErrRange, 6)}, {"#if 08", at(api.ErrRange, 4)}, {"#if 1 /", at(api.ErrEnd, 7)}, {"#if (1", at(api.ErrForm, 6)}, {"#if (", at(api.ErrEnd, 5)}, {"#if 1 2", at(api.ErrForm, 6)}, {"#if \"x\"", at(api.ErrForm, 4)}, {"#if )", at(api.ErrForm, 4)}, {"#if 1 = 1", at(api.ErrForm, 6)},
		{"#if 0\n#elif 1 / 0", at(api.ErrZero, 14)},
		{"#define f(x) x\n#if f(1", at(api.ErrEnd, 19)}, {"#define f(x) x\n#if f(1,2)", at(api.ErrMany, 19)},
		// A rest that comes to nothing has no place of its own.
		{"#define E\n#if E", at(api.ErrEnd, 11)}, {"#define E\n #if 0\n#elif E E", at(api.ErrEnd, 18)}, {"#define e(x)\n#if e(1)", at(api.ErrEnd, 14)},
		// It ends with its line.
		{"#define f(x) x\n#if f(\n1)", at(api.ErrEnd, 19)},
	} {
		fails(t, alone(x.s), room, x.want)
	}
}

// ErrDeep is told of the group that would be one too many in its file, whether its lines count or not.
func TestG2Deep(t *testing.T) {
	for _, head := range []string{"#if 1\n", "#if 0\n", "#if 1\n#else\n", "#ifdef x\n", "#ifndef x\n"} {
		most := strings.Repeat(head, api.MaxNest)
		ends := strings.Repeat("#endif\n", api.MaxNest)
		for _, next := range []string{"#if 1", "#if", "#ifdef", "#ifndef x y", "#if 1 / 0"} {
			fails(t, alone(most+next), room, at(api.ErrDeep, len(most)+1))
			fails(t, alone(most+ends+most+next), room, at(api.ErrDeep, 2*len(most)+len(ends)+1))
		}
		comesAlone(t, most+ends+most+ends+"z", "z")
		comesAlone(t, most+"#endif\n#if 1\n#endif\n"+ends[len("#endif\n"):]+"z", "z")
	}
	// Each file has groups of its own.
	most, ends := strings.Repeat("#if 1\n", api.MaxNest), strings.Repeat("#endif\n", api.MaxNest)
	comes(t, several(most+"#include \"b\"\n"+ends, most+"x\n"+ends), "x", 0, 1)
	fails(t, several(most+"#include \"b\"\n"+ends, most+"#if"), room, within(api.ErrDeep, 1, len(most)+1))
}

func TestG2Fit(t *testing.T) {
	for _, x := range []struct {
		s    string
		want api.Fault
	}{
		{"#elif 1", at(api.ErrFit, 1)}, {"#else", at(api.ErrFit, 1)}, {"#endif", at(api.ErrFit, 1)}, {"#elif", at(api.ErrFit, 1)}, {"#else x", at(api.ErrFit, 1)}, {"# endif x", at(api.ErrFit, 2)},
		{"#if 1\n#endif\n#endif", at(api.ErrFit, 14)}, {"#if 0\n#endif\n#else", at(api.ErrFit, 14)}, {"#if 0\n#endif\n#elif (", at(api.ErrFit, 14)},
		{"#if 1\n#else\n#else", at(api.ErrFit, 13)}, {"#if 1\n#else\n#else x", at(api.ErrFit, 13)}, {"#if 0\n#else\n#elif 1", at(api.ErrFit, 13)}, {"#if 0\n#else\n#elif", at(api.ErrFit, 13)}, {"#ifdef x\n#elif 0\n#else\n#else", at(api.ErrFit, 24)},
		{"#if 1\n#endif x", at(api.ErrForm, 13)}, {"#if 1\n#endif // x\n#if 0\n#endif \"x\" y", at(api.ErrForm, 31)}, {"#if 1\n#else\n#endif x", at(api.ErrForm, 19)},
		{"#if 1\n#else x", at(api.ErrForm, 12)}, {"#if 0\n#else 1 2", at(api.ErrForm, 12)},
		// Lines that do not count are no other.
		{"#if 0\n#if 0\n#else x", at(api.ErrForm, 18)}, {"#if 0\n#if 0\n#endif x", at(api.ErrForm, 19)}, {"#if 0\n#if 0\n#else\n#else", at(api.ErrFit, 19)}, {"#if 0\n#if 0\n#else\n#elif", at(api.ErrFit, 19)},
		// What waits is expanded first.
		{"#define f(x) x\nf(\n#else", at(api.ErrEnd, 15)},
	} {
		fails(t, alone(x.s), room, x.want)
	}
	// A group that ended has no else any more.
	comesAlone(t, "#if 0\n#if 0\n#else\n#endif\n#else\na\n#endif\n#if 0\n#elif 1\nb\n#endif", "a b")
}
