package drive_test

import (
	"reflect"
	"slices"
	"strings"
	"testing"

	"preamble/api"
	"preamble/drive"
	"preamble/lex"
	"preamble/macro"
)

var (
	room = api.Limits{Fuel: api.MaxFuel, Out: api.MaxOut, Deep: api.MaxDeep}
	fine = api.Fault{File: -1}
)

// at answers a fault in file 0.
func at(err api.Errno, at int) api.Fault { return api.Fault{Err: err, At: at} }

// within answers a fault in that file.
func within(err api.Errno, file, at int) api.Fault { return api.Fault{Err: err, File: file, At: at} }

// alone answers files of which s is the only one.
func alone(s string) api.Files { return api.Files{{Path: "a.c", Text: s}} }

// several answers files of these texts, named in turn by letters.
func several(all ...string) (out api.Files) {
	for i, s := range all {
		out = append(out, api.Source{Path: string(rune('a' + i)), Text: s})
	}
	return out
}

// texts answers what tokens are, written with a blank between.
func texts(l []api.Token) string {
	var out []string
	for _, t := range l {
		out = append(out, t.Text)
	}
	return strings.Join(out, " ")
}

// names answers the names of macros, written with a blank between.
func names(l []api.Macro) string {
	var out []string
	for _, m := range l {
		out = append(out, m.Name)
	}
	return strings.Join(out, " ")
}

// defined answers the macros that texts tell of; all of them stand in that file.
func defined(t *testing.T, file int, all ...string) (out []api.Macro) {
	t.Helper()
	for _, s := range all {
		l, _ := lex.Tokens(file, s)
		m, f := macro.Parse(l)
		if f.Err != api.OK {
			t.Fatalf("%q is no macro: %v", s, f)
		}
		out = append(out, m)
	}
	return out
}

// comes checks what comes of file 0 of l: all texts, and which files were read.
func comes(t *testing.T, l api.Files, want string, read ...int) {
	t.Helper()
	out, _, f := drive.Run(l, 0, nil, room)
	if f != fine || texts(out.Tokens) != want || !slices.Equal(out.Read, read) {
		t.Errorf("%q comes to %q, of files %v, %v, not to %q, of %v", l, texts(out.Tokens), out.Read, f, want, read)
	}
}

// comesAlone checks what comes of one file.
func comesAlone(t *testing.T, s, want string) {
	t.Helper()
	comes(t, alone(s), want, 0)
}

// fails checks what is wrong with file 0 of l, and that nothing else is answered.
func fails(t *testing.T, l api.Files, limits api.Limits, want api.Fault) {
	t.Helper()
	failsWith(t, l, nil, limits, want)
}

func failsWith(t *testing.T, l api.Files, macros []api.Macro, limits api.Limits, want api.Fault) {
	t.Helper()
	out, after, f := drive.Run(l, 0, macros, limits)
	if f != want || out.Tokens != nil || out.Read != nil || after != nil {
		t.Errorf("%q, %v: %v %v %v, not %v", l, limits, out, after, f, want)
	}
}

func TestG1Wrong(t *testing.T) {
	long := strings.Repeat("x", api.MaxText+1)
	for _, x := range []struct {
		l    api.Files
		want api.Fault
	}{
		{several(strings.Split(strings.Repeat("x", api.MaxFiles+1), "")...), within(api.ErrMany, -1, 0)},
		{api.Files{{Path: "a"}, {Path: "/"}}, within(api.ErrName, 1, 0)},
		{api.Files{{Path: ""}}, within(api.ErrName, 0, 0)},
		{several("", "", long), within(api.ErrMuch, 2, 0)},
		{api.Files{{Path: "b"}, {Path: "a"}}, within(api.ErrForm, 1, 0)},
		{api.Files{{Path: "a"}, {Path: "a"}}, within(api.ErrForm, 1, 0)},
	} {
		for _, root := range []int{0, -1, 1, 99} {
			for _, limits := range []api.Limits{room, {}, {Fuel: -1}} {
				out, after, f := drive.Run(x.l, root, nil, limits)
				if f != x.want || out.Tokens != nil || out.Read != nil || after != nil {
					t.Errorf("%d, %v: %v %v %v, not %v", root, limits, out, after, f, x.want)
				}
			}
		}
	}
}

func TestG1None(t *testing.T) {
	for n := range 3 {
		l := several("x", "y", "z")[:n]
		for _, root := range []int{-1, n, n + 1, 1 << 62, -1 << 63} {
			for _, limits := range []api.Limits{room, {Deep: -1}} {
				out, after, f := drive.Run(l, root, defined(t, 0, "A"), limits)
				if f != within(api.ErrNone, -1, 0) || out.Tokens != nil || out.Read != nil || after != nil {
					t.Errorf("%d of %d: %v %v %v", root, n, out, after, f)
				}
			}
		}
	}
}

func TestG1Range(t *testing.T) {
	for _, limits := range []api.Limits{
		{Fuel: -1}, {Fuel: api.MaxFuel + 1}, {Out: -1}, {Out: api.MaxOut + 1}, {Deep: -1}, {Deep: api.MaxDeep + 1},
		{Fuel: -1 << 63}, {Out: 1 << 62}, {Fuel: 9, Out: 9, Deep: -9}, {Fuel: -1, Out: -1, Deep: -1},
	} {
		for _, s := range []string{"", "x", "\"open"} {
			fails(t, alone(s), limits, within(api.ErrRange, -1, 0))
		}
	}
	for _, limits := range []api.Limits{{}, {Fuel: api.MaxFuel}, {Out: api.MaxOut}, {Deep: api.MaxDeep}, room} {
		out, after, f := drive.Run(alone("/* nothing */ \n#\n"), 0, nil, limits)
		if len(out.Tokens) != 0 || !slices.Equal(out.Read, []int{0}) || len(after) != 0 || f != fine {
			t.Errorf("%v: %v %v %v", limits, out, after, f)
		}
	}
}

// Tokens come out as they stand, to the last field; any file may be the root.
func TestG1Tokens(t *testing.T) {
	s := "a 1 'c' \"d\" + @\n x \\\n y ## # <e>\n/* z */ #"
	for root := range 3 {
		l := several("no", "no", "no")
		l[root].Text = s
		want, _ := lex.Tokens(root, s[:strings.LastIndex(s, "/*")])
		out, after, f := drive.Run(l, root, nil, room)
		if !reflect.DeepEqual(out, api.Out{Tokens: want, Read: []int{root}}) || len(after) != 0 || f != fine {
			t.Errorf("%d: %v %v %v, not %v", root, out, after, f, want)
		}
	}
}

// A file's tokens are read ahead of its lines, and behind those of the file that includes it.
func TestG1TokensFault(t *testing.T) {
	for _, x := range []struct {
		l    api.Files
		want api.Fault
	}{
		{several("\"open"), at(api.ErrEnd, 0)},
		{several("#error\nx 'open"), at(api.ErrEnd, 9)},
		{several("#if 0\n/* open\n#endif"), at(api.ErrEnd, 6)},
		{several("#else\n#include \"b\"\n'"), at(api.ErrEnd, 19)},
		{several("#include \"b\"\n#error", " \""), within(api.ErrEnd, 1, 1)},
		{several("#error\n#include \"b\"", "\""), at(api.ErrSaid, 1)},
		{several("f(\n#include \"b\"", "\""), within(api.ErrEnd, 1, 0)},
		{several("#include \"b\"", "#include \"c\"\n", "\n\n '"), within(api.ErrEnd, 2, 3)},
	} {
		fails(t, x.l, room, x.want)
	}
	comes(t, several("#if 0\n#include \"b\"\n#endif\nx", "\""), "x", 0)
}

func TestG1Wait(t *testing.T) {
	for _, x := range [][2]string{
		{"", ""}, {"\n\n", ""}, {"x", "x"}, {"x\n\ny", "x y"},
		{"#define f(x) [x]\nf\n(1\n)\n2", "[ 1 ] 2"},
		{"#define f(x) [x]\nf\n#\n(1)", "f ( 1 )"},
		{"#define f(x) [x]\nf\n#pragma\n(1)", "f ( 1 )"},
		{"#define f(x) [x]\nf\n#if 0\n#endif\n(1)", "f ( 1 )"},
		{"#define f(x) [x]\nf\n#if 1\n(1)\n#endif", "f ( 1 )"},
		{"A\n#define A 1\nA\n#undef A\nA\n#define A 2\nA", "A 1 A 2"},
		{"x # define A 1\nA ## #\n## define A", "x # define A 1 A ## # ## define A"},
		{"#define H #\nH define A 1\nA", "# define A 1 A"},
		{"#\\\ndefine A 1\nA", "1"},
		{"/**/ # /* \n */ define /**/ A /**/ 1 // 2\nA", "1"},
	} {
		comesAlone(t, x[0], x[1])
	}
	for _, x := range []struct {
		s    string
		want api.Fault
	}{
		{"#define f(x) x\nf(1\n#\n)", at(api.ErrEnd, 15)},
		{"#define f(x) x\n f(\n#error", at(api.ErrEnd, 16)},
		{"#define f(x) x\n f(1,\n2)", at(api.ErrMany, 16)},
		{"#define f(x) x\nf(1", at(api.ErrEnd, 15)},
		{"#if 1\n#define f(x) x\nf(1", at(api.ErrEnd, 21)},
		{"#define p(x) +##x\np(1)", at(api.ErrPaste, 16)},
	} {
		fails(t, alone(x.s), room, x.want)
	}
	// An included file is neither a part of a call, nor has one begin in it that ends outside.
	comes(t, several("#define f(x) [x]\nf\n#include \"b\"\n(2)", "(1) f"), "f ( 1 ) f ( 2 )", 0, 1)
	fails(t, several("#define f(x) [x]\n#include \"b\"\n)", " f(1"), room, within(api.ErrEnd, 1, 1))
}

// All expansions have their steps together: where each number of steps that is too small ends is told, and that the last one is enough.
func TestG1Fuel(t *testing.T) {
	for _, x := range []struct {
		l api.Files
		// where what each step is taken for stands: file, and byte.
		at [][2]int
	}{
		{several("a b\n#\nc"), [][2]int{{0, 0}, {0, 2}, {0, 6}}},
		{several("#if 0\nno\n#elif 1\nb\n#endif\nc"), [][2]int{{0, 4}, {0, 15}, {0, 17}, {0, 26}}},
		{several("#if 1\na\n#elif 1\nno\n#else\nno\n#endif"), [][2]int{{0, 4}, {0, 6}}},
		{several("#ifdef A\n#else\na\n#endif"), [][2]int{{0, 15}}},
		{several("#if defined A || defined(A)\n#endif\nb"), [][2]int{{0, 4}, {0, 14}, {0, 17}, {0, 35}}},
		{several("#define A 1\n#if A\nA\n#endif"), [][2]int{{0, 16}, {0, 10}, {0, 18}, {0, 10}}},
		{several("a\n#include \"b\"\nc", "b\n"), [][2]int{{0, 0}, {1, 0}, {0, 15}}},
		{several("#include \"b\"\n#include \"b\"\n", "b\n"), [][2]int{{1, 0}, {1, 0}}},
		{several("#if 0\n#if 1 + 1\n#endif\nx\n#endif"), [][2]int{{0, 4}}},
	} {
		for fuel, p := range x.at {
			fails(t, x.l, api.Limits{Fuel: fuel, Out: api.MaxOut, Deep: 1}, within(api.ErrFuel, p[0], p[1]))
		}
		if _, _, f := drive.Run(x.l, 0, nil, api.Limits{Fuel: len(x.at), Out: api.MaxOut, Deep: 1}); f != fine {
			t.Errorf("%q: %v", x.l, f)
		}
	}
}

func TestG1Much(t *testing.T) {
	for _, x := range []struct {
		l    api.Files
		most int
		want api.Fault
	}{
		{several("a"), 0, at(api.ErrMuch, 0)},
		{several("a b c"), 1, at(api.ErrMuch, 2)},
		// What comes out of one expansion is told at the token, of all at the first one that waited.
		{several("a b\n#\nc\nd"), 3, at(api.ErrMuch, 6)},
		{several("a b\n#\nc\nd"), 2, at(api.ErrMuch, 6)},
		{several("a b\n#\nc\nd e"), 2, at(api.ErrMuch, 10)},
		{several("a b\n#\nc\n#\nd"), 3, at(api.ErrMuch, 10)},
		{several("#define A 1 2\n A"), 1, at(api.ErrMuch, 12)},
		{several("#define A 1 2\nx\n#\n A"), 2, at(api.ErrMuch, 19)},
		{several("a\n#include \"b\"\nc", "b"), 1, within(api.ErrMuch, 1, 0)},
		{several("a\n#include \"b\"\nc", "b"), 2, at(api.ErrMuch, 15)},
		// What an #if asks is an expansion, but nothing comes out of it.
		{several("#if 1 + 1\n#endif"), 2, at(api.ErrMuch, 8)},
		{several("#if 1\na\n#endif"), 0, at(api.ErrMuch, 4)},
		// Where a file ends, and a group does not, what waited is told first.
		{several("a\n#if 1\nb"), 1, at(api.ErrMuch, 8)},
	} {
		fails(t, x.l, api.Limits{Fuel: api.MaxFuel, Out: x.most, Deep: 1}, x.want)
	}
	for _, x := range []struct {
		l    api.Files
		want string
		most int
	}{
		{several("#define A\nA\nA A"), "", 0},
		{several("a b\n#\nc\nd"), "a b c d", 4},
		{several("a\n#if 1\n#if 1\nb\n#endif\n#endif"), "a b", 2},
		{several("a\n#include \"b\"\nc", "b"), "a b c", 3},
	} {
		out, _, f := drive.Run(x.l, 0, nil, api.Limits{Fuel: api.MaxFuel, Out: x.most, Deep: 1})
		if texts(out.Tokens) != x.want || f != fine {
			t.Errorf("%q, %d, is %q %v, not %q", x.l, x.most, texts(out.Tokens), f, x.want)
		}
	}
}

func TestG1End(t *testing.T) {
	for _, x := range []struct {
		l    api.Files
		want api.Fault
	}{
		{several("#if 1"), at(api.ErrEnd, 1)},
		{several("# ifdef x\n#else\n"), at(api.ErrEnd, 2)},
		{several("#ifndef x\n#if 0\n#elif 1\n#endif\n"), at(api.ErrEnd, 1)},
		{several("#if 1\n #if 0\n#if 0\n#endif"), at(api.ErrEnd, 8)},
		{several("#if 0\n#include \"b\"\n #if", "#endif"), at(api.ErrEnd, 21)},
		// A group ends in its file.
		{several("#include \"b\"\n#endif", "#if 1"), within(api.ErrEnd, 1, 1)},
		{several("#if 1\n#include \"b\"", "#endif"), within(api.ErrFit, 1, 1)},
		{several("#if 1\n#include \"b\"\n#endif", "#else"), within(api.ErrFit, 1, 1)},
		{several("#if 1\n#include \"b\"", "x"), at(api.ErrEnd, 1)},
	} {
		fails(t, x.l, room, x.want)
	}
}

// Files are told as they begin, each as often as it is read.
func TestG1Read(t *testing.T) {
	comes(t, several("1\n#include \"b\"\n2\n#include \"c\"\n3\n#include \"b\"", "b\n#include \"d\"", "c\n#include \"d\"", "d"), "1 b d 2 c d 3 b d", 0, 1, 3, 2, 3, 1, 3)
	comes(t, several("#include \"b\"", "", "no"), "", 0, 1)
}

func TestG1Macros(t *testing.T) {
	given := defined(t, 7, "A 1", "f(x) [x]", "B")
	out, after, f := drive.Run(alone("A f(2)\n#undef A\n#define C 3\nA C\n#define B\n#if 0\n#undef C\n#define D\n#endif"), 0, given, room)
	if texts(out.Tokens) != "1 [ 2 ] A 3" || names(after) != "f B C" || f != fine {
		t.Errorf("%q %q %v", texts(out.Tokens), names(after), f)
	}
	want := append(given[1:], api.Macro{Name: "C", Body: []api.Token{{Kind: api.TokNum, Text: "3", At: 26, End: 27, Line: 3}}})
	if !reflect.DeepEqual(after, want) {
		t.Errorf("%v, not %v", after, want)
	}
	// A macro that is handed in may stand in no file: what is wrong there is so in none, where no word is near.
	none := defined(t, -1, "P + ## -", "L 1 /", "Z 0 /")
	failsWith(t, alone("P"), none, room, within(api.ErrPaste, -1, 7))
	failsWith(t, alone("x\n#if P"), none, room, at(api.ErrPaste, 3))
	failsWith(t, alone("#if 0\n#elif 1 + L"), none, room, at(api.ErrEnd, 7))
	failsWith(t, alone("#if L 0"), none, room, at(api.ErrZero, 1))
	failsWith(t, alone("#if 1 + L"), none, api.Limits{Fuel: 4, Out: 9}, at(api.ErrFuel, 1))
	failsWith(t, alone("1 + L"), none, api.Limits{Fuel: 4, Out: 9}, within(api.ErrFuel, -1, 4))
}
