package rename_test

import (
	"reflect"
	"strconv"
	"strings"
	"testing"

	"preamble/api"
	"preamble/files"
	"preamble/rename"
)

var room = api.Limits{Fuel: api.MaxFuel, Out: api.MaxOut, Deep: api.MaxDeep}

// made answers files of these texts, of which the last one is read first: h0.h, h1.h and so on, and m.c.
func made(texts ...string) (l api.Files, root int) {
	root = len(texts) - 1
	for i, s := range texts {
		path := "h" + strconv.Itoa(i) + ".h"
		if i == root {
			path = "m.c"
		}
		l = append(l, api.Source{Path: path, Text: s})
	}
	return l, root
}

// marked is made, without the mark @ that one of the texts has; and where that stood.
func marked(t *testing.T, texts ...string) (l api.Files, root, file, at int) {
	t.Helper()
	l, root = made(texts...)
	file = -1
	for i, f := range l {
		if k := strings.Index(f.Text, "@"); k >= 0 {
			file, at = i, k
			l[i].Text = f.Text[:k] + f.Text[k+1:]
		}
	}
	if file < 0 {
		t.Fatalf("%q have no mark", texts)
	}
	return l, root, file, at
}

// becomes: what stands behind the mark in these texts may be called name; then they are want.
func becomes(t *testing.T, name string, texts []string, want ...string) {
	t.Helper()
	l, root, file, at := marked(t, texts...)
	out, edits, f := rename.To(l, root, file, at, name, room)
	if f != (api.Fault{File: -1}) {
		t.Errorf("%q to %s: %v", texts, name, f)
		return
	}
	must, _ := made(want...)
	if !reflect.DeepEqual(out, must) {
		t.Errorf("%q to %s: %q, not %q", texts, name, out, must)
	}
	again, err := files.Change(l, edits)
	if err != api.OK || !reflect.DeepEqual(again, out) {
		t.Errorf("%q to %s: edits %v make %q of it (%v)", texts, name, edits, again, err)
	}
}

// may: it is told, in no file, why what stands behind the mark may not be called name.
func may(t *testing.T, err api.Errno, name string, texts ...string) {
	t.Helper()
	l, root, file, at := marked(t, texts...)
	refuses(t, l, root, file, at, name, room, api.Fault{Err: err, File: -1})
}

func refuses(t *testing.T, l api.Files, root, file, at int, name string, limits api.Limits, want api.Fault) {
	t.Helper()
	out, edits, f := rename.To(l, root, file, at, name, limits)
	if f != want || len(out) != 0 || len(edits) != 0 {
		t.Errorf("%q, byte %d of file %d, to %.20q: %q, %v and %v, not %v", l, at, file, name, out, edits, f, want)
	}
}

func one(s string) []string { return []string{s} }

func TestK1Names(t *testing.T) {
	becomes(t, "y", one("int @x;"), "int y;")
	becomes(t, "y", one("int @x; int z = x;"), "int y; int z = y;")
	becomes(t, "y", one("int x; int z = @x;"), "int y; int z = y;")
	becomes(t, "longer", one("int x[3], *p = @x, q = x[x[0]];"), "int longer[3], *p = longer, q = longer[longer[0]];")
	becomes(t, "y", one("int @longer, z = longer+longer;"), "int y, z = y+y;")
	becomes(t, "g", one("int f(int n) { return @f(n - 1); } int h() { return f(2); }"), "int g(int n) { return g(n - 1); } int h() { return g(2); }")
	becomes(t, "m", one("int f(int @n, char *c) { return n + c[n]; }"), "int f(int m, char *c) { return m + c[m]; }")
	becomes(t, "U", one("typedef int T; @T *p; T f(T a) { T b; return a; }"), "typedef int U; U *p; U f(U a) { U b; return a; }")
	becomes(t, "y", one("int f() { while (1) { int x; if (x) return @x; else x = 1; } }"), "int f() { while (1) { int y; if (y) return y; else y = 1; } }")
	becomes(t, "_1", one("int /* x */ @x; // x\nchar *s = \"x\"; int c = 'x' + x;"), "int /* x */ _1; // x\nchar *s = \"x\"; int c = 'x' + _1;")
}

// Each byte of a token is its own, the first one and the last one too; those beside it are not.
func TestK1Bytes(t *testing.T) {
	for _, s := range []string{"int @abc; int z;", "int a@bc; int z;", "int ab@c; int z;"} {
		becomes(t, "y", one(s), "int y; int z;")
	}
	for _, s := range []string{"int@ abc; int z;", "int abc@; int z;", "int abc;@ int z;", "int abc; int z;@", "@int abc; int z;", "i@nt abc;"} {
		may(t, api.ErrNone, "y", s)
	}
}

// Only what means it is called otherwise, and not what has the same text.
func TestK1OthersStay(t *testing.T) {
	becomes(t, "y", one("int @x; int f(int x) { return x; } int g() { int x = x; return x; } int h() { return x; }"),
		"int y; int f(int x) { return x; } int g() { int x = x; return x; } int h() { return y; }")
	becomes(t, "y", one("int x; int f(int @x) { return x; } int g() { return x; }"), "int x; int f(int y) { return y; } int g() { return x; }")
	becomes(t, "y", one("int x; int f() { x; int x; { x = 1; int x; x = 2; } return @x; }"), "int x; int f() { x; int y; { y = 1; int x; x = 2; } return y; }")
	becomes(t, "x", one("int x; int f() { int @y; return y; }"), "int x; int f() { int x; return x; }")
	becomes(t, "y", one("#if 0\nx\n#endif\nint @x;\n#ifdef x\n#error x\n#endif\n#pragma x\n#define N(x) x x\n"),
		"#if 0\nx\n#endif\nint y;\n#ifdef x\n#error x\n#endif\n#pragma x\n#define N(x) x x\n")
}

// What it is called already it may be called again.
func TestK1Itself(t *testing.T) {
	becomes(t, "x", one("int @x; int y = x;"), "int x; int y = x;")
	becomes(t, "ab", one("int @a\\\nb; int c = a\\\r\nb + \\\nab;"), "int ab; int c = ab + \\\nab;")
}

// A name is edited with the ends of lines that stand in it, and not with those that stand around it.
func TestK1Joined(t *testing.T) {
	for _, s := range []string{"int \\\n@a\\\nb\\\n; int c = ab;", "int \\\na@\\\nb\\\n; int c = ab;", "int \\\na\\@\nb\\\n; int c = ab;", "int \\\na\\\n@b\\\n; int c = ab;"} {
		becomes(t, "y", one(s), "int \\\ny\\\n; int c = y;")
	}
	for _, s := range []string{"int @\\\na\\\nb\\\n;", "int \\@\na\\\nb\\\n;", "int \\\na\\\nb@\\\n;", "int \\\na\\\nb\\@\n;"} {
		may(t, api.ErrNone, "y", s)
	}
}

func TestK1Macros(t *testing.T) {
	becomes(t, "y", one("#define SET(a, b) a = b\nint f(int x) { SET(@x, 1); SET(x, x); }"), "#define SET(a, b) a = b\nint f(int y) { SET(y, 1); SET(y, y); }")
	becomes(t, "h", one("#define USE g\nint g; int x = USE + @g;"), "#define USE h\nint h; int x = USE + h;")
	becomes(t, "h", one("#define USE @g\nint g; int x = USE + g;"), "#define USE h\nint h; int x = USE + h;")
	becomes(t, "h", one("#define OWN { int t; @t = 1; }\nint t; int f() { OWN t = 2; }"), "#define OWN { int h; h = 1; }\nint t; int f() { OWN t = 2; }")
	becomes(t, "y", one("#define INT int\nINT @x; INT z = x;"), "#define INT int\nINT y; INT z = y;")
	becomes(t, "y", one("#define A B\n#define B(v) v + x\nint @x; int z = A(x);"), "#define A B\n#define B(v) v + y\nint y; int z = A(y);")
	// What nothing was pasted to still stands in a file.
	becomes(t, "y", one("#define C(a, b) a##b\nint C(@x, ); int z = C(, x) + x;"), "#define C(a, b) a##b\nint C(y, ); int z = C(, y) + y;")
}

// Files that are included are changed too; one that is not may have what it will.
func TestK1Files(t *testing.T) {
	becomes(t, "h", []string{"#pragma once\nint @g;\n", "#include \"h0.h\"\n#define USE g\n", "int g = \"", "#include \"h0.h\"\n#include \"h1.h\"\nint f(int h0) { return USE + g; }\n"},
		"#pragma once\nint h;\n", "#include \"h0.h\"\n#define USE h\n", "int g = \"", "#include \"h0.h\"\n#include \"h1.h\"\nint f(int h0) { return USE + h; }\n")
	becomes(t, "h", []string{"int g;\n", "g = 1;", "#include \"h0.h\"\nint f() {\n#include \"h1.h\"\n@g = 2;\n#include \"h1.h\"\n}\n"},
		"int h;\n", "h = 1;", "#include \"h0.h\"\nint f() {\n#include \"h1.h\"\nh = 2;\n#include \"h1.h\"\n}\n")
	may(t, api.ErrNone, "h", "int @g;\n", "int g;\n")
}

// Edits come in the order of tokens, bytes of which several came but once.
func TestK1Edits(t *testing.T) {
	l, root := made("#define TWO(v) v + v + g\nint f(int g) { return g; }\nint g;\n", "#include \"h0.h\"\nint x = TWO(g) + TWO(1);\nint y = g;\n")
	want := []api.Edit{
		{File: 0, From: 56, To: 57, Text: "_new"}, {File: 1, From: 28, To: 29, Text: "_new"},
		{File: 0, From: 23, To: 24, Text: "_new"}, {File: 1, From: 49, To: 50, Text: "_new"},
	}
	for _, e := range want {
		out, edits, f := rename.To(l, root, e.File, e.From, "_new", room)
		if f != (api.Fault{File: -1}) || !reflect.DeepEqual(edits, want) {
			t.Errorf("%v and %v, not %v", edits, f, want)
		}
		if must, _ := files.Change(l, want); !reflect.DeepEqual(out, must) {
			t.Errorf("%q, not %q", out, must)
		}
	}
}

// Where nothing stands, or what means nothing, there is nothing to be called otherwise: whatever name it would be.
func TestK1None(t *testing.T) {
	for _, name := range []string{"y", "x", "int", "1x", ""} {
		for _, s := range []string{
			"int x = @1;", "int x @= 1;", "int x;\n@ ", "int x;@", "@", "int x; // @x", "char *s = \"@x\"; int x;", "int x; int c = '@x';", "int f() { @return 1; }",
			"#@define x y\nint x;", "#define @x y\nint x;", "#define x(@a) a\nint y = x(1);", "#define y @x\nint x;", "#if 0\n@x\n#endif\nint x;", "#ifndef @x\nint x;\n#endif",
			"#define y x\nint x; int z = @y;", "#define M(a) int\n M(@x) x;", "#define S(a) #a\nint x; char *s = S(@x);", "#define C(a, b) a##b\nint C(@x, y);", "#define C(a, b) a##b\nint C(x, @y);",
		} {
			may(t, api.ErrNone, name, s)
		}
	}
	l, root := made("int x;", "int y;")
	for _, place := range [][2]int{{1, -1}, {1, 6}, {1, 7}, {-1, 4}, {2, 4}, {0, 4}, {1 << 62, 1 << 62}, {-1 << 63, -1 << 63}, {1, 1<<63 - 1}, {1, -1 << 63}} {
		refuses(t, l, root, place[0], place[1], "z", room, api.Fault{Err: api.ErrNone, File: -1})
	}
}

// One byte may have come out several times: if these don't mean the same, it is none of them.
func TestK1Two(t *testing.T) {
	for _, s := range []string{
		"#define F(a) int f(int a) { } int a;\nF(@x)",
		"#define OWN { int t; @t = 1; }\nint f() { OWN OWN }",
		"#define X @x\nint x; int f(int X) { return x; } int g = X;",
		"#define USE @x\nint x; int f() { USE; int x; USE; }",
	} {
		may(t, api.ErrNone, "y", s)
		may(t, api.ErrNone, "int", s)
	}
	may(t, api.ErrNone, "y", "int @x; x = 2;\n", "#define f int f() {\nint g() {\n#include \"h0.h\"\n} f\n#include \"h0.h\"\n}")
	// Used twice, and the same.
	becomes(t, "y", one("#define F(a) int f(int a) { return a; }\nF(@x)"), "#define F(a) int f(int a) { return a; }\nF(y)")
}

// Bytes of which something else came, too, may not be called otherwise, even if those that were asked for mean one thing.
func TestK1Shared(t *testing.T) {
	may(t, api.ErrMay, "y", "#define USE x\nint x; int f() { USE; int @x; USE; }")
	may(t, api.ErrMay, "y", "#define USE x\nint @x; int f() { USE; int x; USE; }")
	may(t, api.ErrMay, "y", "x = 1;\n", "int @x; int f() {\n#include \"h0.h\"\nint x;\n#include \"h0.h\"\n}")
}

func TestK1Name(t *testing.T) {
	for _, name := range []string{
		"", " ", "1x", "1", "x ", " x", "x y", "x.y", "x\n", "\\\nx", "x\\\ny", "+", "\"x\"", "'x'", "\x00", "\xff", "\xc3\xa4", "x\x00", "$", "#", "@",
		"int", "char", "long", "void", "typedef", "if", "else", "while", "return",
	} {
		may(t, api.ErrName, name, "int @x; int y = x;")
		// Ahead of ErrMay and ErrMuch.
		may(t, api.ErrName, name, "#define C(a, b) a##b\nint C(x, y); int z = @xy;")
	}
	may(t, api.ErrName, strings.Repeat("x", 5000)+" ", "int @x;")
	for _, name := range []string{"Int", "ints", "_int", "i", "for", "struct", "defined", "__VA_ARGS__", "A9", "_", "__"} {
		becomes(t, name, one("int @x;"), "int "+name+";")
	}
}

// What was made stands in no file.
func TestK1Made(t *testing.T) {
	glue := "#define C(a, b) a##b\n"
	may(t, api.ErrMay, "y", glue+"int C(a, b); int z = @ab;")
	may(t, api.ErrMay, "y", glue+"int @ab; int z = C(a, b);")
	may(t, api.ErrMay, "ab", glue+"int @ab; int z = C(a, b);")
	may(t, api.ErrMay, "y", glue+"typedef int C(T, 1); @T1 x;")
	becomes(t, "y", one(glue+"int ab; int f(int @ab) { return ab; } int z = C(a, b);"), glue+"int ab; int f(int y) { return y; } int z = C(a, b);")
	// Ahead of ErrMuch.
	may(t, api.ErrMay, strings.Repeat("y", 5000), glue+"int @ab; int z = C(a, b);")
}

// What comes out must be what it was.
func TestK1NotTheSameTokens(t *testing.T) {
	for _, k := range []struct{ name, text string }{
		{"M", "#define M 1\nint @x; int y = x;"},                                                     // it can't be read any more
		{"M", "#define M m\nint @x; int y = x;"},                                                     // another text, all names
		{"M", "#define M y\nint f() { int y; { int @x; x = 1; } }"},                                  // another text, of another name
		{"M", "#define M\nint f() { int x; @x; }"},                                                   // not as many, and they can't be read
		{"M", "#define M x\nint @x; int y = x;"},                                                     // the old text
		{"M", "#define M (M)\nint x; int y = @x;"},                                                   // more of them
		{"M", "#define M(a) a\nint @x; int y = x (1);"},                                              // called
		{"__LINE__", "int @x; int y = x;"},                                                           // no name
		{"__FILE__", "int f() { int @x; }"},                                                          // no name
		{"y", "#define S(a) a + #a\nint @x; char *s = S(x);"},                                        // the text in quotes
		{"y", "#define C(a) a; int a##1\nint f() { int x; C(@x); }"},                                 // what is pasted
		{"y", "#define C(a) a##1 = a\nint x1; int @x; int f() { C(x); }"},                            // what is pasted can't be found any more
		{"v", "#define P(v) v + g\nint @g; int z = P(1);"},                                           // a parameter
		{"__VA_ARGS__", "#define P() g\nint @g; int z = P();"},                                       // in a body without ...
		{"y", "#define U g\n#define U g\nint @g; int z = U;"},                                        // defined twice, and not the same any more
		{"y", "int @a\\\nb; int z = __LINE__;"},                                                      // a line less
		{"ab", "int @a\\\nb; int z = __LINE__;"},                                                     // a line less, too
		{"y", "#define A x\n#define B(v) C(v)\n#define C(v) #v\nint @x; int z = A; char *s = B(A);"}, // what a call's argument is expanded to is quoted
	} {
		may(t, api.ErrMay, k.name, k.text)
	}
	// A macro that stands for just its own name changes nothing; nor does one that is not called.
	becomes(t, "M", one("#define M M\nint @x; int y = x;"), "#define M M\nint M; int y = M;")
	becomes(t, "M", one("#define M(a) a\nint @x; int y = x;"), "#define M(a) a\nint M; int y = M;")
	becomes(t, "M", one("int @x; int y = x;\n#define M 1\n"), "int M; int y = M;\n#define M 1\n")
	becomes(t, "M", one("#define M 1\n#undef M\nint @x; int y = x;"), "#define M 1\n#undef M\nint M; int y = M;")
	becomes(t, "y", one("int @ab; int z = __LINE__ + ab;"), "int y; int z = __LINE__ + y;")
}

// What comes out must mean what it meant.
func TestK1NotTheSameMeaning(t *testing.T) {
	for _, k := range []struct{ name, text string }{
		{"y", "int y; int @x;"}, // made already
		{"y", "int @x; int y;"}, // made again
		{"f", "int @x; int f() { }"},
		{"b", "int f(int @a, int b) { }"},
		{"b", "int f(int @a) { int b; }"},
		{"y", "int @x; int f() { int y; return x; }"}, // hidden where it is used
		{"y", "int @x; int f(int y) { return x; }"},
		{"x", "int x; int f() { int @y; return x; }"}, // hides what is used
		{"x", "int x; int f(int @y) { { return x; } }"},
		{"f", "int f(int @n) { return f(n); }"},
		{"T", "typedef int T; int f(int @x) { T y; }"},          // no type any more
		{"x", "int x; int f() { typedef int @T; x * 2; }"},      // a type, where there was none
		{"x", "int x; int f(int p) { typedef int @T; x * p; }"}, // a declaration, where there was none
	} {
		may(t, api.ErrMay, k.name, k.text)
	}
	// Where nothing is used by that name it may be hidden, or hide another.
	becomes(t, "y", one("int @x; int f(int y) { return y; } int g() { return x; }"), "int y; int f(int y) { return y; } int g() { return y; }")
	becomes(t, "x", one("int x; int f(int @y) { return y; } int g() { return x; }"), "int x; int f(int x) { return x; } int g() { return x; }")
	becomes(t, "f", one("int f(int @n) { return n; }"), "int f(int f) { return f; }")
	becomes(t, "x", one("int f() { { int x; } { int @y; } }"), "int f() { { int x; } { int x; } }")
}

// A file may become as long as files may be, and not longer.
func TestK1Much(t *testing.T) {
	text := "int @x; int z = x;"
	size := len(text) - 1
	name := strings.Repeat("y", (api.MaxText-size)/2+1)
	pad := strings.Repeat(" ", api.MaxText-size-2*(len(name)-1))
	becomes(t, name, one(text+pad), "int "+name+"; int z = "+name+";"+pad)
	may(t, api.ErrMuch, name, text+pad+" ")
	may(t, api.ErrMuch, name+"y", text+pad)
	may(t, api.ErrMuch, strings.Repeat("y", api.MaxText+1), text)
	may(t, api.ErrMuch, strings.Repeat("y", 1<<20), "int @x;", "#include \"h0.h\"\nint z = x;")
	// Ahead of what comes of the files.
	may(t, api.ErrMuch, "longer", "int longer; int @x;"+strings.Repeat(" ", api.MaxText-19))
}

// The limits are those of both readings: what one more step would be needed for is not done.
func TestK1Limits(t *testing.T) {
	l, root := made("#define M M\nint x;")
	tight := api.Limits{Fuel: 3, Out: 3}
	if out, _, f := rename.To(l, root, 0, 16, "y", tight); f != (api.Fault{File: -1}) || out[0].Text != "#define M M\nint y;" {
		t.Errorf("%q and %v", out, f)
	}
	refuses(t, l, root, 0, 16, "M", tight, api.Fault{Err: api.ErrMay, File: -1})
	refuses(t, l, root, 0, 16, "y", api.Limits{Fuel: 2, Out: 3}, api.Fault{Err: api.ErrFuel, At: 17})
	refuses(t, l, root, 0, 16, "y", api.Limits{Fuel: 3, Out: 2}, api.Fault{Err: api.ErrMuch, At: 17})
}
