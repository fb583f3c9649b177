package neat_test

import (
	"strings"
	"testing"

	"preamble/api"
	"preamble/neat"
)

// none is the fault that is told where there is none.
var none = api.Fault{File: -1}

// holds asks that Text of each first text is the second one.
func holds(t *testing.T, l [][2]string) {
	t.Helper()
	for _, x := range l {
		if got, f := neat.Text(x[0]); got != x[1] || f != none {
			t.Errorf("Text(%q) is %q %v, not %q", x[0], got, f, x[1])
		}
	}
}

func TestL1Lines(t *testing.T) {
	holds(t, [][2]string{
		{"", ""}, {" \t\r\n\n", ""}, {"// a", ""}, {"/* a\n */\n", ""}, {"\\\n", ""},
		{"x", "x\n"}, {"x\n", "x\n"}, {"\n\n  x", "x\n"}, {"x\r\ny", "x\ny\n"}, {"x\ry", "x y\n"},
		{"  x   y\n\n\n\tz", "x y\nz\n"}, {"a\\\nb c", "ab c\n"}, {"a\\\n\nb", "a\nb\n"},
		// A comment is a blank, however many lines it has.
		{"a/*n*/b // m\nc", "a b\nc\n"}, {"a/*\n\n*/b", "a b\n"}, {"/*\n*/a", "a\n"}, {"a//\\\nb\nc", "a\nc\n"},
		{"int   f ( ) {", "int f ( ) {\n"}, {"x+ +y -- -z", "x+ +y -- -z\n"}, {"x+++y", "x+++y\n"}, {"\"a  b\"   'c'", "\"a  b\" 'c'\n"},
		{"#include <a/b.h>", "#include <a/b.h>\n"}, {"#include<a>", "#include <a>\n"}, {"# include \"a\"\n", "# include \"a\"\n"},
		{"@\x80\x00 \xff", "@\x80\x00 \xff\n"},
	})
}

func TestL1Steps(t *testing.T) {
	holds(t, [][2]string{
		{"int f(){\nreturn 1;\n}", "int f(){\n  return 1;\n}\n"},
		{"{\na\n{\nb\n}\nc\n}\nd", "{\n  a\n  {\n    b\n  }\n  c\n}\nd\n"},
		{"\t{\r\n\tq\r\n}", "{\n  q\n}\n"},
		{"{\nx", "{\n  x\n"}, {"    x\n  y", "x\ny\n"},
		{"a{b{c\nd}e}f\ng", "a{b{c\n    d}e}f\ng\n"},
		{"{ }\nx", "{ }\nx\n"}, {"{{\nx\n}}\ny", "{{\n    x\n  }}\ny\n"},
		{"if (a) {\nb;\n} else {\nc;\n}\nd", "if (a) {\n  b;\n} else {\n  c;\n}\nd\n"},
		// Of the signs } that a line begins with only one takes a step away ahead of it.
		{"{{{\n}}\nx\n} }\ny", "{{{\n    }}\n  x\n} }\ny\n"},
		// One that the line does not begin with takes none away ahead of it.
		{"{\nx }\ny", "{\n  x }\ny\n"}, {"{\n; } {\ny", "{\n  ; } {\n  y\n"},
		// Those that are not open are not closed, and don't make up for later ones.
		{"}", "}\n"}, {"}\nx", "}\nx\n"}, {"{\n{\n}\n}\n}\n}", "{\n  {\n  }\n}\n}\n}\n"}, {"}}}{\nx", "}}}{\n  x\n"}, {"} {\nx\n}", "} {\n  x\n}\n"}, {"{ } } {\nx", "{ } } {\n  x\n"}, {"{\n} } {\nx", "{\n} } {\n  x\n"},
		// From the left: first closed, then opened, and the other way round.
		{"}{\nx", "}{\n  x\n"}, {"{}\nx", "{}\nx\n"},
		// Other brackets are none, nor is what a text, a character or a comment has.
		{"(\n[\nx", "(\n[\nx\n"}, {"\"{\"\nx", "\"{\"\nx\n"}, {"'{'\nx", "'{'\nx\n"}, {"a // {\nx", "a\nx\n"}, {"a /* { */\nx", "a\nx\n"}, {"{\n\"}\"\nx", "{\n  \"}\"\n  x\n"}, {"{\n'}' }\nx", "{\n  '}' }\nx\n"}, {"#\n\"#\"{\nx", "#\n\"#\"{\n  x\n"},
		// A joined line is one; a sign may stand behind a comment, or a joined end of a line.
		{"{\\\n{\nx", "{{\n    x\n"}, {"{\n\\\n}", "{\n}\n"}, {"{\n/* */ }", "{\n}\n"}, {"{ /*\n*/ }\nx", "{ }\nx\n"},
	})
}

func TestL1Hash(t *testing.T) {
	holds(t, [][2]string{
		{"#define A {\nx\n  #  if 1\n{\n#endif\ny\n}", "#define A {\nx\n# if 1\n{\n#endif\n  y\n}\n"},
		{"{\n#define B }\nx\n}", "{\n#define B }\n  x\n}\n"},
		{"{\n{\n  #\nx", "{\n  {\n#\n    x\n"},
		{"{\n# }\n# { {\nx", "{\n# }\n# { {\n  x\n"},
		{"#define A { \\\n  { \\\n  }\nx", "#define A { { }\nx\n"},
		{"{\n/* */ # x {\ny", "{\n# x {\n  y\n"}, {"{\n\\\n#x {\ny", "{\n#x {\n  y\n"},
		// Only the sign #, and only as the first one.
		{"{\n##\nx", "{\n  ##\n  x\n"}, {"## {\nx", "## {\n  x\n"}, {"{\nx # }\ny", "{\n  x # }\ny\n"}, {"x # {\ny", "x # {\n  y\n"}, {"} # {\nx", "} # {\n  x\n"}, {"{\n'#' {\nx", "{\n  '#' {\n    x\n"}, {"/*\n*/ x # {\ny", "x # {\n  y\n"},
	})
}

func TestL1Backslash(t *testing.T) {
	holds(t, [][2]string{
		{`\`, "\\ \n"}, {"\\ \nx", "\\ \nx\n"}, {"a\\ \nb", "a\\ \nb\n"}, {"a \\\t\r\nb", "a \\ \nb\n"}, {"a \\// c\nb", "a \\ \nb\n"}, {"a \\/**/\nb", "a \\ \nb\n"},
		// What is left of a \ and two ends of lines, where only one is joined.
		{"a\\\\\n\nb", "a\\ \nb\n"}, {"a\\\\\r\n\r\nb", "a\\ \nb\n"},
		{"\\\\", "\\\\ \n"}, {"\\ \\", "\\ \\ \n"}, {"#define A \\ \nb", "#define A \\ \nb\n"}, {"{\n\\ \n}", "{\n  \\ \n}\n"},
		// Only where it is a token, and the last one.
		{"\\a", "\\a\n"}, {"\\ a", "\\ a\n"}, {`"\\"`, "\"\\\\\"\n"}, {`'\''`, "'\\''\n"}, {"a \\\nb", "a b\n"}, {"#include <a\\>", "#include <a\\>\n"},
	})
}

// A sign < that no path begins, as a comment ends its line, is one with > behind it when the comment is a blank: L1 asks for Join of the line, and for nothing more.
func TestL1PathParted(t *testing.T) {
	holds(t, [][2]string{{"#include <a /*\n*/ >", "#include <a >\n"}})
}

func TestL1Faults(t *testing.T) {
	for _, x := range []struct {
		s  string
		at int
	}{
		{`"open`, 0}, {"/* open", 0}, {"'", 0}, {"a\n{ \"b\n\"", 4}, {"x\\\n/*", 3}, {"don't", 3}, {"#include <a\n'", 12},
		// What is read has its fault ahead of what would be written.
		{strings.Repeat("{\n", 60) + "'", 120}, {strings.Repeat("x", api.MaxText-1) + `"`, api.MaxText - 1},
	} {
		want := api.Fault{Err: api.ErrEnd, File: 0, At: x.at}
		if got, f := neat.Text(x.s); got != "" || f != want {
			t.Errorf("Text(%q) is %q %v, not %v", x.s, got, f, want)
		}
	}
}

func TestL1Much(t *testing.T) {
	repeat := strings.Repeat
	for _, x := range []struct {
		s    string
		size int // of what is written, if it may be
	}{
		{repeat(" ", api.MaxText), 0}, {repeat("\\\n", api.MaxText/2), 0}, {repeat("x", api.MaxText-1), api.MaxText}, {repeat("x\n", api.MaxText/2), api.MaxText}, {repeat("x", api.MaxText-3) + `\`, api.MaxText},
		{"{\n" + repeat("x", api.MaxText-5), api.MaxText}, {"{\n" + repeat("x", api.MaxText-9) + "\n}", api.MaxText - 2},
		{repeat("{\n", 54), 54 * 55}, {repeat("{\n", 54) + "#" + repeat("x", 28), api.MaxText}, {repeat("{", 1400) + "\n#" + repeat("x", 1597), api.MaxText},
		{"#" + repeat("{", 1400) + "\nx", 1404},
	} {
		got, f := neat.Text(x.s)
		if len(got) != x.size || f != none {
			t.Errorf("%d bytes, %.20q: %d bytes and %v, not %d", len(x.s), x.s, len(got), f, x.size)
		}
	}
	for _, s := range []string{
		repeat(" ", api.MaxText+1), repeat("x", api.MaxText+1), repeat("\"", api.MaxText+1),
		repeat("x", api.MaxText), repeat("x\n", api.MaxText/2-1) + "xx", repeat("x", api.MaxText-2) + `\`,
		"{\n" + repeat("x", api.MaxText-4), repeat("{\n", 55), repeat("{\n", 54) + "#" + repeat("x", 29), repeat("{\n", api.MaxText/2), repeat("{", api.MaxText-2) + "\nx", repeat("x\n", 1400) + repeat("{\n", 20),
		// It is too much, though what comes behind is less.
		repeat("{\n", 60) + repeat("}", 60) + "\nx",
		"#include<" + repeat("a", api.MaxText-11) + ">",
	} {
		if got, f := neat.Text(s); got != "" || f != (api.Fault{Err: api.ErrMuch}) {
			t.Errorf("%d bytes, %.20q: %d bytes and %v", len(s), s, len(got), f)
		}
	}
}

// One call leaves nothing behind for the next one, even if it ended with a fault.
func TestNothingKept(t *testing.T) {
	for _, s := range []string{"{", "}", "# {", "{ \"", strings.Repeat("{\n", 60), "\\"} {
		neat.Text(s)
		if got, f := neat.Text("x {\ny\n}"); got != "x {\n  y\n}\n" || f != none {
			t.Errorf("behind %.20q: %q %v", s, got, f)
		}
	}
}
