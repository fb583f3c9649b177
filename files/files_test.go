package files_test

import (
	"slices"
	"strings"
	"testing"

	"preamble/api"
	"preamble/files"
)

func p(n int) string { return strings.Repeat("p", n) }

func TestA1Clean(t *testing.T) {
	for _, s := range []string{
		"a", "Z", "0", "_", "a.h", "a/b", "a/b/c.h", "...", ".a", "a.", "..a", "a../b", "_/9", "AZaz09._", "a/.../b",
		p(api.MaxPath), "a/" + p(api.MaxPath-2),
	} {
		if !files.Clean(s) {
			t.Errorf("%q is a path", s)
		}
	}
	for _, s := range []string{
		"", "/", "//", "/a", "a/", "a//b", ".", "..", "./a", "../a", "a/.", "a/..", "a/./b", "a/../b",
		"a b", "x-y", `a\b`, "a\x00", "a\n", "\xff", "\u00e4", "\u0661", "\u212a",
		p(api.MaxPath + 1), "a/" + p(api.MaxPath-1),
	} {
		if files.Clean(s) {
			t.Errorf("%q is no path", s)
		}
	}
}

func TestA1CleanByte(t *testing.T) {
	const good = "abcdefghijklmnopqrstuvwxyzABCDEFGHIJKLMNOPQRSTUVWXYZ0123456789._"
	for c := range 256 {
		s := "a" + string([]byte{byte(c)}) + "b"
		want := c == '/' || strings.IndexByte(good, byte(c)) >= 0
		if files.Clean(s) != want {
			t.Errorf("Clean(%q) is %v", s, !want)
		}
	}
}

func TestA1Wrong(t *testing.T) {
	full := strings.Repeat("x", api.MaxText)
	eight := api.Files{}
	for c := range api.MaxFiles {
		eight = append(eight, api.Source{Path: string(rune('a' + c)), Text: full})
	}
	for _, x := range []struct {
		l    api.Files
		want api.Fault
	}{
		{nil, api.Fault{File: -1}},
		{api.Files{}, api.Fault{File: -1}},
		{eight, api.Fault{File: -1}},
		{append(slices.Clone(eight), api.Source{Path: "z"}), api.Fault{Err: api.ErrMany, File: -1}},
		{make(api.Files, api.MaxFiles+1), api.Fault{Err: api.ErrMany, File: -1}},
		{make(api.Files, 1), api.Fault{Err: api.ErrName}},
		{api.Files{{Path: "a"}, {Path: "b/"}}, api.Fault{Err: api.ErrName, File: 1}},
		{api.Files{{Path: "a"}, {Path: "b", Text: full + "x"}}, api.Fault{Err: api.ErrMuch, File: 1}},
		{api.Files{{Path: "a"}, {Path: "c"}, {Path: "b"}}, api.Fault{Err: api.ErrForm, File: 2}},
		{api.Files{{Path: "a"}, {Path: "a"}}, api.Fault{Err: api.ErrForm, File: 1}},
		{api.Files{{Path: "a.h"}, {Path: "a/h"}, {Path: "a0h"}, {Path: "aAh"}, {Path: "a_h"}, {Path: "aah"}}, api.Fault{File: -1}},
		{api.Files{{Path: "aa"}, {Path: "a"}}, api.Fault{Err: api.ErrForm, File: 1}},
		// In one file the name comes first, then the text, then the order; an earlier file comes ahead of all.
		{api.Files{{Path: "b"}, {Path: "", Text: full + "x"}}, api.Fault{Err: api.ErrName, File: 1}},
		{api.Files{{Path: "b"}, {Path: "a", Text: full + "x"}}, api.Fault{Err: api.ErrMuch, File: 1}},
		{api.Files{{Path: "b", Text: full + "x"}, {Path: ".."}}, api.Fault{Err: api.ErrMuch}},
		{api.Files{{Path: "b"}, {Path: "a"}, {Path: ".."}}, api.Fault{Err: api.ErrForm, File: 1}},
	} {
		if got := files.Wrong(x.l); got != x.want {
			t.Errorf("Wrong(%d files) is %v, not %v", len(x.l), got, x.want)
		}
	}
}

func TestA1Find(t *testing.T) {
	// Not in order, and one twice: Find asks nothing of its list.
	l := api.Files{{Path: "b"}, {Path: "a/b"}, {Path: "b", Text: "2"}, {Path: "-"}}
	for path, want := range map[string]int{"b": 0, "a/b": 1, "-": 3, "a": -1, "": -1, "B": -1, "b/": -1} {
		if got := files.Find(l, path); got != want {
			t.Errorf("Find(%q) is %d, not %d", path, got, want)
		}
	}
	if got := files.Find(nil, "a"); got != -1 {
		t.Errorf("Find in nothing is %d", got)
	}
	if got := files.Find(l[:1:1], "a/b"); got != -1 {
		t.Errorf("Find looks behind its list: %d", got)
	}
}

func TestA2Beside(t *testing.T) {
	for _, x := range [][3]string{
		{"a/x.h", "b.h", "a/b.h"},
		{"x.h", "b.h", "b.h"},
		{"", "b.h", "b.h"},
		{"a/b/x.h", "c/d.h", "a/b/c/d.h"},
		{"a/b/x.h", "../d.h", "a/d.h"},
		{"a/b/x.h", "../../d.h", "d.h"},
		{"a/b/x.h", "../../../d.h", ""},
		{"x.h", "..", ""},
		{"x.h", "../b.h", ""},
		{"x.h", "../a/../b.h", ""},
		{"x.h", "a/../b.h", "b.h"},
		{"x.h", "a/../../b.h", ""},
		{"x.h", "a/b/../../c", "c"},
		{"a/x.h", ".", "a"},
		{"a/x.h", "./b", "a/b"},
		{"a/x.h", "b/.", "a/b"},
		{"a/x.h", "..", ""},
		{"a/x.h", "...", "a/..."},
		{"a/b/x.h", "..", "a"},
		{"x.h", ".", ""},
		{"x.h", "", ""},
		{"a/x.h", "", ""},
		{"a/x.h", "/b", ""},
		{"a/x.h", "b/", ""},
		{"a/x.h", "b//c", ""},
		// An empty piece is a piece like others, until .. takes it away.
		{"a/x.h", "b//../c", "a/b/c"},
		{"a/x.h", "/../c", "a/c"},
		{"/", "a", ""},
		{"/", "../a", "a"},
		{"/", "../../a", ""},
		{"//", "../a", ""},
		{"//", "../../a", "a"},
		{"a//x", "b", ""},
		{"a//x", "../b", "a/b"},
		{"a/", "b", "a/b"},
		// Only path's pieces are walked; from's stand as they are.
		{"a/../x", "b", ""},
		{"a/../x", "../b", "a/b"},
		{"a/./x", "../b", "a/b"},
		{"-/x", "b", ""},
		{"-/x", "../b", "b"},
		{"a/x", "b-c", ""},
		{"a/x", "b-c/../d", "a/d"},
		{"x", p(40), p(40)},
		{"x", p(41), ""},
		{"x", p(41) + "/../a", "a"},
		{"d/x", p(38), "d/" + p(38)},
		{"d/x", p(39), ""},
		{p(41) + "/x", "../a", "a"},
	} {
		if got := files.Beside(x[0], x[1]); got != x[2] {
			t.Errorf("Beside(%q, %q) is %q, not %q", x[0], x[1], got, x[2])
		}
	}
}

// pieces walks as the chapter's words do, on a list of pieces.
func pieces(from, path string) string {
	var way []string
	if last := strings.LastIndex(from, "/"); last >= 0 {
		way = strings.Split(from[:last], "/")
	}
	for _, piece := range strings.Split(path, "/") {
		switch {
		case piece == "..":
			if len(way) == 0 {
				return ""
			}
			way = way[:len(way)-1]
		case piece != ".":
			way = append(way, piece)
		}
	}
	out := strings.Join(way, "/")
	if !files.Clean(out) {
		return ""
	}
	return out
}

// texts answers all texts of up to n bytes of these letters.
func texts(letters string, n int) []string {
	out := []string{""}
	for from := 0; n > 0; n-- {
		to := len(out)
		for _, s := range out[from:to] {
			for i := range len(letters) {
				out = append(out, s+letters[i:i+1])
			}
		}
		from = to
	}
	return out
}

func TestA2BesideAll(t *testing.T) {
	for _, from := range texts("a./", 4) {
		for _, path := range texts("a./", 7) {
			if got, want := files.Beside(from, path), pieces(from, path); got != want {
				t.Fatalf("Beside(%q, %q) is %q, not %q", from, path, got, want)
			}
		}
	}
}

func TestA2Include(t *testing.T) {
	l := api.Files{{Path: "a.h"}, {Path: "d/a.h"}, {Path: "d/m.c"}, {Path: "lib/a.h"}, {Path: "lib/s/q.h"}, {Path: "m.c"}, {Path: "z.h"}}
	for _, x := range []struct {
		from   int
		path   string
		quotes bool
		want   int
	}{
		{2, "a.h", true, 1},
		{5, "a.h", true, 0},
		{2, "z.h", true, 6},
		{2, "d/a.h", true, 1},
		{2, "../a.h", true, 0},
		{2, "../lib/a.h", true, 3},
		{5, "../a.h", true, -1},
		{4, "../a.h", true, 3},
		{4, "q.h", true, 4},
		{5, "q.h", true, -1},
		{5, "s/q.h", true, -1},
		{2, "m.c", true, 2},
		{2, "", true, -1},
		{2, "a.h", false, 3},
		{5, "a.h", false, 3},
		{5, "s/q.h", false, 4},
		{5, "./s/../a.h", false, 3},
		{2, "m.c", false, -1},
		{2, "z.h", false, -1},
		{5, "../z.h", false, 6},
		{5, "../../z.h", false, -1},
		{5, "", false, -1},
		{-1, "a.h", true, -1},
		{-1, "a.h", false, -1},
		{7, "a.h", true, -1},
		{7, "a.h", false, -1},
		{-1 << 63, "a.h", true, -1},
		{1<<63 - 1, "a.h", false, -1},
	} {
		if got := files.Include(l, x.from, x.path, x.quotes); got != x.want {
			t.Errorf("Include(%d, %q, %v) is %d, not %d", x.from, x.path, x.quotes, got, x.want)
		}
	}
	if got := files.Include(nil, 0, "a.h", true); got != -1 {
		t.Errorf("Include in nothing is %d", got)
	}
	if got := files.Include(l[:2:2], 0, "m.c", true); got != -1 {
		t.Errorf("Include looks behind its list: %d", got)
	}
}
