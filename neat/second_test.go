package neat_test

import (
	"math/rand"
	"regexp"
	"strings"
	"testing"

	"preamble/api"
	"preamble/lex"
	"preamble/neat"
)

// second reads chapter 12 once more: what is open ahead of a line is reckoned anew for each, from all that stands ahead of it, and it is written from the end on.
func second(s string) (string, api.Fault) {
	tokens, f := lex.Tokens(0, s)
	if f.Err != api.OK {
		return "", f
	}
	out := ""
	for end := len(tokens); end > 0; {
		begin := end - 1
		for !tokens[begin].First {
			begin--
		}
		text := lex.Join(tokens[begin:end])
		if last := tokens[end-1]; last.Kind == api.TokOther && last.Text == "\\" {
			text += " "
		}
		out = strings.Repeat(" ", 2*ahead(tokens, begin)) + text + "\n" + out
		end = begin
	}
	if len(out) > api.MaxText {
		return "", api.Fault{Err: api.ErrMuch, File: 0, At: 0}
	}
	return out, none
}

// ahead answers for how many { blanks stand ahead of the line that begins with token at.
func ahead(l []api.Token, at int) int {
	if l[at].Kind == api.TokSign && l[at].Text == "#" {
		return 0
	}
	var signs strings.Builder
	hash := false
	for _, t := range l[:at] {
		if t.First {
			hash = t.Kind == api.TokSign && t.Text == "#"
		}
		if t.Kind == api.TokSign && !hash {
			signs.WriteString(t.Text)
		}
	}
	if l[at].Kind == api.TokSign && l[at].Text == "}" {
		signs.WriteString("}")
	}
	return open(signs.String())
}

var (
	others = regexp.MustCompile(`[^{}]+`)
	pair   = regexp.MustCompile(`\{\}`)
)

// open takes pairs away for as long as there are any: what is left are those that close nothing, and those that are open.
func open(signs string) int {
	signs = others.ReplaceAllString(signs, "")
	for pair.MatchString(signs) {
		signs = pair.ReplaceAllString(signs, "")
	}
	return strings.Count(signs, "{")
}

// parted are texts in which a line's < and > are no path only because of a line feed in a comment between: these alone may be read otherwise when they are written anew.
var parted = regexp.MustCompile(`(?s)#.*include.*<.*/\*.*\n.*>`)

// right asks that Text of s is what the second reading says; that it reads token by token as s does, line by line; and that written anew it stays as it is.
func right(t *testing.T, s string) {
	t.Helper()
	got, f := neat.Text(s)
	if want, g := second(s); got != want || f != g {
		t.Fatalf("Text(%q) is %q %v, not %q %v", s, got, f, want, g)
	}
	if f.Err != api.OK || parted.MatchString(s) {
		return
	}
	before, _ := lex.Tokens(0, s)
	after, f := lex.Tokens(0, got)
	if f != none || len(before) != len(after) {
		t.Fatalf("Text(%q) is %q: %d tokens, not %d, and %v", s, got, len(after), len(before), f)
	}
	for i, x := range before {
		if y := after[i]; x.Kind != y.Kind || x.Text != y.Text || x.First != y.First {
			t.Fatalf("Text(%q) is %q: %v, not %v", s, got, y, x)
		}
	}
	if again, f := neat.Text(got); again != got || f != none {
		t.Fatalf("Text(%q) is %q, and Text of that %q %v", s, got, again, f)
	}
}

// each calls f with every text of at most n of the pieces.
func each(pieces []string, n int, f func(string)) {
	f("")
	if n == 0 {
		return
	}
	each(pieces, n-1, func(s string) {
		for _, p := range pieces {
			f(p + s)
		}
	})
}

func TestL1Every(t *testing.T) {
	for _, x := range []struct {
		pieces string
		most   int
	}{
		{"{ } # x LF", 6}, {"{ } \\ BLANK LF", 6}, {"{ } /* */ // LF", 5}, {"\\ CR LF # }", 6}, {"\" ' \\ { LF", 6}, {"+ - = < > .", 5}, {"#include < > \\ /* */ LF", 5}, {"## # { LF BLANK", 5}, {"1 e + . a BLANK", 5},
	} {
		pieces := strings.Fields(x.pieces)
		for i, p := range pieces {
			pieces[i] = strings.NewReplacer("LF", "\n", "CR", "\r", "BLANK", " ").Replace(p)
		}
		each(pieces, x.most, func(s string) { right(t, s) })
	}
}

// All bytes, by twos: none makes it panic, or is lost.
func TestL1Pairs(t *testing.T) {
	for a := range 256 {
		for b := range 256 {
			right(t, string([]byte{byte(a), byte(b)}))
		}
	}
}

// Longer texts, by chance: short of what may be written, and beyond it.
func TestL1Chance(t *testing.T) {
	pieces := []string{"{", "}", "{\n", "}\n", "\n", "\n#", "\n# ", " ", "\t", "\r\n", "\\\n", "\\\r\n", "\\", "\\ ", "x", "y1", "12", ".", "+", "-", "=", "<", ">", "/", "*", "(", ");", "\"a b\"", "'\\''", "\"{\"", "/* } */", "/*\n*/", "// {\n", "#include <a>\n", "\n#define A(x) {\\\n x }\n", "@", "\xc3", "\""}
	r := rand.New(rand.NewSource(12))
	written, much := 0, 0
	for i := range 3000 {
		var s strings.Builder
		for range r.Intn(1 + i%300) {
			// The last one is seldom: it mostly has no end. Of some texts much is open.
			p := pieces[r.Intn(len(pieces)-1)]
			switch {
			case r.Intn(2000) == 0:
				p = pieces[len(pieces)-1]
			case i%7 == 0 && r.Intn(2) == 0:
				p = "{\n"
			}
			s.WriteString(p)
		}
		right(t, s.String())
		switch _, f := neat.Text(s.String()); f.Err {
		case api.OK:
			written++
		case api.ErrMuch:
			much++
		}
	}
	if written < 500 || much < 50 {
		t.Errorf("only %d texts are written, and %d are too much", written, much)
	}
}
