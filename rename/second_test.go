package rename_test

import (
	"math/rand"
	"reflect"
	"slices"
	"strings"
	"testing"

	"preamble/api"
	"preamble/drive"
	"preamble/rename"
	"preamble/scope"
	"preamble/tree"
)

// word is a token that came out, as far as it counts for the second reading.
type word struct {
	kind  int
	text  string
	means int // the number of the token that it means; -1: none
}

// words answers what comes of the files, and whether there is no fault; the tokens themselves beside it.
func words(l api.Files, root int) ([]word, []api.Token, bool) {
	out, _, f := drive.Run(l, root, nil, room)
	if f.Err != api.OK {
		return nil, nil, false
	}
	n, f := tree.Parse(out.Tokens)
	if f.Err != api.OK {
		return nil, nil, false
	}
	binds, f := scope.Resolve(out.Tokens, n)
	if f.Err != api.OK {
		return nil, nil, false
	}
	var l2 []word
	for _, t := range out.Tokens {
		l2 = append(l2, word{t.Kind, t.Text, -1})
	}
	for _, b := range binds {
		l2[b.Tok].means = b.Decl
	}
	return l2, out.Tokens, true
}

// secondTo reads chapter 11 once more, of files without a fault: what must come out is written first; the edits are found byte by byte, and done from each file's end on.
func secondTo(l api.Files, root, file, at int, name string) (api.Files, []api.Edit, api.Errno) {
	before, tokens, _ := words(l, root)
	asked := map[int]bool{}
	for i, t := range tokens {
		if t.Made == api.Plain && t.File == file && at >= t.At && at < t.End {
			asked[before[i].means] = true
		}
	}
	if len(asked) != 1 || asked[-1] {
		return nil, nil, api.ErrNone
	}
	if !nameLike(name) || slices.Contains(strings.Fields("int char long void typedef if else while return"), name) {
		return nil, nil, api.ErrName
	}
	want := slices.Clone(before)
	var edits []api.Edit
	seen := map[[2]int]bool{}
	for i, t := range tokens {
		if !asked[before[i].means] {
			continue
		}
		if t.Made != api.Plain {
			return nil, nil, api.ErrMay
		}
		want[i].text = name
		if !seen[[2]int{t.File, t.At}] {
			seen[[2]int{t.File, t.At}] = true
			edits = append(edits, api.Edit{File: t.File, From: t.At, To: t.End, Text: name})
		}
	}
	changed := byHand(l, edits)
	for _, f := range changed {
		if len(f.Text) > api.MaxText {
			return nil, nil, api.ErrMuch
		}
	}
	if after, _, ok := words(changed, root); !ok || !reflect.DeepEqual(after, want) {
		return nil, nil, api.ErrMay
	}
	return changed, edits, api.OK
}

func nameLike(s string) bool {
	for i, c := range []byte(s) {
		digit := strings.IndexByte("0123456789", c) >= 0
		if !digit && strings.IndexByte("abcdefghijklmnopqrstuvwxyzABCDEFGHIJKLMNOPQRSTUVWXYZ_", c) < 0 || digit && i == 0 {
			return false
		}
	}
	return s != ""
}

func byHand(l api.Files, edits []api.Edit) api.Files {
	out := slices.Clone(l)
	for i := range out {
		for at := len(out[i].Text); at >= 0; at-- {
			for _, e := range edits {
				if e.File == i && e.From == at {
					out[i].Text = out[i].Text[:at] + e.Text + out[i].Text[e.To:]
				}
			}
		}
	}
	return out
}

// writer writes programs by chance, with calls of these macros. It uses mostly what it made, so that many of them have no fault.
type writer struct {
	*rand.Rand
	strings.Builder
	names []string
}

const header = `#define ID(v) v
#define TWO(v) v + v
#define SAY(v, w) w, #v
#define GLUE(v, w) v##w
#define SET(v, w) v = w + g
#define USE g
#define OWN { int t; t = g; }
#define MORE(...) ID(__VA_ARGS__)
#define SELF SELF
int g;
`

var pool = strings.Fields("a b c ab bc ca g t v abc SELF")

func (w *writer) pick(l []string) string { return l[w.Intn(len(l))] }

// name writes a name as it may be written.
func (w *writer) name(s string) {
	switch pick := w.Intn(12); {
	case pick == 0 && len(s) > 1:
		s = s[:1] + "\\\n" + s[1:]
	case pick == 1 && len(s) > 1:
		s = "GLUE(" + s[:1] + ", " + s[1:] + ")"
	case pick == 2:
		s = "ID(" + s + ")"
	case pick == 3:
		s = "GLUE(," + s + ")"
	}
	w.WriteString(s)
}

func (w *writer) make() {
	s := w.pick(pool)
	w.name(s)
	w.names = append(w.names, s)
}

func (w *writer) use() {
	s := "g"
	if n := len(w.names); n > 0 {
		s = w.names[n-1-w.Intn(min(6, n))]
	}
	w.name(s)
}

func (w *writer) call(name string, deep int) {
	w.WriteString(name + "(")
	w.expr(deep - 1)
	w.WriteString(")")
}

func (w *writer) expr(deep int) {
	switch pick := w.Intn(14); {
	case deep <= 0 || pick < 3:
		w.use()
	case pick == 3:
		w.WriteString(w.pick([]string{"USE", "1", "__LINE__", "'a'", "\"a\""}))
	case pick == 4:
		w.WriteString("(SAY(")
		w.use()
		w.WriteString(",")
		w.expr(deep - 1)
		w.WriteString("))")
	case pick < 8:
		w.call(w.pick([]string{"TWO", "ID", "MORE"}), deep)
	default:
		w.WriteString("(")
		w.expr(deep - 1)
		w.WriteString(w.pick([]string{"+", " * ", " = ", "&&"}))
		w.expr(deep - 1)
		w.WriteString(")")
	}
}

func (w *writer) declaration() {
	w.WriteString(w.pick([]string{"int ", "int ", "char *", "typedef long "}))
	typedef := strings.HasSuffix(w.String(), "typedef long ")
	w.make()
	if !typedef && w.Intn(2) == 0 {
		w.WriteString(" = ")
		w.expr(2)
	}
	w.WriteString(";\n")
}

func (w *writer) statement(deep int) {
	switch pick := w.Intn(9); {
	case deep > 0 && pick == 0:
		w.block(deep - 1)
	case deep > 0 && pick == 1:
		w.WriteString("if (")
		w.expr(1)
		w.WriteString(") ")
		w.statement(deep - 1)
	case pick == 2:
		w.WriteString("OWN\n")
	case pick == 3:
		w.WriteString("SET(")
		w.use()
		w.WriteString(", ")
		w.expr(1)
		w.WriteString(");\n")
	case pick < 6:
		w.declaration()
	default:
		w.expr(2)
		w.WriteString(";\n")
	}
}

func (w *writer) block(deep int) {
	mark := len(w.names)
	w.WriteString("{ ")
	for range w.Intn(4) {
		w.statement(deep)
	}
	w.WriteString("}\n")
	w.names = w.names[:mark]
}

func (w *writer) unit() {
	for range 1 + w.Intn(4) {
		if w.Intn(2) == 0 {
			w.declaration()
			continue
		}
		w.WriteString("int ")
		w.make()
		mark := len(w.names)
		w.WriteString("(int ")
		w.make()
		w.WriteString(") ")
		w.block(2)
		w.names = w.names[:mark]
	}
}

// Both readings tell the same of what is written by chance, for bytes and names that are taken by chance.
func TestSecond(t *testing.T) {
	tally := map[api.Errno]int{}
	names := append(slices.Clone(pool), "other", "x", "int", "1x", "", "ID", "TWO", "USE", "OWN", "__LINE__", "defined", strings.Repeat("n", 1400))
	programs := 0
	for seed := range int64(1800) {
		w := &writer{Rand: rand.New(rand.NewSource(seed))}
		w.unit()
		l, root := made(header, "#include \"h0.h\"\n"+w.String())
		before, tokens, ok := words(l, root)
		if _, _, _, f := rename.Read(l, root, room); ok != (f.Err == api.OK) {
			t.Fatalf("%q: %v", l[root].Text, f)
		}
		if !ok {
			continue
		}
		programs++
		var bound []int
		for i, x := range before {
			if x.means >= 0 {
				bound = append(bound, i)
			}
		}
		for range 12 {
			file, at, name := root, w.Intn(len(l[root].Text)+2)-1, w.pick(names)
			// Most bytes are no name's: these are asked for more often.
			if w.Intn(8) > 0 {
				tok := bound[w.Intn(len(bound))]
				file, at = tokens[tok].File, tokens[tok].At
			}
			out, edits, f := rename.To(l, root, file, at, name, room)
			want, must, err := secondTo(l, root, file, at, name)
			if f != (api.Fault{Err: err, File: -1}) || !reflect.DeepEqual(out, want) || !reflect.DeepEqual(edits, must) {
				t.Fatalf("%q, byte %d of file %d, to %.20q:\n%q, %v and %v, and the second time\n%q, %v and %v", l[root].Text, at, file, name, out, edits, f, want, must, err)
			}
			tally[err]++
			// Called SELF, it comes of that macro's body, and not of where it stands.
			if err == api.OK && name != "SELF" {
				back(t, l, root, edits[0], out)
			}
		}
	}
	for _, err := range []api.Errno{api.OK, api.ErrName, api.ErrNone, api.ErrMay, api.ErrMuch} {
		if tally[err] < 100 {
			t.Errorf("%v comes %d times", err, tally[err])
		}
	}
	t.Log(programs, tally)
}

// back: what was called otherwise, with this as its first edit, may be called again what it was; all comes out then as it did at first. (Only ends of lines that a name had are lost.)
func back(t *testing.T, l api.Files, root int, first api.Edit, changed api.Files) {
	t.Helper()
	before, tokens, _ := words(l, root)
	i := slices.IndexFunc(tokens, func(t api.Token) bool {
		return t.Made == api.Plain && t.File == first.File && t.At == first.From
	})
	_, tokens, _ = words(changed, root)
	out, _, f := rename.To(changed, root, tokens[i].File, tokens[i].At, before[i].text, room)
	again, _, ok := words(out, root)
	if f.Err != api.OK || !ok || !reflect.DeepEqual(again, before) {
		t.Fatalf("%q, called %s again, is not what it was: %v", changed[root].Text, before[i].text, f)
	}
}
