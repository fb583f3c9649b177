package drive_test

import (
	"math/rand"
	"reflect"
	"slices"
	"strings"
	"testing"

	"preamble/api"
	"preamble/cond"
	"preamble/drive"
	"preamble/expand"
	"preamble/files"
	"preamble/lex"
	"preamble/macro"
)

// frame is a file that the second reading is in: its lines that are left, what waits, and its groups, each of which is its word, and one of four states.
type frame struct {
	file   int
	lines  [][]api.Token
	waits  []api.Token
	words  []api.Token
	states string // of each group: n: not yet, y: now, d: done, x: none of its lines ever counts
	elses  string // of each group: e, if #else was there, or else -
}

// second reads chapter 7 once more: the files that are being read are a list, nothing calls itself, and faults are handed back.
type second struct {
	files  api.Files
	macros []api.Macro
	limits api.Limits
	fuel   int
	out    api.Out
	once   []int
	frames []frame
}

func wrongAt(err api.Errno, t api.Token) *api.Fault {
	return &api.Fault{Err: err, File: t.File, At: t.At}
}

func (s *second) push(file int) *api.Fault {
	s.out.Read = append(s.out.Read, file)
	l, f := lex.Tokens(file, s.files[file].Text)
	if f.Err != api.OK {
		return &f
	}
	s.frames = append(s.frames, frame{file: file, lines: lex.Lines(l)})
	return nil
}

func (s *second) all(root int) *api.Fault {
	wrong := s.push(root)
	for wrong == nil && len(s.frames) > 0 {
		top := &s.frames[len(s.frames)-1]
		if len(top.lines) == 0 {
			if wrong = s.expandWaits(top); wrong == nil && len(top.words) > 0 {
				wrong = wrongAt(api.ErrEnd, top.words[len(top.words)-1])
			}
			s.frames = s.frames[:len(s.frames)-1]
			continue
		}
		line := top.lines[0]
		top.lines = top.lines[1:]
		if line[0].Kind == api.TokSign && line[0].Text == "#" {
			if wrong = s.expandWaits(top); wrong == nil && len(line) > 1 {
				wrong = s.line(top, line[1], line[2:])
			}
		} else if strings.Trim(top.states, "y") == "" {
			top.waits = append(top.waits, line...)
		}
	}
	return wrong
}

func (s *second) expandWaits(top *frame) *api.Fault {
	l, left, f := expand.All(s.files, s.macros, top.waits, s.fuel, s.limits.Out)
	if f.Err != api.OK {
		return &f
	}
	s.fuel = left
	s.out.Tokens = append(s.out.Tokens, l...)
	if len(s.out.Tokens) > s.limits.Out {
		return wrongAt(api.ErrMuch, top.waits[0])
	}
	top.waits = nil
	return nil
}

func (s *second) line(top *frame, word api.Token, rest []api.Token) *api.Fault {
	counts := strings.Trim(top.states, "y") == ""
	n := len(top.words)
	switch w := word.Text; w {
	case "if", "ifdef", "ifndef":
		if n >= api.MaxNest {
			return wrongAt(api.ErrDeep, word)
		}
		state := "x"
		if counts {
			holds, wrong := s.holds(word, rest)
			if wrong != nil {
				return wrong
			}
			state = map[bool]string{true: "y", false: "n"}[holds]
		}
		top.words, top.states, top.elses = append(top.words, word), top.states+state, top.elses+"-"
		return nil
	case "elif", "else", "endif":
		if n == 0 || w != "endif" && top.elses[n-1] == 'e' {
			return wrongAt(api.ErrFit, word)
		}
		if w != "elif" && len(rest) > 0 {
			return wrongAt(api.ErrForm, rest[0])
		}
		state := top.states[n-1:]
		top.states = top.states[:n-1]
		if w == "endif" {
			top.words, top.elses = top.words[:n-1], top.elses[:n-1]
			return nil
		}
		if w == "else" {
			top.elses = top.elses[:n-1] + "e"
		}
		switch state {
		case "y":
			state = "d"
		case "n":
			holds, wrong := true, (*api.Fault)(nil)
			if w == "elif" {
				holds, wrong = s.holds(word, rest)
			}
			if wrong != nil {
				return wrong
			}
			if holds {
				state = "y"
			}
		}
		top.states += state
		return nil
	}
	if !counts {
		return nil
	}
	return s.act(top, word, rest)
}

func (s *second) knows(name string) bool {
	return name == "__LINE__" || name == "__FILE__" || macro.Find(s.macros, name) >= 0
}

func (s *second) holds(word api.Token, rest []api.Token) (bool, *api.Fault) {
	if word.Text == "ifdef" || word.Text == "ifndef" {
		if len(rest) != 1 || rest[0].Kind != api.TokName {
			return false, wrongAt(api.ErrForm, word)
		}
		return s.knows(rest[0].Text) == (word.Text == "ifdef"), nil
	}
	if len(rest) == 0 {
		return false, wrongAt(api.ErrForm, word)
	}
	var asks []api.Token
	for len(rest) > 0 {
		t := rest[0]
		rest = rest[1:]
		if t.Text == "defined" {
			// Ends of lists are told by a token of no kind.
			b := append(slices.Clone(rest), make([]api.Token, 3)...)
			name := ""
			if b[0].Kind == api.TokName {
				name, rest = b[0].Text, rest[1:]
			} else if b[0].Text == "(" && b[1].Kind == api.TokName && b[2].Text == ")" {
				name, rest = b[1].Text, rest[3:]
			} else {
				return false, wrongAt(api.ErrForm, t)
			}
			t.Kind, t.Text = api.TokNum, map[bool]string{true: "1", false: "0"}[s.knows(name)]
		}
		asks = append(asks, t)
	}
	l, left, f := expand.All(s.files, s.macros, asks, s.fuel, s.limits.Out)
	s.fuel = left
	n := 0
	if f.Err == api.OK {
		n, f = cond.Eval(l)
	}
	if f.Err != api.OK && f.File < 0 {
		return false, wrongAt(f.Err, word)
	}
	if f.Err != api.OK {
		return false, &f
	}
	return n != 0, nil
}

func (s *second) act(top *frame, word api.Token, rest []api.Token) *api.Fault {
	switch word.Text {
	case "define":
		m, f := macro.Parse(rest)
		if f.Err != api.OK {
			if f.File < 0 {
				return wrongAt(f.Err, word)
			}
			return &f
		}
		l, err := macro.Define(s.macros, m)
		if err != api.OK {
			return wrongAt(err, rest[0])
		}
		s.macros = l
	case "undef":
		if len(rest) != 1 || rest[0].Kind != api.TokName {
			return wrongAt(api.ErrForm, word)
		}
		if macro.Builtin(rest[0].Text) {
			return wrongAt(api.ErrName, rest[0])
		}
		s.macros = macro.Undef(s.macros, rest[0].Text)
	case "include":
		if len(rest) != 1 || rest[0].Kind != api.TokText && rest[0].Kind != api.TokPath {
			return wrongAt(api.ErrForm, word)
		}
		i := files.Include(s.files, top.file, strings.Trim(rest[0].Text, `"<>`), rest[0].Kind == api.TokText)
		if i < 0 {
			return wrongAt(api.ErrNone, rest[0])
		}
		if slices.Contains(s.once, i) {
			return nil
		}
		if len(s.frames) > s.limits.Deep {
			return wrongAt(api.ErrDeep, rest[0])
		}
		return s.push(i)
	case "error":
		return wrongAt(api.ErrSaid, word)
	case "pragma":
		if texts(rest) == "once" {
			s.once = append(s.once, top.file)
		}
	default:
		return wrongAt(api.ErrKind, word)
	}
	return nil
}

// anyOf answers one of these.
func anyOf(r *rand.Rand, l ...string) string { return l[r.Intn(len(l))] }

// words answers up to n words, with blanks between.
func words(r *rand.Rand, n int, from string) string {
	l := strings.Fields(from)
	var out []string
	for range r.Intn(n + 1) {
		out = append(out, anyOf(r, l...))
	}
	return strings.Join(out, " ")
}

const plain = "A B C f g x y 1 0 __LINE__ __FILE__ , f(A) g(1,B) f(x) f(+) f(A)"

// anyCondition answers what may stand behind #if.
func anyCondition(r *rand.Rand) string {
	if r.Intn(30) == 0 {
		return words(r, 4, "defined ( ) A B 1 0 / + && || ! \"s\" f( f(1) ' ' C ? :")
	}
	one := func() string {
		return anyOf(r, "defined A", "defined(B)", "!defined C", "defined f", "A", "B", "0", "1", "f(1)", "(B)", "__LINE__ > 3", "defined A", "1 << A", "g(2)")
	}
	if r.Intn(30) == 0 {
		return one() + anyOf(r, " + 08", " && 1 << 64", " >> -1", " ? 1 : 2", " ? 'ab' : 1")
	}
	return one() + anyOf(r, "", "", " && "+one(), " || "+one(), " + "+one(), " == "+one(), " / "+one())
}

// anyLine answers a line that is no part of a group.
func anyLine(r *rand.Rand) string {
	switch r.Intn(14) {
	case 0, 1:
		return "#define " + anyOf(r, "A", "B", "C") + " " + words(r, 3, "A B C 1 0 x + f(1) f")
	case 2:
		return "#define " + anyOf(r, "f(x) x", "f(x) [x]", "f(x) x A", "f(x) x##1", "g(x) x", "g(x,y) y x##1", "g(...) #__VA_ARGS__", "f(y) y")
	case 3, 4:
		return "#undef " + anyOf(r, "A", "B", "C", "f", "g")
	case 5, 6:
		return "#include " + anyOf(r, `"a"`, `"b"`, `"c"`, "<d>", "<d>", "<d>", `"lib/d"`, `"./c"`)
	case 7:
		return anyOf(r, "#", "#pragma once", "#pragma", "#pragma once x", "# // x")
	case 8:
		if r.Intn(4) > 0 {
			return "x"
		}
		return anyOf(r, "#error", "#error x", "#what", "#define", "#define 1", "#undef", "#undef __LINE__", "#undef A B", "#include", "#include A", "#include \"z\"", "#include <a>", "\"", "# 1", "#endif", "#else", "#elif 1", "#define __FILE__", "f(", "f(1", "f()", "g(1,2,3)")
	}
	return words(r, 4, plain)
}

// anyText answers lines, and groups of them.
func anyText(r *rand.Rand, deep int) string {
	var out strings.Builder
	for range r.Intn(6) {
		if deep == 0 || r.Intn(3) > 0 {
			out.WriteString(anyLine(r) + "\n")
			continue
		}
		out.WriteString(anyOf(r, "#if "+anyCondition(r), "#if "+anyCondition(r), "#ifdef "+anyOf(r, "A", "B", "f"), "#ifndef "+anyOf(r, "A", "C", "g"), "#ifdef"+words(r, 2, " A ( 1")) + "\n" + anyText(r, deep-1))
		for range r.Intn(3) {
			out.WriteString("#elif " + anyCondition(r) + "\n" + anyText(r, deep-1))
		}
		if r.Intn(2) == 0 {
			out.WriteString("#else" + anyOf(r, "", "", "", "", "", "", "", " x") + "\n" + anyText(r, deep-1))
		}
		if r.Intn(20) > 0 {
			out.WriteString("#endif" + anyOf(r, "", "", "", "", "", "", "", "", "", " // x", " x") + "\n")
		}
	}
	return out.String()
}

func TestSecondReading(t *testing.T) {
	r := rand.New(rand.NewSource(7))
	seen := make([]int, api.ErrMay+1)
	read := 0
	for range 20000 {
		l := api.Files{{Path: "a", Text: anyText(r, 3)}, {Path: "b", Text: anyText(r, 2)}, {Path: "c", Text: anyText(r, 1)}, {Path: "lib/d", Text: anyText(r, 1)}}
		for i := range l {
			l[i].Text = l[i].Text[:min(len(l[i].Text), api.MaxText)]
		}
		var macros []api.Macro
		if r.Intn(2) == 0 {
			macros = defined(t, r.Intn(5)-1, "g(x) [x]", "A 1", "B A + 0 /", "f(x) x ## 1")[r.Intn(4):]
		}
		limits := room
		if r.Intn(3) == 0 {
			limits = api.Limits{Fuel: r.Intn(60), Out: r.Intn(20), Deep: r.Intn(api.MaxDeep + 1)}
		}
		root := r.Intn(len(l))
		two := second{files: l, macros: macros, limits: limits, fuel: limits.Fuel}
		wrong := two.all(root)
		if wrong == nil {
			wrong = &api.Fault{File: -1}
		} else {
			two.out, two.macros = api.Out{}, nil
		}
		out, after, f := drive.Run(l, root, macros, limits)
		if f != *wrong || !slices.EqualFunc(out.Tokens, two.out.Tokens, sameToken) || !slices.Equal(out.Read, two.out.Read) || len(after)+len(two.macros) > 0 && !reflect.DeepEqual(after, two.macros) {
			t.Fatalf("%q %d %v %v: %q %v %q %v, not %q %v %q %v", l, root, macros, limits, texts(out.Tokens), out.Read, names(after), f, texts(two.out.Tokens), two.out.Read, names(two.macros), *wrong)
		}
		seen[f.Err]++
		read = max(read, len(out.Read))
	}
	for err := api.OK; err < api.ErrMay; err++ {
		if seen[err] < 30 {
			t.Errorf("error %d came only %d times", err, seen[err])
		}
	}
	if seen[api.OK] < 4000 || read < 8 {
		t.Errorf("all was well only %d times, at most %d files were read", seen[api.OK], read)
	}
}
