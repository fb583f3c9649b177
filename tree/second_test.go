package tree_test

import (
	"math/rand"
	"reflect"
	"slices"
	"strings"
	"testing"

	"preamble/api"
	"preamble/lex"
	"preamble/tree"
)

// second reads chapter 9 once more: by a table of signs, each level in the next, with faults handed back, depths handed in, and names in one list, the last one last.
type second struct {
	l     []api.Token
	at    int
	names []madeName
	wrong *api.Fault
}

type madeName struct {
	text   string
	isType bool
}

// fault keeps the first one.
func (s *second) fault(err api.Errno) api.Node {
	if s.wrong == nil {
		f := api.Fault{Err: err, File: -1}
		if s.at < len(s.l) {
			f.File, f.At = s.l[s.at].File, s.l[s.at].At
		} else if len(s.l) > 0 {
			f.File, f.At = s.l[len(s.l)-1].File, s.l[len(s.l)-1].End
		}
		s.wrong = &f
	}
	return api.Node{}
}

// on tells whether one of words stands here, and nothing was wrong so far.
func (s *second) on(words string) bool {
	if s.wrong != nil || s.at >= len(s.l) {
		return false
	}
	t := s.l[s.at]
	return (t.Kind == api.TokName || t.Kind == api.TokSign) && slices.Contains(strings.Fields(words), t.Text)
}

func (s *second) past(word string) {
	if !s.on(word) {
		s.fault(api.ErrForm)
		return
	}
	s.at++
}

func (s *second) onName() bool {
	return s.wrong == nil && s.at < len(s.l) && s.l[s.at].Kind == api.TokName && !slices.Contains(strings.Fields("int char long void typedef if else while return"), s.l[s.at].Text)
}

func (s *second) onType() bool {
	if s.on("int char long void") {
		return true
	}
	if !s.onName() {
		return false
	}
	for i := len(s.names) - 1; i >= 0; i-- {
		if s.names[i].text == s.l[s.at].Text {
			return s.names[i].isType
		}
	}
	return false
}

func (s *second) onPart() bool {
	if s.wrong != nil || s.at >= len(s.l) {
		return false
	}
	k := s.l[s.at].Kind
	return s.onName() || s.on("( - + ! ~ * & ++ --") || k == api.TokNum || k == api.TokChar || k == api.TokText
}

func (s *second) unit() api.Node {
	n := api.Node{Kind: api.NodeUnit, Tok: -1}
	for s.wrong == nil && s.at < len(s.l) {
		n.Kids = append(n.Kids, s.declared(true, 0))
	}
	return n
}

// declared reads a declaration, or, if it may be one, a function.
func (s *second) declared(function bool, depth int) api.Node {
	isType := s.on("typedef")
	if isType {
		s.at++
		function = false
	}
	n := api.Node{Kind: api.NodeDecl, Tok: -1, Kids: []api.Node{s.typ()}}
	for first := true; s.wrong == nil; first = false {
		name := s.declarator(isType, depth)
		if first && function && s.on("(") && len(name.Kids) == 0 {
			return s.function(n.Kids[0], name)
		}
		if !isType && s.on("=") {
			s.at++
			name.Kids = append(name.Kids, s.expr(1, depth))
		}
		n.Kids = append(n.Kids, name)
		if !s.on(",") {
			break
		}
		s.at++
	}
	s.past(";")
	return n
}

func (s *second) function(typ, name api.Node) api.Node {
	mark := len(s.names)
	n := api.Node{Kind: api.NodeFunc, Tok: -1, Kids: []api.Node{typ, name}}
	s.at++
	for first := true; s.wrong == nil && !(first && s.on(")")); first = false {
		kind := s.typ()
		n.Kids = append(n.Kids, api.Node{Kind: api.NodeDecl, Tok: -1, Kids: []api.Node{kind, s.declarator(false, 0)}})
		if !s.on(",") {
			break
		}
		s.at++
	}
	s.past(")")
	if s.wrong == nil {
		n.Kids = append(n.Kids, s.block(0))
	}
	s.names = s.names[:mark]
	return n
}

func (s *second) typ() api.Node {
	if !s.onType() {
		return s.fault(api.ErrForm)
	}
	s.at++
	return api.Node{Kind: api.NodeType, Tok: s.at - 1}
}

func (s *second) declarator(isType bool, depth int) api.Node {
	for s.on("*") {
		s.at++
	}
	if !s.onName() {
		return s.fault(api.ErrForm)
	}
	n := api.Node{Kind: api.NodeName, Tok: s.at}
	s.at++
	if s.on("[") {
		s.at++
		n.Kids = append(n.Kids, s.expr(0, depth))
		s.past("]")
	}
	s.names = append(s.names, madeName{s.l[n.Tok].Text, isType})
	return n
}

// block is one in depth parts.
func (s *second) block(depth int) api.Node {
	if !s.on("{") {
		return s.fault(api.ErrForm)
	}
	if depth >= 30 {
		return s.fault(api.ErrDeep)
	}
	s.at++
	mark := len(s.names)
	n := api.Node{Kind: api.NodeBlock, Tok: -1}
	for s.wrong == nil && !s.on("}") {
		n.Kids = append(n.Kids, s.statement(depth+1))
	}
	s.past("}")
	s.names = s.names[:mark]
	return n
}

func (s *second) statement(depth int) api.Node {
	switch {
	case s.wrong != nil:
		return api.Node{}
	case s.at == len(s.l):
		return s.fault(api.ErrEnd)
	case !s.on("{ if while return typedef ;") && !s.onType() && !s.onPart():
		return s.fault(api.ErrForm)
	case depth >= 30:
		return s.fault(api.ErrDeep)
	case s.on("{"):
		return s.block(depth + 1)
	case s.on("typedef") || s.onType():
		return s.declared(false, depth+1)
	}
	n := api.Node{Kind: api.NodeExpr, Tok: -1}
	if s.on("if while") {
		n.Kind = api.NodeWhile
		if s.on("if") {
			n.Kind = api.NodeIf
		}
		s.at++
		s.past("(")
		n.Kids = append(n.Kids, s.expr(0, depth+1))
		s.past(")")
		n.Kids = append(n.Kids, s.statement(depth+1))
		if n.Kind == api.NodeIf && s.on("else") {
			s.at++
			n.Kids = append(n.Kids, s.statement(depth+1))
		}
		return n
	}
	if s.on("return") {
		n.Kind = api.NodeReturn
		s.at++
	}
	if !s.on(";") {
		n.Kids = append(n.Kids, s.expr(0, depth+1))
	}
	s.past(";")
	return n
}

// expr is signs between, from a level on, in depth parts.
func (s *second) expr(level, depth int) api.Node {
	switch {
	case s.wrong != nil:
		return api.Node{}
	case s.at == len(s.l):
		return s.fault(api.ErrEnd)
	case !s.onPart():
		return s.fault(api.ErrForm)
	case depth >= 30:
		return s.fault(api.ErrDeep)
	}
	return s.level(level, depth+1)
}

// level reads parts with signs of just this level between them; what stands there is of the next one. A right side is signs between anew.
func (s *second) level(level, depth int) api.Node {
	if level == len(levels) {
		return s.part(depth)
	}
	n := s.level(level+1, depth)
	for s.on(levels[level]) {
		tok := s.at
		s.at++
		right := level + 1
		if level == 1 {
			right = level
		}
		n = api.Node{Kind: api.NodeBin, Tok: tok, Kids: []api.Node{n, s.expr(right, depth)}}
	}
	return n
}

func (s *second) part(depth int) api.Node {
	switch {
	case s.wrong != nil:
		return api.Node{}
	case s.at == len(s.l):
		return s.fault(api.ErrEnd)
	case !s.onPart():
		return s.fault(api.ErrForm)
	case depth >= 30:
		return s.fault(api.ErrDeep)
	}
	n := api.Node{Kind: api.NodeLit, Tok: s.at}
	opens := s.on("(")
	if s.onName() {
		n.Kind = api.NodeUse
	}
	if s.on("- + ! ~ * & ++ --") {
		s.at++
		return api.Node{Kind: api.NodeUn, Tok: n.Tok, Kids: []api.Node{s.part(depth + 1)}}
	}
	s.at++
	if opens {
		n = s.expr(0, depth+1)
		s.past(")")
	}
	for s.on("( [") {
		if s.on("[") {
			s.at++
			n = api.Node{Kind: api.NodeAt, Tok: -1, Kids: []api.Node{n, s.expr(0, depth+1)}}
			s.past("]")
			continue
		}
		n = api.Node{Kind: api.NodeCall, Tok: -1, Kids: []api.Node{n}}
		s.at++
		for first := true; !(first && s.on(")")); first = false {
			n.Kids = append(n.Kids, s.expr(1, depth+1))
			if !s.on(",") {
				break
			}
			s.at++
		}
		s.past(")")
	}
	return n
}

func secondParse(l []api.Token) (api.Node, api.Fault) {
	s := second{l: l}
	n := s.unit()
	if s.wrong != nil {
		return api.Node{}, *s.wrong
	}
	return n, api.Fault{File: -1}
}

// writer writes programs by chance, of few names, so that they are types' here and things there.
type writer struct {
	*rand.Rand
	out []string
}

func (w *writer) put(words string) { w.out = append(w.out, strings.Fields(words)...) }

func (w *writer) one(words string) {
	l := strings.Fields(words)
	w.put(l[w.Intn(len(l))])
}

func (w *writer) name() { w.one("T U a b c d e f g") }

func (w *writer) typ() { w.one("int int int char long void void T") }

func (w *writer) declarator(deep int) {
	for w.Intn(4) == 0 {
		w.put("*")
	}
	w.name()
	if w.Intn(5) == 0 {
		w.put("[")
		w.expr(deep - 1)
		w.put("]")
	}
}

func (w *writer) declaration(deep int) {
	typedef := w.Intn(3) == 0
	if typedef {
		w.put("typedef")
	}
	w.typ()
	for {
		w.declarator(deep)
		if !typedef && w.Intn(3) == 0 {
			w.put("=")
			w.expr(deep - 1)
		}
		if w.Intn(3) > 0 {
			break
		}
		w.put(",")
	}
	w.put(";")
}

func (w *writer) unit() {
	if w.Intn(4) > 0 {
		w.put("typedef int T ;")
	}
	for range 1 + w.Intn(4) {
		deep := w.Intn(10)
		if w.Intn(2) == 0 {
			w.declaration(deep)
			continue
		}
		w.typ()
		w.name()
		w.put("(")
		for i := range w.Intn(3) {
			if i > 0 {
				w.put(",")
			}
			w.typ()
			w.declarator(1)
		}
		w.put(")")
		w.block(deep)
	}
}

func (w *writer) block(deep int) {
	w.put("{")
	for range w.Intn(4) {
		w.statement(deep - 1)
	}
	w.put("}")
}

func (w *writer) statement(deep int) {
	switch pick := w.Intn(9); {
	case deep <= 0 || pick == 0:
		w.put(";")
	case pick == 1:
		w.block(deep)
	case pick < 4:
		w.one("if while")
		w.put("(")
		w.expr(deep / 2)
		w.put(")")
		w.statement(deep - 1)
		if w.Intn(3) == 0 {
			w.put("else")
			w.statement(deep - 1)
		}
	case pick == 4:
		w.put("return")
		if w.Intn(2) == 0 {
			w.expr(deep)
		}
		w.put(";")
	case pick < 7:
		w.declaration(deep)
	default:
		w.expr(deep)
		w.put(";")
	}
}

func (w *writer) expr(deep int) {
	switch pick := w.Intn(10); {
	case deep <= 0 || pick == 0:
		w.one("T U a b 1 2.5 'c' \"s\"")
	case pick == 1:
		w.put("(")
		w.expr(deep - 1)
		w.put(")")
	case pick == 2:
		w.one("- + ! ~ * & ++ --")
		w.expr(deep - 1)
	case pick == 3:
		w.expr(deep - 1)
		w.put("(")
		w.expr(deep - 1)
		w.put(")")
	case pick == 4:
		w.expr(deep - 1)
		w.put("[")
		w.expr(deep - 1)
		w.put("]")
	default:
		w.expr(deep - 1)
		w.one(strings.Join(levels, " "))
		w.expr(deep - 2)
	}
}

// spoiled answers words with some left out, put in, changed, told often, or cut off behind.
func (w *writer) spoiled(l []string) []string {
	all := strings.Fields("int char long void typedef if else while return T a 1 'c' \"s\" ( ) [ ] { } ; , * = + - @ # ? ++ &&")
	for range w.Intn(3) {
		if len(l) == 0 {
			break
		}
		i := w.Intn(len(l))
		word := all[w.Intn(len(all))]
		switch w.Intn(6) {
		case 0:
			l = slices.Delete(slices.Clone(l), i, i+1)
		case 1:
			l = slices.Insert(slices.Clone(l), i, word)
		case 2:
			l = slices.Clone(l)
			l[i] = word
		case 3:
			l = l[:i]
		case 4:
			l = slices.Insert(slices.Clone(l), i, slices.Repeat([]string{[]string{"(", "{", "-", "a =", "f (", "if ( a )"}[w.Intn(6)]}, w.Intn(33))...)
		case 5:
			l = slices.Concat(l[:i], slices.Repeat(l[i:min(len(l), i+1+w.Intn(3))], 1+w.Intn(30)), l[i:])
		}
	}
	return l
}

// Both readings tell the same of what is written by chance, and of what is spoiled then.
func TestSecond(t *testing.T) {
	tally := map[api.Errno]int{}
	for seed := range int64(30000) {
		w := &writer{Rand: rand.New(rand.NewSource(seed))}
		w.unit()
		s := strings.Join(w.spoiled(w.out), " ")
		l, f := lex.Tokens(0, s)
		if f.Err != api.OK || len(l) == 0 {
			continue
		}
		n, f := tree.Parse(l)
		m, g := secondParse(l)
		if f != g || shape(l, n) != shape(l, m) {
			t.Fatalf("%q: %v %s, and the second time %v %s", s, f, shape(l, n), g, shape(l, m))
		}
		tally[f.Err]++
		if f.Err == api.OK {
			allIn(t, l, n)
		}
	}
	for _, err := range []api.Errno{api.OK, api.ErrForm, api.ErrEnd, api.ErrDeep} {
		if tally[err] < 400 {
			t.Errorf("%v comes %d times", err, tally[err])
		}
	}
	t.Log(tally)
}

// allIn: each name, number, character and text is of one node, in turn, and so is each type's word.
func allIn(t *testing.T, l []api.Token, n api.Node) {
	t.Helper()
	var got, want []int
	var walk func(api.Node)
	walk = func(n api.Node) {
		switch n.Kind {
		case api.NodeName, api.NodeUse, api.NodeLit, api.NodeType:
			got = append(got, n.Tok)
		}
		for _, k := range n.Kids {
			walk(k)
		}
	}
	walk(n)
	for i, x := range l {
		if x.Kind != api.TokSign && !slices.Contains([]string{"typedef", "if", "else", "while", "return"}, x.Text) {
			want = append(want, i)
		}
	}
	if !reflect.DeepEqual(got, want) {
		t.Errorf("%s: nodes of %v, not of %v", lex.Join(l), got, want)
	}
}
