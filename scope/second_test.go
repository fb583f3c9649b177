package scope_test

import (
	"math/rand"
	"slices"
	"strings"
	"testing"

	"preamble/api"
	"preamble/lex"
	"preamble/scope"
	"preamble/tree"
)

// kindsOf answers of each token of which kind its node is; 0, if it has none.
func kindsOf(l []api.Token, n api.Node) []int {
	kinds := make([]int, len(l))
	var walk func(api.Node)
	walk = func(n api.Node) {
		if n.Tok >= 0 {
			kinds[n.Tok] = n.Kind
		}
		for _, k := range n.Kids {
			walk(k)
		}
	}
	walk(n)
	return kinds
}

// placesOf answers of each token the surroundings in which it stands, the outermost ones first, by braces alone: each of them has the number of the token that opens it, which is a function's (, or a {.
func placesOf(l []api.Token, kinds []int) [][]int {
	var out [][]int
	open := []int{-1}
	awaited := false // a function's block is to come
	for i, x := range l {
		own := slices.Clone(open)
		switch {
		case x.Kind != api.TokSign:
		case x.Text == "(" && len(open) == 1 && kinds[i-1] == api.NodeName:
			open, awaited = append(open, i), true
		case x.Text == "{" && awaited:
			awaited = false
		case x.Text == "{":
			open = append(open, i)
		case x.Text == "}":
			open = open[:len(open)-1]
		}
		out = append(out, own)
	}
	return out
}

// secondResolve reads chapter 10 once more: token by token, with all that was made so far in one list.
func secondResolve(l []api.Token, n api.Node) ([]api.Bind, api.Fault) {
	kinds := kindsOf(l, n)
	places := placesOf(l, kinds)
	var out []api.Bind
	var made []int
	for i, x := range l {
		if kinds[i] != api.NodeName && kinds[i] != api.NodeUse && (kinds[i] != api.NodeType || slices.Contains([]string{"int", "char", "long", "void"}, x.Text)) {
			continue
		}
		best := -1
		for _, m := range made {
			if l[m].Text == x.Text && begins(places[i], places[m]) && (best < 0 || len(places[m]) >= len(places[best])) {
				best = m
			}
		}
		fault := api.Fault{File: x.File, At: x.At}
		if kinds[i] == api.NodeName {
			if best >= 0 && len(places[best]) == len(places[i]) {
				fault.Err = api.ErrName
				return nil, fault
			}
			made = append(made, i)
			best = i
		}
		if best < 0 {
			fault.Err = api.ErrNone
			return nil, fault
		}
		out = append(out, api.Bind{Tok: i, Decl: best})
	}
	return out, api.Fault{File: -1}
}

// begins tells whether l begins with first.
func begins(l, first []int) bool {
	return len(first) <= len(l) && slices.Equal(l[:len(first)], first)
}

// writer writes programs by chance. It uses mostly what it made, so that many of them have no fault.
type writer struct {
	*rand.Rand
	out   []string
	names []string
	wild  int // of so many names one is taken from all
}

func (w *writer) put(words string) { w.out = append(w.out, strings.Fields(words)...) }

func (w *writer) one(l []string) string { return l[w.Intn(len(l))] }

var all = strings.Fields("a b c d e f g h i j k l m n o p q r s t T U")

func (w *writer) make() {
	name := w.one(all)
	w.put(name)
	w.names = append(w.names, name)
}

func (w *writer) use() {
	if len(w.names) == 0 || w.Intn(w.wild) == 0 {
		w.put(w.one(all))
		return
	}
	w.put(w.names[len(w.names)-1-w.Intn(min(8, len(w.names)))])
}

func (w *writer) typ() { w.put(w.one(strings.Fields("int char long void int T"))) }

func (w *writer) declarator(deep int) {
	for w.Intn(6) == 0 {
		w.put("*")
	}
	w.make()
	if w.Intn(6) == 0 {
		w.put("[")
		w.expr(deep)
		w.put("]")
	}
}

func (w *writer) declaration(deep int) {
	typedef := w.Intn(6) == 0
	if typedef {
		w.put("typedef")
	}
	w.typ()
	for {
		w.declarator(deep)
		if !typedef && w.Intn(3) == 0 {
			w.put("=")
			w.expr(deep)
		}
		if w.Intn(4) > 0 {
			break
		}
		w.put(",")
	}
	w.put(";")
}

func (w *writer) unit() {
	if w.Intn(4) > 0 {
		w.put("typedef int T ;")
	}
	for range 1 + w.Intn(4) {
		if w.Intn(3) == 0 {
			w.declaration(1)
			continue
		}
		w.typ()
		w.make()
		mark := len(w.names)
		w.put("(")
		for i := range w.Intn(3) {
			if i > 0 {
				w.put(",")
			}
			w.typ()
			w.declarator(0)
		}
		w.put(")")
		w.block(w.Intn(6))
		w.names = w.names[:mark]
	}
}

func (w *writer) block(deep int) {
	mark := len(w.names)
	w.put("{")
	for range w.Intn(4) {
		w.statement(deep - 1)
	}
	w.put("}")
	w.names = w.names[:mark]
}

func (w *writer) statement(deep int) {
	switch pick := w.Intn(8); {
	case deep <= 0 || pick == 0:
		w.expr(0)
		w.put(";")
	case pick < 3:
		w.block(deep)
	case pick == 3:
		w.put(w.one([]string{"if", "while"}))
		w.put("(")
		w.expr(1)
		w.put(")")
		w.statement(deep - 1)
	case pick == 4:
		w.put("return")
		w.expr(1)
		w.put(";")
	case pick < 7:
		w.declaration(1)
	default:
		w.expr(2)
		w.put(";")
	}
}

func (w *writer) expr(deep int) {
	switch pick := w.Intn(8); {
	case deep <= 0 && pick < 3:
		w.put(w.one([]string{"1", "'c'", `"s"`}))
	case deep <= 0 || pick == 0:
		w.use()
	case pick == 1:
		w.put(w.one([]string{"-", "!", "*", "&", "++"}))
		w.expr(deep - 1)
	case pick == 2:
		w.use()
		w.put("(")
		w.expr(deep - 1)
		w.put(",")
		w.expr(deep - 1)
		w.put(")")
	case pick == 3:
		w.use()
		w.put("[")
		w.expr(deep - 1)
		w.put("]")
	default:
		w.put("(")
		w.expr(deep - 1)
		w.put(w.one([]string{"+", "*", "=", ",", "&&", "<<"}))
		w.expr(deep - 1)
		w.put(")")
	}
}

// Both readings tell the same of what is written by chance.
func TestSecond(t *testing.T) {
	tally := map[api.Errno]int{}
	inner := 0
	for seed := range int64(40000) {
		w := &writer{Rand: rand.New(rand.NewSource(seed)), wild: 30}
		w.unit()
		s := strings.Join(w.out, " ")
		l, f := lex.Tokens(0, s)
		if f.Err != api.OK {
			continue
		}
		n, f := tree.Parse(l)
		if f.Err != api.OK {
			continue
		}
		out, f := scope.Resolve(l, n)
		want, g := secondResolve(l, n)
		if f != g || !same(out, want) {
			t.Fatalf("%q: %v and %v, and the second time %v and %v", s, out, f, want, g)
		}
		tally[f.Err]++
		if f.Err == api.OK {
			inner += made(t, l, out)
			ofAll(t, len(l), out, want)
		}
	}
	for _, err := range []api.Errno{api.OK, api.ErrName, api.ErrNone} {
		if tally[err] < 1000 {
			t.Errorf("%v comes %d times", err, tally[err])
		}
	}
	if inner < 1000 {
		t.Errorf("%d names are made where they are made already farther out", inner)
	}
	t.Log(tally, inner)
}

// made: binds rise, and what is meant was made, with the same text, and not later than it is meant; it answers how many names were made more than once.
func made(t *testing.T, l []api.Token, binds []api.Bind) (again int) {
	t.Helper()
	last := -1
	var texts []string
	for _, b := range binds {
		if b.Tok <= last || b.Decl > b.Tok || l[b.Decl].Text != l[b.Tok].Text || scope.Of(binds, b.Decl) != b.Decl {
			t.Errorf("%s: %v in %v", lex.Join(l), b, binds)
		}
		if b.Tok == b.Decl {
			if slices.Contains(texts, l[b.Tok].Text) {
				again++
			}
			texts = append(texts, l[b.Tok].Text)
		}
		last = b.Tok
	}
	return again
}
