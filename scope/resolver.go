package scope

import (
	"preamble/api"
	"preamble/tree"
)

// stop is thrown where a name can't be made, or means nothing.
type stop struct{ api.Fault }

// resolver gathers what names mean. It meets them in the order of their tokens, as each node is ahead of its Kids, and these stand in order: so the binds rise.
type resolver struct {
	list  []api.Token
	binds []api.Bind
}

// node goes through n, which stands in s.
func (r *resolver) node(n api.Node, s surroundings) {
	switch n.Kind {
	case api.NodeName:
		r.declare(n.Tok, s)
	case api.NodeUse:
		r.use(n.Tok, s)
	case api.NodeType:
		if !tree.Key(r.list[n.Tok].Text) {
			r.use(n.Tok, s)
		}
	case api.NodeFunc:
		r.function(n, s)
		return
	case api.NodeBlock:
		s = within(s.find)
	}
	r.nodes(n.Kids, s)
}

func (r *resolver) nodes(l []api.Node, s surroundings) {
	for _, n := range l {
		r.node(n, s)
	}
}

// function goes through a function: its type and its name stand in s; its parameters, and what its block has, in surroundings of their own, so that the block opens none.
func (r *resolver) function(n api.Node, s surroundings) {
	block := len(n.Kids) - 1
	inner := within(s.find)
	r.nodes(n.Kids[:2], s)
	r.nodes(n.Kids[2:block], inner)
	r.nodes(n.Kids[block].Kids, inner)
}

// declare makes the name that token tok is, in s: it means itself.
func (r *resolver) declare(tok int, s surroundings) {
	if !s.declare(r.list[tok].Text, tok) {
		r.fail(api.ErrName, tok)
	}
	r.bind(tok, tok)
}

// use finds what token tok means, where s is around it.
func (r *resolver) use(tok int, s surroundings) {
	decl, found := s.find(r.list[tok].Text)
	if !found {
		r.fail(api.ErrNone, tok)
	}
	r.bind(tok, decl)
}

func (r *resolver) bind(tok, decl int) {
	r.binds = append(r.binds, api.Bind{Tok: tok, Decl: decl})
}

// fail throws what is wrong at token tok.
func (r *resolver) fail(err api.Errno, tok int) {
	panic(stop{api.Fault{Err: err, File: r.list[tok].File, At: r.list[tok].At}})
}
