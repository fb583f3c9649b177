package tree

import "preamble/api"

// reader makes nodes of what it reads. Which names are types' is kept while it reads, as the same tokens are a declaration, or not, by that.
type reader struct {
	cursor
	names names
	depth int // in how many parts that count what is read stands
}

// enter goes into a part that counts, and that must stand next: begins tells whether one begins there. That it does not is told ahead of its being too deep.
func (r *reader) enter(begins bool) {
	switch {
	case r.ended():
		r.fail(api.ErrEnd)
	case !begins:
		r.fail(api.ErrForm)
	case r.depth == api.MaxTree:
		r.fail(api.ErrDeep)
	}
	r.depth++
}

func (r *reader) leave() { r.depth-- }

// unit reads all of it.
func (r *reader) unit() api.Node {
	r.names.open()
	n := node(api.NodeUnit)
	for !r.ended() {
		n.Kids = append(n.Kids, r.outer())
	}
	return n
}

// outer reads a declaration, or a function: which of them is seen only behind the first declarator.
func (r *reader) outer() api.Node {
	if r.word() == "typedef" {
		return r.declaration()
	}
	kind := r.typeName()
	name := r.declarator(aThing)
	if len(name.Kids) == 0 && r.word() == "(" {
		return r.function(kind, name)
	}
	return r.declared(aThing, kind, name)
}

// function reads what stands behind a function's name. Its parameters are made where what its block makes is.
func (r *reader) function(kind, name api.Node) api.Node {
	r.names.open()
	defer r.names.close()
	r.must("(")
	n := node(api.NodeFunc, kind, name)
	n.Kids = append(n.Kids, r.listed(r.parameter)...)
	n.Kids = append(n.Kids, r.block())
	return n
}

func (r *reader) parameter() api.Node {
	kind := r.typeName()
	return node(api.NodeDecl, kind, r.declarator(aThing))
}

// listed reads what stands behind a (, up to its ): any number of what read reads, with commas between.
func (r *reader) listed(read func() api.Node) []api.Node {
	if r.skip(")") {
		return nil
	}
	out := []api.Node{read()}
	for r.skip(",") {
		out = append(out, read())
	}
	r.must(")")
	return out
}

// declaration reads one from its beginning on.
func (r *reader) declaration() api.Node {
	as := aThing
	if r.skip("typedef") {
		as = aType
	}
	kind := r.typeName()
	return r.declared(as, kind, r.declarator(as))
}

// declared reads what stands behind a declaration's first declarator.
func (r *reader) declared(as int, kind, name api.Node) api.Node {
	n := node(api.NodeDecl, kind, r.started(as, name))
	for r.skip(",") {
		n.Kids = append(n.Kids, r.started(as, r.declarator(as)))
	}
	r.must(";")
	return n
}

// started reads what a thing is at first, if that is told, behind its declarator.
func (r *reader) started(as int, name api.Node) api.Node {
	if as == aThing && r.skip("=") {
		name.Kids = append(name.Kids, r.single())
	}
	return name
}

// declarator reads one, and makes its name: only behind its ], so that what stands in there means what it did ahead of it.
func (r *reader) declarator(as int) api.Node {
	for r.skip("*") {
	}
	if !r.nameNext() {
		r.fail(api.ErrForm)
	}
	n := r.take(api.NodeName)
	if r.skip("[") {
		n.Kids = []api.Node{r.expression()}
		r.must("]")
	}
	r.names.declare(r.list[n.Tok].Text, as)
	return n
}

func (r *reader) typeName() api.Node {
	if !r.typeNext() {
		r.fail(api.ErrForm)
	}
	return r.take(api.NodeType)
}

// typeNext tells whether a type stands next.
func (r *reader) typeNext() bool {
	switch r.word() {
	case "int", "char", "long", "void":
		return true
	}
	return r.nameNext() && r.names.isType(r.word())
}
