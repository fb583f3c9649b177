package tree

import "preamble/api"

// block reads one; whoever asks for it opens its surroundings.
func (r *reader) block() api.Node {
	if r.word() != "{" {
		r.fail(api.ErrForm)
	}
	r.enter(true)
	defer r.leave()
	r.must("{")
	n := node(api.NodeBlock)
	for !r.skip("}") {
		n.Kids = append(n.Kids, r.statement())
	}
	return n
}

func (r *reader) statement() api.Node {
	r.enter(r.statementNext())
	defer r.leave()
	switch word := r.word(); {
	case word == "{":
		r.names.open()
		defer r.names.close()
		return r.block()
	case word == "if":
		return r.choice()
	case word == "while":
		return r.asked(api.NodeWhile)
	case word == "return":
		r.at++
		return r.plain(api.NodeReturn)
	case r.declarationNext():
		return r.declaration()
	}
	return r.plain(api.NodeExpr)
}

// statementNext tells whether a statement begins with what stands next.
func (r *reader) statementNext() bool {
	switch r.word() {
	case "{", "if", "while", "return", ";":
		return true
	}
	return r.declarationNext() || r.partNext()
}

// declarationNext tells whether a declaration begins with what stands next.
func (r *reader) declarationNext() bool { return r.word() == "typedef" || r.typeNext() }

// choice reads an if. An else is of the innermost if that has none yet, as that one is asked first.
func (r *reader) choice() api.Node {
	n := r.asked(api.NodeIf)
	if r.skip("else") {
		n.Kids = append(n.Kids, r.statement())
	}
	return n
}

// asked reads if, or while, with its condition, and the statement that hangs on it.
func (r *reader) asked(kind int) api.Node {
	r.at++
	r.must("(")
	condition := r.expression()
	r.must(")")
	return node(kind, condition, r.statement())
}

// plain reads perhaps an expression, and a semicolon.
func (r *reader) plain(kind int) api.Node {
	n := node(kind)
	if r.word() != ";" {
		n.Kids = []api.Node{r.expression()}
	}
	r.must(";")
	return n
}
