package tree

import "preamble/api"

// The loosest two levels: where an expression begins, signs of one of these are the first to be looked for.
const (
	parting  = 1 // the comma
	settling = 2 // = and its like
)

// levelOf answers how tight a sign binds what it stands between: from 1 on; 0, if it stands between nothing.
func levelOf(sign string) int {
	switch sign {
	case ",":
		return parting
	case "=", "+=", "-=", "*=", "/=", "%=", "&=", "|=", "^=", "<<=", ">>=":
		return settling
	case "||":
		return 3
	case "&&":
		return 4
	case "|":
		return 5
	case "^":
		return 6
	case "&":
		return 7
	case "==", "!=":
		return 8
	case "<", ">", "<=", ">=":
		return 9
	case "<<", ">>":
		return 10
	case "+", "-":
		return 11
	case "*", "/", "%":
		return 12
	}
	return 0
}

// rightOf answers how tight signs must bind to be in the right side of one of that level: tighter, so that of those that bind alike the left one is first; of those that settle the right one is.
func rightOf(level int) int {
	if level == settling {
		return level
	}
	return level + 1
}

func (r *reader) expression() api.Node { return r.between(parting) }

// single reads an expression without a comma.
func (r *reader) single() api.Node { return r.between(settling) }

// between reads parts, with signs of at least that level between them. It counts as soon as its first part is read: whether a sign follows is not known there.
func (r *reader) between(level int) api.Node {
	r.enter(r.partNext())
	defer r.leave()
	n := r.part()
	for {
		own := levelOf(r.word())
		if own < level {
			return n
		}
		sign := r.take(api.NodeBin)
		sign.Kids = []api.Node{n, r.between(rightOf(own))}
		n = sign
	}
}

// part reads what stands between signs.
func (r *reader) part() api.Node {
	r.enter(r.partNext())
	defer r.leave()
	if ahead(r.word()) {
		n := r.take(api.NodeUn)
		n.Kids = []api.Node{r.part()}
		return n
	}
	return r.behind(r.innermost())
}

// partNext tells whether a part of an expression begins with what stands next.
func (r *reader) partNext() bool {
	switch r.kind() {
	case api.TokNum, api.TokChar, api.TokText:
		return true
	}
	return r.nameNext() || r.word() == "(" || ahead(r.word())
}

// ahead tells whether a sign may stand ahead of a part.
func ahead(sign string) bool {
	switch sign {
	case "-", "+", "!", "~", "*", "&", "++", "--":
		return true
	}
	return false
}

// innermost reads a part without signs ahead, and without what stands behind it; that one begins here is known.
func (r *reader) innermost() api.Node {
	switch {
	case r.skip("("):
		n := r.expression()
		r.must(")")
		return n
	case r.nameNext():
		return r.take(api.NodeUse)
	}
	return r.take(api.NodeLit)
}

// behind reads all calls of n, and all places in it, that stand behind it.
func (r *reader) behind(n api.Node) api.Node {
	for {
		switch {
		case r.skip("("):
			call := node(api.NodeCall, n)
			call.Kids = append(call.Kids, r.listed(r.single)...)
			n = call
		case r.skip("["):
			n = node(api.NodeAt, n, r.expression())
			r.must("]")
		default:
			return n
		}
	}
}
