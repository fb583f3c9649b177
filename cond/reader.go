package cond

import "preamble/api"

// reader reckons while it reads. What it reads is asked, or not: what is not is read as well, so that its form is checked, but what only reckoning would find wrong is not told of it, and what is answered for it means nothing.
type reader struct {
	cursor
	depth int // in how many operands what is read stands
}

// choice reads signs between, and perhaps what ? has behind.
func (r *reader) choice(asked bool) int {
	n := r.between(1, asked)
	if r.sign() != "?" {
		return n
	}
	r.at++
	yes := r.choice(asked && n != 0)
	r.skip(":")
	no := r.choice(asked && n == 0)
	if n != 0 {
		return yes
	}
	return no
}

// between reads operands, with signs of at least that level between them. A sign has as its right side only what binds tighter, so that of those that bind alike the left one is first.
func (r *reader) between(level int, asked bool) int {
	n := r.operand(asked)
	for {
		at, sign := r.at, r.sign()
		own := levelOf(sign)
		if own < level {
			return n
		}
		r.at++
		m := r.between(own+1, asked && asks(sign, n))
		if !asked {
			continue
		}
		if err := wrong(sign, m); err != api.OK {
			r.fail(err, at)
		}
		n = reckon(sign, n, m)
	}
}

// operand reads what stands between signs. Its depth is held against the limit ahead of all else: even where l ends, an operand would stand there.
func (r *reader) operand(asked bool) int {
	if r.depth == api.MaxTree {
		r.fail(api.ErrDeep, r.at)
	}
	if r.at == len(r.list) {
		r.fail(api.ErrEnd, r.at)
	}
	r.depth++
	n := r.inner(r.list[r.at], asked)
	r.depth--
	return n
}

// inner reads an operand that begins with token t.
func (r *reader) inner(t api.Token, asked bool) int {
	switch t.Kind {
	case api.TokName:
		r.at++
		return 0
	case api.TokNum:
		return r.value(Num(t.Text))
	case api.TokChar:
		return r.value(Char(t.Text))
	}
	switch sign := r.sign(); sign {
	case "(":
		r.at++
		n := r.choice(asked)
		r.skip(")")
		return n
	case "-", "+", "~", "!":
		r.at++
		return ahead(sign, r.operand(asked))
	}
	r.fail(api.ErrForm, r.at)
	return 0
}

// value goes past a number, or a character.
func (r *reader) value(n int, good bool) int {
	if !good {
		r.fail(api.ErrRange, r.at)
	}
	r.at++
	return n
}
