package lex

import (
	"preamble/api"
	"preamble/splice"
)

// What a piece may be beside the kinds of tokens.
const (
	nothing = 0  // the text is at its end
	open    = -1 // what begins there has no end
)

// piece is what stands from one byte of a joined text to another.
type piece struct {
	kind, from, to int
	space, first   bool
}

// Tokens answers the tokens of a file's text. Pieces are of the joined text; places and lines are told of the text as it was handed in.
func Tokens(file int, text string) ([]api.Token, api.Fault) {
	if len(text) > api.MaxText {
		return nil, api.Fault{Err: api.ErrMuch, File: file}
	}
	joined := splice.Text(text)
	var out []api.Token
	next := pieces(joined.Text, func() bool { return behindInclude(out) })
	for p := next(); p.kind != nothing; p = next() {
		at := splice.Where(joined, p.from)
		if p.kind == open {
			return nil, api.Fault{Err: api.ErrEnd, File: file, At: at}
		}
		out = append(out, api.Token{
			Kind: p.kind, Text: joined.Text[p.from:p.to],
			Space: p.space, First: p.first,
			File: file, At: at,
			// Of the last byte, and not of the one behind: a joined end of a line may stand between.
			End:  splice.Where(joined, p.to-1) + 1,
			Line: splice.Lines(text, at),
		})
	}
	return out, api.Fault{File: -1}
}

// behindInclude tells whether l ends with a line's # and include, and nothing more.
func behindInclude(l []api.Token) bool {
	if len(l) < 2 {
		return false
	}
	hash, word := l[len(l)-2], l[len(l)-1]
	return hash.First && hash.Text == "#" && !word.First && word.Text == "include"
}

// pieces answers a function that gives out the pieces of s, one by one. It asks include whether those that it gave out so far end with #include.
func pieces(s string, include func() bool) func() piece {
	at := 0
	var p piece
	all := shapes(func() bool { return !p.first && include() })
	return func() piece {
		p = piece{first: at == 0}
		for n := blankSize(s[at:]); n != 0; n = blankSize(s[at:]) {
			if n == open {
				return piece{kind: open, from: at}
			}
			p.space = true
			// Only a line feed that stands by itself: a comment is one blank, whatever is in it.
			p.first = p.first || s[at] == '\n'
			at += n
		}
		if at == len(s) {
			return piece{}
		}
		p.from = at
		p.kind, p.to = measure(all, s, at)
		at = p.to
		return p
	}
}

// measure answers the kind of what stands at byte at of s, and where it ends.
func measure(all []shape, s string, at int) (kind, to int) {
	for _, x := range all {
		switch n := x.size(s[at:]); {
		case n == open:
			return open, at
		case n > 0:
			return x.kind, at + n
		}
	}
	return api.TokOther, at + 1
}
