package rename

import (
	"slices"

	"preamble/api"
	"preamble/origin"
	"preamble/scope"
)

// program is what was read: tokens, and what they mean.
type program struct {
	tokens []api.Token
	binds  []api.Bind
}

func read(l api.Files, root int, limits api.Limits) (program, api.Fault) {
	out, _, binds, f := Read(l, root, limits)
	return program{out.Tokens, binds}, f
}

// meant answers the token that those mean which stand at a byte; -1, if they don't mean one, all of them.
func (p program) meant(file, at int) int {
	decl := -1
	for i, tok := range origin.At(p.tokens, file, at) {
		d := scope.Of(p.binds, tok)
		if i > 0 && d != decl {
			return -1
		}
		decl = d
	}
	return decl
}

// edits answers those by which all that means decl is called name, and whether it can be: what was made stands in no file. Bytes of which several tokens came are edited but once.
func (p program) edits(decl int, name string) ([]api.Edit, bool) {
	var out []api.Edit
	for _, b := range p.binds {
		if b.Decl != decl {
			continue
		}
		t := p.tokens[b.Tok]
		if t.Made != api.Plain {
			return nil, false
		}
		e := api.Edit{File: t.File, From: t.At, To: t.End, Text: name}
		if !slices.Contains(out, e) {
			out = append(out, e)
		}
	}
	return out, true
}

// becomes tells whether p is after, if what means decl is called name.
func (p program) becomes(after program, decl int, name string) bool {
	if len(p.tokens) != len(after.tokens) || !slices.Equal(p.binds, after.binds) {
		return false
	}
	for i, t := range p.tokens {
		text := t.Text
		if scope.Of(p.binds, i) == decl {
			text = name
		}
		if after.tokens[i].Kind != t.Kind || after.tokens[i].Text != text {
			return false
		}
	}
	return true
}
