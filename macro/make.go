package macro

import (
	"slices"
	"strings"

	"preamble/api"
	"preamble/lex"
)

// Quote answers the text that tells l, as # (by) makes it of an argument.
func Quote(l []api.Token, by api.Token) api.Token {
	var out strings.Builder
	out.WriteByte('"')
	for i, t := range l {
		if i > 0 && t.Space {
			out.WriteByte(' ')
		}
		switch t.Kind {
		case api.TokText, api.TokChar:
			out.WriteString(escaped(t.Text))
		default:
			out.WriteString(t.Text)
		}
	}
	out.WriteByte('"')
	by.Kind, by.Text, by.Made = api.TokText, out.String(), api.Quoted
	return by
}

// escaped has a \ ahead of each \ and " of s: those of s first, lest the new ones get one too.
func escaped(s string) string {
	return strings.ReplaceAll(strings.ReplaceAll(s, `\`, `\\`), `"`, `\"`)
}

// Paste answers the one token that a and b are, if they are one.
func Paste(a, b api.Token) (api.Token, bool) {
	text := a.Text + b.Text
	l, _ := lex.Tokens(0, text)
	// Of just that text: a blank, or an end of a line that is joined, is in no token.
	if len(l) != 1 || l[0].Text != text {
		return api.Token{}, false
	}
	a.Kind, a.Text, a.Made = l[0].Kind, text, api.Pasted
	a.Hide = slices.DeleteFunc(slices.Clone(a.Hide), func(name string) bool { return !slices.Contains(b.Hide, name) })
	return a, true
}
