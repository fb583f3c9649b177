package expand

import (
	"slices"

	"preamble/api"
	"preamble/macro"
)

// call is a macro's body that is taken, from the left.
type call struct {
	*run
	name  api.Token
	macro api.Macro
	args  [][]api.Token
	hide  []string // what all that comes of it hides, beside the macro's name
	out   []api.Token
	from  int // where in out what the next ## takes hold of begins
}

// fit answers the arguments that parts are: as many as there are parameters.
func (c *call) fit(parts [][]api.Token) [][]api.Token {
	want := len(c.macro.Params)
	switch {
	case want == 0 && len(parts) == 1 && len(parts[0]) == 0:
		parts = nil
	case c.macro.More && len(parts) == want-1:
		parts = append(parts, nil)
	}
	if len(parts) != want {
		fail(api.ErrMany, c.name)
	}
	return parts
}

// outcome answers what the call stands for.
func (c *call) outcome() []api.Token {
	glued := false
	for i := 0; i < len(c.macro.Body); i++ {
		if c.glues(i) {
			glued = true
			continue
		}
		part, last := c.part(i)
		i = last
		if !glued {
			c.from = len(c.out)
		}
		c.add(part, c.macro.Body[i])
		glued = false
	}
	c.sign()
	return c.out
}

// glues tells whether token i of the body is there, and is ##.
func (c *call) glues(i int) bool {
	return i >= 0 && i < len(c.macro.Body) && isSign(c.macro.Body[i], "##")
}

// part answers what token i of the body is, and the number of the last token that belongs to it.
func (c *call) part(i int) (out []api.Token, last int) {
	t := c.macro.Body[i]
	if c.macro.Call && isSign(t, "#") {
		arg, _ := c.arg(c.macro.Body[i+1])
		return []api.Token{macro.Quote(arg, t)}, i + 1
	}
	arg, is := c.arg(t)
	switch {
	case !is:
		return []api.Token{t}, i
	case c.glues(i-1) || c.glues(i+1):
		// The argument itself stays as it is: its parameter may stand elsewhere too.
		out = slices.Clone(arg)
	default:
		out = c.expanded(arg)
	}
	if len(out) > 0 {
		out[0].Space = t.Space
	}
	return out, i
}

// arg answers the argument for t, if that is a parameter.
func (c *call) arg(t api.Token) ([]api.Token, bool) {
	i := slices.Index(c.macro.Params, t.Text)
	if t.Kind != api.TokName || i < 0 {
		return nil, false
	}
	return c.args[i], true
}

// add has part come behind what is there, glued to what stands since from; by is where it stands in the body.
func (c *call) add(part []api.Token, by api.Token) {
	if last := len(c.out) - 1; last >= c.from && len(part) > 0 {
		t, one := macro.Paste(c.out[last], part[0])
		if !one {
			fail(api.ErrPaste, by)
		}
		c.out[last], part = t, part[1:]
	}
	c.out = append(c.out, part...)
}

// sign has each token hide what it must, and tell of the call. Each has lists of its own.
func (c *call) sign() {
	at := api.Call{Name: c.name.Text, File: c.name.File, At: c.name.At}
	if c.name.Made != api.Plain {
		at.File, at.At = -1, 0
	}
	for i, t := range c.out {
		hide := slices.Concat(c.hide, []string{c.macro.Name}, t.Hide)
		slices.Sort(hide)
		c.out[i].Hide = slices.Compact(hide)
		c.out[i].Calls = slices.Concat(c.name.Calls, []api.Call{at}, t.Calls)
	}
	if len(c.out) > 0 {
		c.out[0].Space = c.name.Space
	}
}

// both answers what a and b hide.
func both(a, b api.Token) []string {
	var out []string
	for _, name := range a.Hide {
		if hides(b, name) {
			out = append(out, name)
		}
	}
	return out
}

// hides tells whether t is none of the macro of that name any more.
func hides(t api.Token, name string) bool { return slices.Contains(t.Hide, name) }

func isSign(t api.Token, s string) bool { return t.Kind == api.TokSign && t.Text == s }
