package cond

import "preamble/api"

// stop is thrown where reading can't go on.
type stop struct{ api.Fault }

// cursor goes through a list of tokens, from the left.
type cursor struct {
	list []api.Token
	at   int
}

// sign answers the text of the sign that stands next; it is empty, if none does.
func (c *cursor) sign() string {
	if c.at < len(c.list) && c.list[c.at].Kind == api.TokSign {
		return c.list[c.at].Text
	}
	return ""
}

// skip goes past sign s, which must stand next.
func (c *cursor) skip(s string) {
	if c.sign() != s {
		c.fail(api.ErrForm, c.at)
	}
	c.at++
}

// fail throws what is wrong at token i; behind the last one the place is where that ends.
func (c *cursor) fail(err api.Errno, i int) {
	f := api.Fault{Err: err, File: -1}
	switch n := len(c.list); {
	case i < n:
		f.File, f.At = c.list[i].File, c.list[i].At
	case n > 0:
		f.File, f.At = c.list[n-1].File, c.list[n-1].End
	}
	panic(stop{f})
}
