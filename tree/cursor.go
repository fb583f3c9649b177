package tree

import "preamble/api"

// stop is thrown where reading can't go on.
type stop struct{ api.Fault }

// cursor goes through a list of tokens, from the left.
type cursor struct {
	list []api.Token
	at   int
}

func (c *cursor) ended() bool { return c.at == len(c.list) }

// kind answers the kind of the token that stands next; 0, which is none's, if none does.
func (c *cursor) kind() int {
	if c.ended() {
		return 0
	}
	return c.list[c.at].Kind
}

// word answers the text of the name or the sign that stands next; it is empty, if neither does.
func (c *cursor) word() string {
	if k := c.kind(); k == api.TokName || k == api.TokSign {
		return c.list[c.at].Text
	}
	return ""
}

// nameNext tells whether a name stands next that is no Key.
func (c *cursor) nameNext() bool {
	return c.kind() == api.TokName && !Key(c.list[c.at].Text)
}

// take goes past the next token, and answers a node of it.
func (c *cursor) take(kind int) api.Node {
	c.at++
	return api.Node{Kind: kind, Tok: c.at - 1}
}

// skip goes past word s, if that stands next, and tells whether it did.
func (c *cursor) skip(s string) bool {
	if c.word() != s {
		return false
	}
	c.at++
	return true
}

// must goes past word s, which must stand next.
func (c *cursor) must(s string) {
	if !c.skip(s) {
		c.fail(api.ErrForm)
	}
}

// fail throws what is wrong at the next token; behind the last one the place is where that ends.
func (c *cursor) fail(err api.Errno) {
	f := api.Fault{Err: err, File: -1}
	switch n := len(c.list); {
	case c.at < n:
		f.File, f.At = c.list[c.at].File, c.list[c.at].At
	case n > 0:
		f.File, f.At = c.list[n-1].File, c.list[n-1].End
	}
	panic(stop{f})
}
