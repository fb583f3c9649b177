package expand

import (
	"slices"

	"preamble/api"
)

// feed is what is left to expand. What is put ahead of the list is kept backwards, so that neither taking nor putting moves what is behind, nor touches the list.
type feed struct {
	back []api.Token
	list []api.Token
}

// next answers the first token; it stays.
func (f *feed) next() (t api.Token, some bool) {
	switch n := len(f.back); {
	case n > 0:
		return f.back[n-1], true
	case len(f.list) > 0:
		return f.list[0], true
	}
	return api.Token{}, false
}

// take answers the first token, and takes it away.
func (f *feed) take() (t api.Token, some bool) {
	t, some = f.next()
	switch n := len(f.back); {
	case n > 0:
		f.back = f.back[:n-1]
	case some:
		f.list = f.list[1:]
	}
	return t, some
}

// opens tells whether ( is the first token.
func (f *feed) opens() bool {
	t, some := f.next()
	return some && t.Text == "("
}

// put puts l ahead of all.
func (f *feed) put(l []api.Token) {
	for _, t := range slices.Backward(l) {
		f.back = append(f.back, t)
	}
}
