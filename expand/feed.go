package expand

import (
	"slices"

	"preamble/api"
)

// feed is what is left to expand. What is put ahead of the list is kept backwards, so that neither taking nor putting moves what is behind, nor touches the list.
type feed struct {
	back []api.Token
	list []api.Token
}

// next answers the first token; it stays.
func (f *feed) next() (t api.Token, some bool) {
	switch n := len(f.back); {
	case n > 0:
		return f.back[n-1], true
	case len(f.list) > 0:
		return f.list[0], true
	}
	return api.Token{}, false
}

// take answers the first token, and takes it away.
func (f *feed) take() (t api.Token, some bool) {
	t, some = f.next()
	switch n := len(f.back); {
	case n > 0:
		f.back = f.back[:n-1]
	case some:
		f.list = f.list[1:]
	}
	return t, some
}

// opens tells whether ( is the first token.
func (f *feed) opens() bool {
	t, some := f.next()
	return some && t.Text == "("
}

// all goes through the tokens, the first one first; they stay.
func (f *feed) all(yield func(api.Token) bool) {
	for _, t := range slices.Backward(f.back) {
		if !yield(t) {
			return
		}
	}
	for _, t := range f.list {
		if !yield(t) {
			return
		}
	}
}

// within answers how many tokens stand between the first one, which is (, and the ) that ends it, if there is one.
func (f *feed) within() (size int, ends bool) {
	size, depth := -1, 0
	for t := range f.all {
		depth += deeper(t)
		if depth == 0 {
			return size, true
		}
		size++
	}
	return 0, false
}

// put puts l ahead of all.
func (f *feed) put(l []api.Token) {
	for _, t := range slices.Backward(l) {
		f.back = append(f.back, t)
	}
}

// deeper answers by how many parentheses what stands behind t is deeper than t.
func deeper(t api.Token) int {
	switch t.Text {
	case "(":
		return 1
	case ")":
		return -1
	}
	return 0
}
