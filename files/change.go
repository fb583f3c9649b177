package files

import (
	"cmp"
	"slices"
	"strings"

	"preamble/api"
)

// Change answers files in which each edit is done; edits may come in any order.
func Change(l api.Files, edits []api.Edit) (api.Files, api.Errno) {
	if f := Wrong(l); f.Err != api.OK {
		return nil, f.Err
	}
	sorted := inOrder(edits)
	if err := misfit(l, sorted); err != api.OK {
		return nil, err
	}
	next := byFile(sorted)
	out := make(api.Files, 0, len(l))
	for i, f := range l {
		text, ok := rewrite(f.Text, next(i))
		if !ok {
			return nil, api.ErrMuch
		}
		out = append(out, api.Source{Path: f.Path, Text: text})
	}
	return out, api.OK
}

// inOrder answers a copy, since the caller's list must stay as it is.
func inOrder(edits []api.Edit) []api.Edit {
	sorted := slices.Clone(edits)
	slices.SortFunc(sorted, func(a, b api.Edit) int {
		return cmp.Or(cmp.Compare(a.File, b.File), cmp.Compare(a.From, b.From), cmp.Compare(a.To, b.To))
	})
	return sorted
}

// misfit tells the first error of edits that are in order. To hold each against the one ahead is enough: an earlier one that reaches further would have been told there.
func misfit(l api.Files, sorted []api.Edit) api.Errno {
	for i, e := range sorted {
		switch {
		case e.File < 0 || e.File >= len(l):
			return api.ErrNone
		case e.From < 0 || e.From > e.To || e.To > len(l[e.File].Text):
			return api.ErrRange
		case i > 0 && clash(sorted[i-1], e):
			return api.ErrFit
		}
	}
	return api.OK
}

func clash(ahead, e api.Edit) bool {
	return ahead.File == e.File && (ahead.To > e.From || ahead.From == e.From)
}

// byFile answers a function that gives out each file's edits; it is to be asked for files one by one, from 0 on.
func byFile(sorted []api.Edit) func(file int) []api.Edit {
	return func(file int) []api.Edit {
		n := 0
		for n < len(sorted) && sorted[n].File == file {
			n++
		}
		mine := sorted[:n]
		sorted = sorted[n:]
		return mine
	}
}

// rewrite does a file's edits, and answers false if the file would be too long. An edit's text that is too long needs no look of its own: it would stand in the file, whole.
func rewrite(text string, edits []api.Edit) (string, bool) {
	size := len(text)
	for _, e := range edits {
		size += len(e.Text) - (e.To - e.From)
	}
	if size > api.MaxText {
		return "", false
	}
	var out strings.Builder
	at := 0
	for _, e := range edits {
		out.WriteString(text[at:e.From])
		out.WriteString(e.Text)
		at = e.To
	}
	out.WriteString(text[at:])
	return out.String(), true
}
