package files_test

import (
	"slices"
	"strings"
	"testing"

	"preamble/api"
	"preamble/files"
)

func some() api.Files {
	return api.Files{{Path: "a", Text: "hello"}, {Path: "b"}, {Path: "c", Text: "0123456789"}}
}

func edit(file, from, to int, text string) api.Edit {
	return api.Edit{File: file, From: from, To: to, Text: text}
}

func TestA3Change(t *testing.T) {
	for _, x := range []struct {
		edits []api.Edit
		want  [3]string
	}{
		{nil, [3]string{"hello", "", "0123456789"}},
		{[]api.Edit{}, [3]string{"hello", "", "0123456789"}},
		{[]api.Edit{edit(2, 2, 4, "ab")}, [3]string{"hello", "", "01ab456789"}},
		{[]api.Edit{edit(2, 2, 4, "")}, [3]string{"hello", "", "01456789"}},
		{[]api.Edit{edit(2, 2, 2, "-")}, [3]string{"hello", "", "01-23456789"}},
		{[]api.Edit{edit(2, 0, 10, "")}, [3]string{"hello", "", ""}},
		{[]api.Edit{edit(1, 0, 0, "new")}, [3]string{"hello", "new", "0123456789"}},
		{[]api.Edit{edit(2, 10, 10, "!"), edit(0, 5, 5, "!"), edit(2, 0, 0, "<")}, [3]string{"hello!", "", "<0123456789!"}},
		{[]api.Edit{edit(2, 4, 5, "b"), edit(2, 2, 4, "a")}, [3]string{"hello", "", "01ab56789"}},
		{[]api.Edit{edit(2, 4, 4, "b"), edit(2, 2, 4, "a")}, [3]string{"hello", "", "01ab456789"}},
		{[]api.Edit{edit(2, 4, 4, "b"), edit(0, 4, 4, "a")}, [3]string{"hellao", "", "0123b456789"}},
		{[]api.Edit{edit(0, 0, 5, "\x00\xff\n")}, [3]string{"\x00\xff\n", "", "0123456789"}},
	} {
		got, err := files.Change(some(), x.edits)
		if err != api.OK || len(got) != 3 {
			t.Errorf("Change(%v) is %v, %v", x.edits, got, err)
			continue
		}
		for i, f := range got {
			if f.Path != some()[i].Path || f.Text != x.want[i] {
				t.Errorf("Change(%v): file %d is %v, not %q", x.edits, i, f, x.want[i])
			}
		}
	}
	if got, err := files.Change(nil, nil); len(got) != 0 || err != api.OK {
		t.Errorf("Change of nothing is %v, %v", got, err)
	}
}

func TestA3Errors(t *testing.T) {
	const least, most = -1 << 63, 1<<63 - 1
	long := strings.Repeat("x", api.MaxText+1)
	for _, x := range []struct {
		l     api.Files
		edits []api.Edit
		want  api.Errno
	}{
		{make(api.Files, 9), nil, api.ErrMany},
		{api.Files{{Path: ".."}}, []api.Edit{edit(7, 0, 0, "")}, api.ErrName},
		{api.Files{{Path: "a", Text: long}}, []api.Edit{edit(0, 0, 9, "")}, api.ErrMuch},
		{api.Files{{Path: "b"}, {Path: "a"}}, nil, api.ErrForm},
		{nil, []api.Edit{edit(0, 0, 0, "")}, api.ErrNone},
		{some(), []api.Edit{edit(3, 0, 0, "")}, api.ErrNone},
		{some(), []api.Edit{edit(-1, 0, 0, "")}, api.ErrNone},
		{some(), []api.Edit{edit(least, 0, 0, "")}, api.ErrNone},
		{some(), []api.Edit{edit(most, 0, 0, "")}, api.ErrNone},
		{some(), []api.Edit{edit(0, 3, 2, "")}, api.ErrRange},
		{some(), []api.Edit{edit(0, -1, 2, "")}, api.ErrRange},
		{some(), []api.Edit{edit(0, 0, 6, "")}, api.ErrRange},
		{some(), []api.Edit{edit(0, 6, 6, "")}, api.ErrRange},
		{some(), []api.Edit{edit(1, 0, 1, "")}, api.ErrRange},
		{some(), []api.Edit{edit(0, least, most, "")}, api.ErrRange},
		{some(), []api.Edit{edit(0, most, least, "")}, api.ErrRange},
		{some(), []api.Edit{edit(2, 3, 5, "b"), edit(2, 2, 4, "a")}, api.ErrFit},
		{some(), []api.Edit{edit(2, 2, 2, "a"), edit(2, 2, 2, "b")}, api.ErrFit},
		{some(), []api.Edit{edit(2, 2, 3, "a"), edit(2, 2, 2, "b")}, api.ErrFit},
		{some(), []api.Edit{edit(2, 2, 2, ""), edit(2, 2, 2, "")}, api.ErrFit},
		{some(), []api.Edit{edit(2, 1, 9, ""), edit(2, 2, 3, ""), edit(2, 4, 5, "")}, api.ErrFit},
		{some(), []api.Edit{edit(0, 0, 0, long)}, api.ErrMuch},
		{some(), []api.Edit{edit(0, 0, 5, long)}, api.ErrMuch},
		{some(), []api.Edit{edit(0, 0, 0, long[:api.MaxText-4])}, api.ErrMuch},
		{some(), []api.Edit{edit(0, 5, 5, long[:2000]), edit(0, 0, 0, long[:2000])}, api.ErrMuch},
		// The first one in the order of File, From, To is told, whatever came first in the list.
		{some(), []api.Edit{edit(2, 3, 2, ""), edit(-1, 0, 0, "")}, api.ErrNone},
		{some(), []api.Edit{edit(3, 0, 0, ""), edit(0, 0, 9, "")}, api.ErrRange},
		{some(), []api.Edit{edit(0, 3, 9, ""), edit(0, 1, 2, ""), edit(0, 1, 2, "")}, api.ErrFit},
		{some(), []api.Edit{edit(0, 2, 9, ""), edit(0, 1, 3, "")}, api.ErrRange},
		{some(), []api.Edit{edit(2, 2, 4, ""), edit(2, 3, 5, ""), edit(2, -1, 0, "")}, api.ErrRange},
		{some(), []api.Edit{edit(0, 2, 9, ""), edit(0, 2, 3, ""), edit(0, 2, 4, "")}, api.ErrFit},
		{some(), []api.Edit{edit(0, 2, 3, ""), edit(0, 2, 4, ""), edit(0, 2, 1, "")}, api.ErrRange},
		// What is too much is told behind all others.
		{some(), []api.Edit{edit(0, 0, 0, long), edit(3, 0, 0, "")}, api.ErrNone},
		{some(), []api.Edit{edit(0, 0, 0, long), edit(2, 0, 11, "")}, api.ErrRange},
		{some(), []api.Edit{edit(0, 0, 0, long), edit(2, 1, 1, ""), edit(2, 1, 1, "")}, api.ErrFit},
	} {
		got, err := files.Change(x.l, x.edits)
		if err != x.want || got != nil {
			t.Errorf("Change of %d files by %d edits is %v, %v, not %v", len(x.l), len(x.edits), len(got), err, x.want)
		}
	}
}

func TestA3Full(t *testing.T) {
	fill := strings.Repeat("x", api.MaxText)
	for _, edits := range [][]api.Edit{
		{edit(0, 0, 5, fill)},
		{edit(0, 0, 0, fill[5:])},
		{edit(0, 0, 3, fill[5:]), edit(0, 5, 5, "abc")},
		{edit(0, 5, 5, fill[5:]), edit(2, 0, 10, fill), edit(1, 0, 0, fill)},
	} {
		got, err := files.Change(some(), edits)
		if err != api.OK || len(got) != 3 || len(got[0].Text) != api.MaxText {
			t.Errorf("Change does not fill a file: %d, %v", len(got), err)
		}
	}
}

// slow says of two edits of one file what Change must, and does the later one first, so that places need no shift.
func slow(text string, a, b api.Edit) (string, api.Errno) {
	wrong := func(e api.Edit) bool { return e.From < 0 || e.To < e.From || e.To > len(text) }
	if b.From < a.From || b.From == a.From && b.To < a.To {
		a, b = b, a
	}
	switch {
	case wrong(a) || wrong(b): // b's range is asked ahead of whether it fits
		return "", api.ErrRange
	case a.From == b.From || a.To > b.From:
		return "", api.ErrFit
	}
	text = text[:b.From] + b.Text + text[b.To:]
	return text[:a.From] + a.Text + text[a.To:], api.OK
}

func TestA3Pairs(t *testing.T) {
	const text = "abc"
	var all []api.Edit
	for from := -1; from <= 4; from++ {
		for to := -1; to <= 4; to++ {
			all = append(all, edit(0, from, to, "<>"))
		}
	}
	for _, a := range all {
		for _, b := range all {
			b.Text = "[]"
			want, wantErr := slow(text, a, b)
			for _, edits := range [][]api.Edit{{a, b}, {b, a}} {
				got, err := files.Change(api.Files{{Path: "x", Text: text}}, edits)
				if err != wantErr || err == api.OK && got[0].Text != want {
					t.Errorf("Change(%v) is %v, %v, not %q, %v", edits, got, err, want, wantErr)
				}
			}
		}
	}
}

// back answers the edits that undo these, which are of one file, and in order.
func back(text string, edits []api.Edit) []api.Edit {
	var out []api.Edit
	more := 0
	for _, e := range edits {
		from := e.From + more
		out = append(out, edit(e.File, from, from+len(e.Text), text[e.From:e.To]))
		more += len(e.Text) - (e.To - e.From)
	}
	return out
}

func TestA3Back(t *testing.T) {
	l := some()
	edits := []api.Edit{edit(2, 0, 0, "<<"), edit(2, 1, 3, ""), edit(2, 4, 5, "four"), edit(2, 5, 5, "|"), edit(2, 9, 10, "end")}
	there, err := files.Change(l, edits)
	if err != api.OK || there[2].Text != "<<03four|5678end" {
		t.Fatalf("there: %v, %v", there, err)
	}
	undo := back(l[2].Text, edits)
	slices.Reverse(undo)
	again, err := files.Change(there, undo)
	if err != api.OK || !slices.Equal(again, l) {
		t.Errorf("back: %v, %v", again, err)
	}
}

func TestZ2Change(t *testing.T) {
	whole := append(some(), api.Source{Path: "spare"})
	l := whole[:3]
	all := []api.Edit{edit(2, 4, 5, "b"), edit(2, 2, 4, "a"), edit(0, 0, 1, "j"), edit(9, 9, 9, "spare")}
	edits := all[:3]
	keptFiles, keptEdits := slices.Clone(whole), slices.Clone(all)
	got, err := files.Change(l, edits)
	if err != api.OK {
		t.Fatal(err)
	}
	if !slices.Equal(whole, keptFiles) || !slices.Equal(all, keptEdits) {
		t.Errorf("Change changes what it is given: %v, %v", whole, all)
	}
	want := slices.Clone(got)
	for i := range l {
		l[i] = api.Source{}
	}
	if !slices.Equal(got, want) {
		t.Errorf("Change's answer is the list that it was given")
	}
	plain, _ := files.Change(keptFiles[:3], nil)
	plain = append(plain, api.Source{Path: "mine"})
	plain[0].Text = "mine"
	if keptFiles[0].Text != "hello" || keptFiles[3].Path != "spare" {
		t.Errorf("Change's answer without edits is the list that it was given")
	}
}
