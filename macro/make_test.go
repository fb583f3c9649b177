package macro_test

import (
	"reflect"
	"slices"
	"strings"
	"testing"

	"preamble/api"
	"preamble/lex"
	"preamble/macro"
)

func TestE3Quote(t *testing.T) {
	for _, x := range []struct{ s, want string }{
		{"", `""`}, {"a", `"a"`}, {"  a  ", `"a"`}, {"a b", `"a b"`}, {" a \t b ", `"a b"`}, {"a/* x */b", `"a b"`}, {"a\nb", `"a b"`}, {"a+b", `"a+b"`}, {"a + b", `"a + b"`}, {"+ +", `"+ +"`}, {"+++", `"+++"`}, {"f( x,y )", `"f( x,y )"`}, {"1.5e+3", `"1.5e+3"`}, {"# ##", `"# ##"`},
		{`"x"`, `"\"x\""`}, {`""`, `"\"\""`}, {`"\n"`, `"\"\\n\""`}, {`"\""`, `"\"\\\"\""`}, {`"\\"`, `"\"\\\\\""`}, {`"a" "b"`, `"\"a\" \"b\""`}, {`"a""b"`, `"\"a\"\"b\""`}, {`"it's"`, `"\"it's\""`},
		{`'x'`, `"'x'"`}, {`'"'`, `"'\"'"`}, {`'\''`, `"'\\''"`}, {`'\\'`, `"'\\\\'"`}, {`'\n'`, `"'\\n'"`},
		// A \ that is in no text, and in no character, stays as it is.
		{`\`, `"\"`}, {`a \ b`, `"a \ b"`}, {`\\`, `"\\"`}, {`@`, `"@"`},
	} {
		got := macro.Quote(read(t, x.s), api.Token{})
		if want := (api.Token{Kind: api.TokText, Text: x.want, Made: api.Quoted}); !reflect.DeepEqual(got, want) {
			t.Errorf("Quote(%s) is %v, not %s", x.s, got, x.want)
		}
	}
	if got := macro.Quote([]api.Token{}, api.Token{}).Text; got != `""` {
		t.Errorf("Quote of nothing is %s", got)
	}
}

// Only texts and characters have a \ put in; a blank stands for Space alone, and never ahead of the first one.
func TestE3QuoteKinds(t *testing.T) {
	for _, x := range []struct {
		kind int
		want string
	}{
		{api.TokText, `"a\"\\ \"\\ \"\\"`}, {api.TokChar, `"a\"\\ \"\\ \"\\"`}, {api.TokName, `"a"\ "\ "\"`}, {api.TokNum, `"a"\ "\ "\"`}, {api.TokSign, `"a"\ "\ "\"`}, {api.TokOther, `"a"\ "\ "\"`}, {api.TokPath, `"a"\ "\ "\"`}, {0, `"a"\ "\ "\"`}, {99, `"a"\ "\ "\"`},
	} {
		l := []api.Token{{Kind: x.kind, Text: "a", Space: true}, {Kind: x.kind, Text: `"\`, First: true}, {Kind: x.kind, Text: `"\`, Space: true}, {Kind: x.kind, Text: ` "\`}}
		if got := macro.Quote(l, api.Token{}).Text; got != x.want {
			t.Errorf("kind %d: Quote is %s, not %s", x.kind, got, x.want)
		}
	}
	l := []api.Token{{Space: true}, {Space: true}, {Space: true}}
	if got := macro.Quote(l, api.Token{}).Text; got != `"  "` {
		t.Errorf("Quote of three that are empty is %s", got)
	}
}

func TestE3QuoteBy(t *testing.T) {
	by := api.Token{Kind: api.TokSign, Text: "#", Space: true, First: true, File: 3, At: 8, End: 9, Line: 2, Hide: []string{"G", "H"}, Calls: []api.Call{{Name: "G", File: 1, At: 2}}, Made: api.Given}
	l := []api.Token{{Kind: api.TokName, Text: "a", File: 7, At: 7, End: 8, Line: 7, Hide: []string{"X"}, Calls: []api.Call{{Name: "X"}}, Made: api.Pasted}, {Kind: api.TokName, Text: "b", Space: true}}
	full, kept := l, slices.Clone(l)
	want := by
	want.Kind, want.Text, want.Made = api.TokText, `"a"`, api.Quoted
	if got := macro.Quote(l[:1], by); !reflect.DeepEqual(got, want) {
		t.Errorf("Quote is %v, not %v", got, want)
	}
	if !reflect.DeepEqual(full, kept) {
		t.Error("the list is changed")
	}
}

// A quoted text of a text is read again as one, and tells the same bytes.
func TestE3QuoteAgain(t *testing.T) {
	for _, s := range []string{`"a" 'b'`, `"\\" "\"" '\''`, `x("y\n", 'z')`, `"\"\\\""`} {
		once := macro.Quote(read(t, s), api.Token{})
		l := read(t, once.Text)
		if len(l) != 1 || l[0].Kind != api.TokText {
			t.Fatalf("%s is read as %v", once.Text, l)
		}
		back := strings.NewReplacer(`\\`, `\`, `\"`, `"`).Replace(once.Text[1 : len(once.Text)-1])
		if want := lex.Join(read(t, s)); back != want {
			t.Errorf("%s tells %s, not %s", once.Text, back, want)
		}
	}
}

func TestE3Paste(t *testing.T) {
	for _, x := range []struct {
		a, b string
		kind int
	}{
		{"a", "b", api.TokName}, {"a", "1", api.TokName}, {"_", "_", api.TokName}, {"a", "", api.TokName}, {"", "a", api.TokName}, {"L", "x", api.TokName},
		{"1", "2", api.TokNum}, {"1", "a", api.TokNum}, {".", "1", api.TokNum}, {"1", ".", api.TokNum}, {"1e", "+", api.TokNum}, {"1", "e+5", api.TokNum}, {"1", ".5", api.TokNum}, {"0", "x1", api.TokNum},
		{"+", "+", api.TokSign}, {"-", ">", api.TokSign}, {"<", "<=", api.TokSign}, {"<<", "=", api.TokSign}, {"#", "#", api.TokSign}, {"+", "", api.TokSign}, {"", "...", api.TokSign}, {"..", ".", api.TokSign}, {"!", "=", api.TokSign},
		{"\"x\"", "", api.TokText}, {"\"x", "y\"", api.TokText}, {"'x", "'", api.TokChar}, {"", "'x'", api.TokChar}, {"@", "", api.TokOther}, {"", "\\", api.TokOther},
	} {
		got, ok := macro.Paste(api.Token{Kind: 77, Text: x.a}, api.Token{Kind: 78, Text: x.b})
		if want := (api.Token{Kind: x.kind, Text: x.a + x.b, Made: api.Pasted}); !ok || !same(got, want) {
			t.Errorf("Paste(%q, %q) is %v %t, not %v", x.a, x.b, got, ok, want)
		}
	}
}

// same tells whether a and b are; nil and a list without entries are the same.
func same(a, b api.Token) bool {
	if len(a.Hide) == 0 && len(b.Hide) == 0 {
		a.Hide, b.Hide = nil, nil
	}
	return reflect.DeepEqual(a, b)
}

func TestE3NoPaste(t *testing.T) {
	for _, x := range [][2]string{
		{"", ""}, {"a", "+"}, {"+", "a"}, {"1", "+"}, {"+", "-"}, {".", "."}, {"-", "1"}, {"a", "."}, {"a", ".5"}, {"(", ")"}, {"##", "#"}, {"*", "/"}, {"=", "+"}, {"@", "@"}, {"\xc3", "\xa4"},
		{"\"x\"", "\"y\""}, {"\"x\"", "y"}, {"L", "\"x\""}, {"1", "'x'"}, {"<a", ">"},
		// These are blank, or can't be read.
		{"/", "/"}, {"/", "*"}, {"//", "a"}, {"a", "//"}, {"/*", "*/"}, {"/**/", "a"}, {"a", "/*"}, {"\"", "x"}, {"'", ""}, {"a", "'"},
		// These are one, but not of just that text.
		{" ", "a"}, {"a", " "}, {"a", "\n"}, {"a", "\\\nb"}, {"a\\\n", "b"}, {"+\\", "\n+"}, {"\\\n", "a"}, {"a", "//b"}, {"\"", "\\\n\""},
		{strings.Repeat("x", api.MaxText), "x"}, {"", strings.Repeat("x", api.MaxText+1)},
	} {
		full := api.Token{Kind: api.TokName, Space: true, First: true, File: 1, At: 2, End: 3, Line: 4, Hide: []string{"H"}, Calls: []api.Call{{Name: "c"}}, Made: api.Given}
		a, b := full, full
		a.Text, b.Text = x[0], x[1]
		if got, ok := macro.Paste(a, b); ok || !reflect.DeepEqual(got, api.Token{}) {
			t.Errorf("Paste(%q, %q) is %v %t", x[0], x[1], got, ok)
		}
	}
	if _, ok := macro.Paste(api.Token{Text: "x"}, api.Token{Text: strings.Repeat("x", api.MaxText-1)}); !ok {
		t.Error("as many bytes as a text may have are not one")
	}
}

func TestE3PasteFields(t *testing.T) {
	a := api.Token{Kind: api.TokName, Text: "a", Space: true, First: true, File: 3, At: 8, End: 9, Line: 2, Hide: []string{"P", "Q", "R"}, Calls: []api.Call{{Name: "G", File: 1, At: 2}}, Made: api.Given}
	b := api.Token{Kind: api.TokNum, Text: "1", File: 4, At: 18, End: 19, Line: 12, Hide: []string{"Q", "R", "S"}, Calls: []api.Call{{Name: "B"}}, Made: api.Quoted}
	want := a
	want.Text, want.Hide, want.Made = "a1", []string{"Q", "R"}, api.Pasted
	if got, ok := macro.Paste(a, b); !ok || !reflect.DeepEqual(got, want) {
		t.Errorf("Paste is %v %t, not %v", got, ok, want)
	}
	b.Space, b.First, a.Space, a.First = true, true, false, false
	want.Space, want.First = false, false
	if got, ok := macro.Paste(a, b); !ok || !reflect.DeepEqual(got, want) {
		t.Errorf("Paste is %v %t, not %v", got, ok, want)
	}
}

func TestE3PasteHide(t *testing.T) {
	for _, x := range []struct{ a, b, want string }{
		{"", "", ""}, {"A", "", ""}, {"", "A", ""}, {"A", "A", "A"}, {"A", "B", ""}, {"A B C", "B", "B"}, {"B", "A B C", "B"}, {"A B C", "A B C", "A B C"}, {"A C E", "B C D E", "C E"}, {"A B", "C D", ""}, {"C D", "A B", ""}, {"A C", "A B C", "A C"}, {"a", "A", ""},
	} {
		fullA, fullB := append(strings.Fields(x.a), "Z"), append(strings.Fields(x.b), "Z")
		a := api.Token{Text: "a", Hide: fullA[:len(fullA)-1]}
		b := api.Token{Text: "b", Hide: fullB[:len(fullB)-1]}
		got, ok := macro.Paste(a, b)
		if !ok || strings.Join(got.Hide, " ") != x.want {
			t.Errorf("of %s and %s %q are left", x.a, x.b, got.Hide)
		}
		for i := range got.Hide[:cap(got.Hide)] {
			got.Hide[:cap(got.Hide)][i] = "?"
		}
		if strings.Join(fullA, " ") != strings.TrimSpace(x.a+" Z") || strings.Join(fullB, " ") != strings.TrimSpace(x.b+" Z") {
			t.Errorf("lists are changed: %q %q", fullA, fullB)
		}
	}
}

// What does not stick as two, or as none, is one: pasting and sticking are asked of the same reading.
func TestE3PasteOrParts(t *testing.T) {
	for _, a := range lex.Signs() {
		for _, b := range lex.Signs() {
			_, ok := macro.Paste(api.Token{Text: a}, api.Token{Text: b})
			if want := slices.Contains(lex.Signs(), a+b); ok != want {
				t.Errorf("Paste(%s, %s) is %t", a, b, ok)
			}
			if ok && !lex.Sticks(a, b) {
				t.Errorf("%s and %s are one, and two", a, b)
			}
		}
	}
}
