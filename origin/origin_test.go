package origin_test

import (
	"math"
	"slices"
	"strings"
	"testing"

	"preamble/api"
	"preamble/lex"
	"preamble/origin"
)

// sources are the files of the tables below: a joined line, a line that ends with a carriage return, a name at the very end; and one of no bytes.
var sources = api.Files{{Path: "a", Text: "ab\\\ncd + e\r\nf\\\r\ng X"}, {Path: "b", Text: ""}}

// plain answers a token that stands there.
func plain(text string, file, at, end int) api.Token {
	return api.Token{Kind: api.TokName, Text: text, File: file, At: at, End: end}
}

// wrongPlaces are files and places, of which at least one is none in sources.
var wrongPlaces = [][3]int{
	{-1, 0, 0}, {-2, 0, 1}, {2, 0, 0}, {math.MinInt, 0, 0}, {math.MaxInt, 0, 0},
	{0, -1, 0}, {0, -1, -1}, {0, -1, 3}, {0, 1, 0}, {0, 20, 21}, {0, 0, 21}, {0, 21, 21}, {0, 21, 20}, {0, 20, 19}, {1, 0, 1}, {1, 1, 1}, {1, -1, 0},
	{0, math.MinInt, 0}, {0, 0, math.MinInt}, {0, 1, math.MinInt}, {0, 20, math.MinInt}, {0, math.MaxInt, math.MaxInt}, {0, 0, math.MaxInt}, {0, math.MinInt, math.MaxInt}, {0, math.MaxInt, math.MinInt},
}

func TestH1Span(t *testing.T) {
	for _, x := range []struct {
		file, at, end int
		want          string
	}{
		{0, 0, 2, "ab"}, {0, 0, 6, "abcd"}, {0, 4, 6, "cd"}, {0, 7, 8, "+"}, {0, 12, 17, "fg"}, {0, 18, 19, "X"},
		// Any bytes will do, not only those of a token.
		{0, 0, 19, "abcd + e\nfg X"}, {0, 9, 13, "e\nf"}, {0, 2, 4, ""}, {0, 10, 12, "\n"},
		// Bytes are joined by themselves: what is only half in joins nothing.
		{0, 0, 3, "ab\\"}, {0, 3, 6, "\ncd"}, {0, 9, 11, "e\r"}, {0, 13, 15, "\\\r"}, {0, 14, 17, "\ng"},
		{0, 0, 0, ""}, {0, 5, 5, ""}, {0, 19, 19, ""}, {1, 0, 0, ""},
	} {
		if s, ok := origin.Span(sources, plain("no matter", x.file, x.at, x.end)); s != x.want || !ok {
			t.Errorf("%v is %q %v", x, s, ok)
		}
	}
}

func TestH1SpanNone(t *testing.T) {
	if n := len(sources[0].Text); n != 19 {
		t.Fatalf("the table of wrong places is of 19 bytes, not of %d", n)
	}
	for _, x := range wrongPlaces {
		if s, ok := origin.Span(sources, plain("", x[0], x[1], x[2])); s != "" || ok {
			t.Errorf("%v is %q %v", x, s, ok)
		}
	}
	for _, made := range []int{api.Pasted, api.Quoted, api.Given, 4, -1, math.MaxInt, math.MinInt} {
		x := plain("ab", 0, 0, 2)
		x.Made = made
		if s, ok := origin.Span(sources, x); s != "" || ok {
			t.Errorf("made by %d is %q %v", made, s, ok)
		}
	}
	for _, l := range []api.Files{nil, {}} {
		if s, ok := origin.Span(l, api.Token{}); s != "" || ok {
			t.Errorf("without files it is %q %v", s, ok)
		}
	}
}

// Span of every piece of every short text is what a replacer makes of it.
func TestH1SpanEvery(t *testing.T) {
	joined := strings.NewReplacer("\\\r\n", "", "\\\n", "", "\r\n", "\n")
	every("a\\\r\n", 5, func(s string) {
		l := api.Files{{Path: "a"}, {Path: "b", Text: s}}
		for at := -1; at <= len(s)+1; at++ {
			for end := -1; end <= len(s)+1; end++ {
				want, there := "", 0 <= at && at <= end && end <= len(s)
				if there {
					want = joined.Replace(s[at:end])
				}
				if got, ok := origin.Span(l, plain("", 1, at, end)); got != want || ok != there {
					t.Fatalf("%q, %d to %d: %q %v", s, at, end, got, ok)
				}
			}
		}
	})
}

// every calls f with each text of at most n bytes of letters.
func every(letters string, n int, f func(string)) {
	f("")
	if n == 0 {
		return
	}
	for _, c := range letters {
		every(letters, n-1, func(s string) { f(string(c) + s) })
	}
}

func TestH1RightOfPlain(t *testing.T) {
	for _, x := range []api.Token{plain("ab", 0, 0, 2), plain("abcd", 0, 0, 6), plain("fg", 0, 12, 17), plain("X", 0, 18, 19), plain("", 0, 3, 3), plain("", 1, 0, 0), plain("", 0, 2, 4)} {
		if !origin.Right(sources, x) {
			t.Errorf("%v is wrong", x)
		}
	}
	for _, x := range []api.Token{plain("ab", 0, 0, 3), plain("ab", 0, 0, 1), plain("", 0, 0, 1), plain("ab", 0, 0, 0), plain("abcd", 0, 0, 4), plain("ab\\\ncd", 0, 0, 6), plain("AB", 0, 0, 2), plain("ab", 1, 0, 2), plain("ab", 0, 1, 3), plain("ab", 0, 2, 0)} {
		if origin.Right(sources, x) {
			t.Errorf("%v is right", x)
		}
	}
	// Without a place nothing is told, not even nothing.
	for _, x := range wrongPlaces {
		if origin.Right(sources, plain("", x[0], x[1], x[2])) {
			t.Errorf("%v is right", x)
		}
	}
	if origin.Right(nil, api.Token{}) || origin.Right(api.Files{}, api.Token{}) {
		t.Error("a token is right without files")
	}
}

func TestH1RightOfMade(t *testing.T) {
	for _, made := range []int{api.Pasted, api.Quoted, api.Given, 9, -1} {
		for _, x := range wrongPlaces {
			one := plain("anything", x[0], x[1], x[2])
			one.Made = made
			if !origin.Right(sources, one) || !origin.Right(nil, one) {
				t.Errorf("%v is wrong", one)
			}
			one.Calls = []api.Call{{Name: "Y", At: 18}}
			if origin.Right(sources, one) {
				t.Errorf("%v is right", one)
			}
		}
	}
}

var (
	rightCalls = []api.Call{
		{Name: "ab"}, {Name: "a"}, {Name: "abcd"}, {Name: "abcd + e\nfg X"}, {Name: "cd", At: 4}, {Name: "fg", At: 12}, {Name: "X", At: 18}, {Name: "+", At: 7},
		// From a joined end of a line on stands what is behind it.
		{Name: "cd", At: 2}, {Name: "g X", At: 13}, {Name: "\nfg", At: 10}, {Name: "\ncd", At: 3}, {Name: "\n", At: 11},
		// Made ones stand nowhere.
		{File: -1}, {Name: "Y", File: -1}, {Name: "ab", File: -1, At: 99}, {Name: "ab", File: -1, At: math.MinInt},
	}
	wrongCalls = []api.Call{
		{}, {At: 18}, {File: 1}, {Name: "b"}, {Name: "abc "}, {Name: "ab\\\ncd"}, {Name: "ab\\"}, {Name: "cd", At: 3}, {Name: "AB"},
		{Name: "X", At: 17}, {Name: "X", At: 19}, {Name: "X", At: 20}, {Name: "XX", At: 18}, {Name: "X", At: -1}, {Name: "X", At: math.MaxInt}, {Name: "X", At: math.MinInt}, {At: 19}, {At: 20}, {At: -1},
		{Name: "\r\n", At: 10}, {Name: "\r", At: 10},
		{Name: "ab", File: 1}, {Name: "ab", File: 2}, {Name: "ab", File: -2}, {Name: "ab", File: math.MaxInt}, {Name: "ab", File: math.MinInt},
	}
)

func TestH1RightOfCalls(t *testing.T) {
	for _, made := range []int{api.Plain, api.Pasted, api.Quoted, api.Given} {
		x := plain("ab", 0, 0, 2)
		x.Made = made
		for _, c := range rightCalls {
			x.Calls = []api.Call{c}
			if !origin.Right(sources, x) {
				t.Errorf("%v is wrong", x)
			}
		}
		x.Calls = rightCalls
		if !origin.Right(sources, x) {
			t.Error("all together they are wrong")
		}
		for i, c := range wrongCalls {
			x.Calls = []api.Call{c}
			if origin.Right(sources, x) {
				t.Errorf("%v is right", x)
			}
			// One is enough, wherever it stands.
			x.Calls = slices.Insert(slices.Clone(rightCalls), i%(len(rightCalls)+1), c)
			if origin.Right(sources, x) {
				t.Errorf("%v is right among others", c)
			}
		}
	}
	// Calls do not make up for a token that is not there.
	x := plain("ab", 0, 1, 3)
	x.Calls = rightCalls
	if origin.Right(sources, x) {
		t.Errorf("%v is right", x)
	}
}

func TestH1Outer(t *testing.T) {
	one, two := api.Call{Name: "A", File: 3, At: 7}, api.Call{Name: "B", File: 4, At: 8}
	for _, x := range []struct {
		calls    []api.Call
		file, at int
	}{
		{nil, 5, 9}, {[]api.Call{}, 5, 9}, {[]api.Call{one}, 3, 7}, {[]api.Call{one, two}, 3, 7}, {[]api.Call{two, one}, 4, 8},
		{[]api.Call{{Name: "A", File: -1}, one}, -1, 0}, {[]api.Call{{}, one}, 0, 0}, {[]api.Call{{File: math.MinInt, At: math.MaxInt}}, math.MinInt, math.MaxInt},
	} {
		for _, made := range []int{api.Plain, api.Pasted, api.Quoted, api.Given, 9} {
			if file, at := origin.Outer(api.Token{File: 5, At: 9, End: 10, Calls: x.calls, Made: made}); file != x.file || at != x.at {
				t.Errorf("%v: %d %d", x, file, at)
			}
		}
	}
	if file, at := origin.Outer(api.Token{}); file != 0 || at != 0 {
		t.Errorf("%d %d", file, at)
	}
}

func TestH1At(t *testing.T) {
	l := []api.Token{
		plain("ab", 0, 2, 4), plain("ab", 1, 2, 4), plain("b", 0, 3, 4), plain("ab", 0, 2, 4), plain("", 0, 3, 3), plain("", 0, 4, 2), plain("abc", 0, -2, 9),
		plain("x", -1, 0, 1), plain("x", 0, math.MinInt, math.MaxInt),
	}
	for made := api.Pasted; made <= 5; made++ {
		x := plain("ab", 0, 2, 4)
		x.Made = made
		l = append(l, x)
	}
	l = append(l, plain("ab", 0, 2, 4))
	for _, x := range []struct {
		file, at int
		want     []int
	}{
		{0, 1, []int{6, 8}}, {0, 2, []int{0, 3, 6, 8, 14}}, {0, 3, []int{0, 2, 3, 6, 8, 14}}, {0, 4, []int{6, 8}}, {0, 8, []int{6, 8}}, {0, 9, []int{8}},
		{0, -2, []int{6, 8}}, {0, -3, []int{8}}, {0, math.MinInt, []int{8}}, {0, math.MaxInt - 1, []int{8}}, {0, math.MaxInt, nil},
		{1, 1, nil}, {1, 2, []int{1}}, {1, 3, []int{1}}, {1, 4, nil}, {-1, 0, []int{7}}, {-1, 1, nil}, {2, 2, nil}, {math.MinInt, 2, nil},
	} {
		if got := origin.At(l, x.file, x.at); !slices.Equal(got, x.want) {
			t.Errorf("%d %d is %v, not %v", x.file, x.at, got, x.want)
		}
	}
	if len(origin.At(nil, 0, 0)) != 0 || len(origin.At([]api.Token{}, 0, 0)) != 0 {
		t.Error("there are tokens where there is none")
	}
}

// A token may have come of calls, and stand there all the same.
func TestH1AtOfCalls(t *testing.T) {
	l, _ := lex.Tokens(0, "ab\\\ncd + e")
	l[0].Calls, l[2].Calls = rightCalls, wrongCalls
	for at, want := range [][]int{{0}, {0}, {0}, {0}, {0}, {0}, nil, {1}, nil, {2}, nil} {
		if got := origin.At(l, 0, at); !slices.Equal(got, want) {
			t.Errorf("%d is %v, not %v", at, got, want)
		}
	}
}

func TestH1Here(t *testing.T) {
	call := []api.Call{{Name: "A"}}
	l := []api.Token{
		{}, {Calls: call}, {Calls: []api.Call{}}, {Made: api.Given}, {Made: api.Given, Calls: call}, {Made: api.Pasted}, {Made: 9}, {File: -5, At: -5}, {Calls: []api.Call{{File: -1}}}, {Calls: call[:0]}, {Hide: []string{"A"}},
	}
	if got := origin.Here(l); !slices.Equal(got, []int{0, 2, 3, 5, 6, 7, 9, 10}) {
		t.Errorf("%v", got)
	}
	if got := origin.Here(l[1:2]); len(got) != 0 {
		t.Errorf("%v", got)
	}
	if len(origin.Here(nil)) != 0 || len(origin.Here([]api.Token{})) != 0 {
		t.Error("there are tokens where there is none")
	}
}
