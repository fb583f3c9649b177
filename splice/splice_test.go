package splice_test

import (
	"math"
	"slices"
	"strings"
	"testing"

	"preamble/api"
	"preamble/splice"
)

func TestB1Text(t *testing.T) {
	for _, x := range []struct {
		s, want string
		at      []int
	}{
		{"", "", []int{0}},
		{"a", "a", []int{0, 1}},
		{"a\nb", "a\nb", []int{0, 1, 2, 3}},
		{"a\\\nb", "ab", []int{0, 3, 4}},
		{"a\\\r\nb", "ab", []int{0, 4, 5}},
		{"a\r\nb", "a\nb", []int{0, 2, 3, 4}},
		{"a\rb", "a\rb", []int{0, 1, 2, 3}},
		{"\\\n", "", []int{2}},
		{"\\\r\n", "", []int{3}},
		{"\r\n", "\n", []int{1, 2}},
		{"\\", "\\", []int{0, 1}},
		{"\r", "\r", []int{0, 1}},
		{"\\\r", "\\\r", []int{0, 1, 2}},
		{"\n\\", "\n\\", []int{0, 1, 2}},
		{"\n\r", "\n\r", []int{0, 1, 2}},
		{"\\ \n", "\\ \n", []int{0, 1, 2, 3}},
		{"\\\n\\\n\\\n", "", []int{6}},
		// Of two \ the second one joins; of two carriage returns the second one goes.
		{"\\\\\n", "\\", []int{0, 3}},
		{"\r\r\n", "\r\n", []int{0, 2, 3}},
		{"\\\r\r\n", "\\\r\n", []int{0, 1, 3, 4}},
		// What meets only once something between has gone stays.
		{"\\\\\n\n", "\\\n", []int{0, 3, 4}},
		{"\\\\\r\n\r\n", "\\\n", []int{0, 5, 6}},
		{"\r\\\n\n", "\r\n", []int{0, 3, 4}},
		{"\\\n\n", "\n", []int{2, 3}},
		{"\\\n\r\n", "\n", []int{3, 4}},
		{"\x00\xff\\\n\xc3\\\r\n\xa4", "\x00\xff\xc3\xa4", []int{0, 1, 4, 8, 9}},
	} {
		got := splice.Text(x.s)
		if got.Text != x.want || !slices.Equal(got.At, x.at) {
			t.Errorf("Text(%q) is %q %v, not %q %v", x.s, got.Text, got.At, x.want, x.at)
		}
	}
}

// each calls f with every text of at most n bytes of letters.
func each(letters string, n int, f func(string)) {
	var grow func(string)
	grow = func(s string) {
		f(s)
		if len(s) == n {
			return
		}
		for _, c := range letters {
			grow(s + string(c))
		}
	}
	grow("")
}

func TestB1TextEvery(t *testing.T) {
	// A replacer too goes from the left, and takes the first pair that fits.
	joined := strings.NewReplacer("\\\r\n", "", "\\\n", "", "\r\n", "\n")
	each("a\\\r\n", 6, func(s string) {
		x := splice.Text(s)
		if x.Text != joined.Replace(s) {
			t.Fatalf("Text(%q) is %q", s, x.Text)
		}
		if len(x.At) != len(x.Text)+1 || x.At[len(x.Text)] != len(s) {
			t.Fatalf("Text(%q) has places %v", s, x.At)
		}
		for i := range x.Text {
			if s[x.At[i]] != x.Text[i] || x.At[i] >= x.At[i+1] {
				t.Fatalf("Text(%q) has places %v", s, x.At)
			}
		}
	})
}

func TestB1TextByte(t *testing.T) {
	for c := range 256 {
		for _, s := range []string{"a" + string([]byte{byte(c)}) + "\nb", "a\\" + string([]byte{byte(c)}) + "b"} {
			want := s
			switch {
			case s == "a\\\nb":
				want = "ab"
			case s == "a\r\nb":
				want = "a\nb"
			}
			if got := splice.Text(s).Text; got != want {
				t.Errorf("Text(%q) is %q, not %q", s, got, want)
			}
		}
	}
}

func TestBegins(t *testing.T) {
	for _, x := range []struct {
		s, name string
		want    bool
	}{
		{"", "", true}, {"a", "", true}, {"", "a", false}, {"ab", "a", true}, {"ab", "ab", true}, {"ab", "abc", false}, {"ab", "b", false},
		{"a\\\nb", "ab", true}, {"\\\na", "a", true}, {"a\\\n", "a", true}, {"a\\\n", "a\\", false}, {"a\\", "a\\", true},
		{"\r\n", "\n", true}, {"\r\n", "\r", false}, {"\\\\\n\n", "\\\n", true},
	} {
		if got := splice.Begins(x.s, x.name); got != x.want {
			t.Errorf("Begins(%q, %q) is %v", x.s, x.name, got)
		}
	}
	each("a\\\r\n", 5, func(s string) {
		each("a\\\r\n", 3, func(name string) {
			if splice.Begins(s, name) != strings.HasPrefix(splice.Text(s).Text, name) {
				t.Fatalf("Begins(%q, %q) is not what Text tells", s, name)
			}
		})
	})
}

func TestB1Where(t *testing.T) {
	x := splice.Text("a\\\nb")
	for _, y := range [][2]int{{math.MinInt, -1}, {-1, -1}, {0, 0}, {1, 3}, {2, 4}, {3, -1}, {math.MaxInt, -1}} {
		if got := splice.Where(x, y[0]); got != y[1] {
			t.Errorf("Where(%d) is %d, not %d", y[0], got, y[1])
		}
	}
	for _, at := range []int{-1, 0, 1} {
		if got := splice.Where(api.Spliced{Text: "abc"}, at); got != -1 {
			t.Errorf("Where(%d) without places is %d", at, got)
		}
	}
}

func TestB1Back(t *testing.T) {
	x := splice.Text("a\\\nb")
	for _, y := range [][2]int{{math.MinInt, -1}, {-1, -1}, {0, 0}, {1, 1}, {2, 1}, {3, 1}, {4, 2}, {5, -1}, {math.MaxInt, -1}} {
		if got := splice.Back(x, y[0]); got != y[1] {
			t.Errorf("Back(%d) is %d, not %d", y[0], got, y[1])
		}
	}
	for _, at := range []int{-1, 0, 1} {
		if got := splice.Back(api.Spliced{Text: "abc"}, at); got != -1 {
			t.Errorf("Back(%d) without places is %d", at, got)
		}
	}
}

func TestB1BackOfAnyPlaces(t *testing.T) {
	// Places that a caller made: they fall, stand twice, lie below 0.
	x := api.Spliced{At: []int{-3, 2, 2, 7, 5, 0, 9, 1}}
	for _, y := range [][2]int{{-4, -1}, {-3, -1}, {0, 1}, {1, 1}, {2, 1}, {3, 3}, {6, 3}, {7, 3}, {8, 6}, {9, 6}, {10, -1}} {
		if got := splice.Back(x, y[0]); got != y[1] {
			t.Errorf("Back(%d) is %d, not %d", y[0], got, y[1])
		}
	}
	if got := splice.Where(x, 0); got != -3 {
		t.Errorf("Where(0) is %d", got)
	}
}

func TestB1ThereAndBack(t *testing.T) {
	each("a\\\r\n", 5, func(s string) {
		x := splice.Text(s)
		for i := range x.At {
			if splice.Back(x, splice.Where(x, i)) != i {
				t.Fatalf("byte %d of %q does not come back", i, s)
			}
		}
	})
}

func TestB1Lines(t *testing.T) {
	const s = "a\n\r\n\\\nb\r\n"
	for _, y := range [][2]int{
		{math.MinInt, 1}, {-1, 1}, {0, 1}, {1, 1}, {2, 2}, {3, 2}, {4, 3}, {5, 3}, {6, 4}, {7, 4}, {8, 4}, {9, 5}, {10, 5}, {math.MaxInt, 5},
	} {
		if got := splice.Lines(s, y[0]); got != y[1] {
			t.Errorf("Lines(%d) is %d, not %d", y[0], got, y[1])
		}
	}
	for _, at := range []int{-1, 0, 1} {
		if got := splice.Lines("", at); got != 1 {
			t.Errorf("Lines of nothing at %d is %d", at, got)
		}
	}
	// A line feed at byte at is not ahead of it, at the very beginning too.
	for _, y := range [][2]int{{math.MinInt, 1}, {-1, 1}, {0, 1}, {1, 2}, {2, 2}} {
		if got := splice.Lines("\n", y[0]); got != y[1] {
			t.Errorf("Lines of a line feed at %d is %d, not %d", y[0], got, y[1])
		}
	}
}

func TestB1Memory(t *testing.T) {
	const s = "a\\\nb"
	one := splice.Text(s)
	for i := range one.At[:cap(one.At)] {
		one.At[:cap(one.At)][i] = 77
	}
	if two := splice.Text(s); !slices.Equal(two.At, []int{0, 3, 4}) {
		t.Errorf("places are shared: %v", two.At)
	}
	// The spare room behind the places is not looked at, and nothing is changed.
	full := []int{0, 3, 4, 8, 9}
	x := api.Spliced{Text: "ab", At: full[:3]}
	if splice.Where(x, 3) != -1 || splice.Back(x, 8) != -1 {
		t.Error("the spare room is read")
	}
	if !slices.Equal(full, []int{0, 3, 4, 8, 9}) {
		t.Errorf("the places are changed: %v", full)
	}
}
