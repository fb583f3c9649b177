package origin_test

import (
	"math/rand"
	"slices"
	"strings"
	"testing"

	"preamble/api"
	"preamble/drive"
	"preamble/origin"
)

var room = api.Limits{Fuel: api.MaxFuel, Out: api.MaxOut, Deep: api.MaxDeep}

// come answers what comes of the last one of l.
func come(t *testing.T, l api.Files) []api.Token {
	t.Helper()
	out, _, f := drive.Run(l, len(l)-1, nil, room)
	if f.Err != api.OK {
		t.Fatalf("%q: %v", l, f)
	}
	return out.Tokens
}

// numbersOf answers the numbers of the tokens of that text.
func numbersOf(l []api.Token, text string) (out []int) {
	for i, t := range l {
		if t.Text == text {
			out = append(out, i)
		}
	}
	return out
}

// `X`, for `y`: `y` comes out, of X's call.
func TestExample(t *testing.T) {
	l := api.Files{{Path: "a", Text: "#define X y\nz X\n"}}
	out := come(t, l)
	if len(out) != 2 || out[1].Text != "y" || out[1].Calls[0].Name != "X" {
		t.Fatalf("%v", out)
	}
	if s, ok := origin.Span(l, out[1]); s != "y" || !ok {
		t.Errorf("%q %v", s, ok)
	}
	if file, at := origin.Outer(out[1]); file != 0 || at != 14 {
		t.Errorf("%d %d", file, at)
	}
	if !slices.Equal(origin.At(out, 0, 10), []int{1}) || len(origin.At(out, 0, 14)) != 0 || !slices.Equal(origin.At(out, 0, 12), []int{0}) {
		t.Errorf("%v", out)
	}
	if !slices.Equal(origin.Here(out), []int{0}) || !origin.Right(l, out[0]) || !origin.Right(l, out[1]) {
		t.Errorf("%v", out)
	}
}

// An argument that comes out several times stands in one place.
func TestArgumentTwice(t *testing.T) {
	l := api.Files{{Path: "a.h", Text: "#define TWO(x) x + x\n"}, {Path: "m.c", Text: "#include \"a.h\"\nv = TWO(lo\\\nng);\n"}}
	out := come(t, l)
	stood := strings.Index(l[1].Text, "lo")
	for at := stood - 1; at <= stood+6; at++ {
		var want []int
		if stood <= at && at < stood+6 {
			want = numbersOf(out, "long")
		}
		if got := origin.At(out, 1, at); !slices.Equal(got, want) {
			t.Errorf("%d is %v, not %v", at, got, want)
		}
	}
	for _, i := range numbersOf(out, "+") {
		if file, at := origin.Outer(out[i]); file != 1 || at != strings.Index(l[1].Text, "TWO") || out[i].File != 0 {
			t.Errorf("%v: %d %d", out[i], file, at)
		}
	}
	if !slices.Equal(origin.Here(out), []int{0, 1, 5}) {
		t.Errorf("%v", origin.Here(out))
	}
}

// anyPiece answers something that may stand in a line.
func anyPiece(r *rand.Rand) string {
	l := strings.Fields(`A BC f(A) g(x,A) f(f(BC)) cat(A,1) cat(B,C) cat(__LI,NE__) str(A"\n") str(x\y) __LINE__ __FILE__ x "a\"b" 'c' <<= 1.5e+3 @ \ f g more(1,A,f(x)) more() D`)
	return l[r.Intn(len(l))]
}

// anySource answers lines of pieces, in which ends of lines are joined in any place, in macros too.
func anySource(r *rand.Rand, first string) string {
	var out strings.Builder
	out.WriteString(first)
	for range r.Intn(8) {
		if r.Intn(4) == 0 {
			out.WriteString("\n#undef D\n#define D " + anyPiece(r) + "\n")
		}
		out.WriteString(anyPiece(r) + []string{" ", "\n", "\r\n", " /* b */ ", "\\\n "}[r.Intn(5)])
	}
	var joined strings.Builder
	for _, c := range []byte(out.String()) {
		joined.WriteByte(c)
		if c != '\r' && c != '\\' && r.Intn(12) == 0 {
			joined.WriteString([]string{"\\\n", "\\\r\n", "\\\n\\\n"}[r.Intn(3)])
		}
	}
	return joined.String()
}

const macros = "#define A x + BC\n#define BC f(A) y\n#define f(x) [x #x]\n#define g(x,y) y x f\n#define cat(x,y) x##y\n#define str(x) #x\n#define more(x,...) x A __VA_ARGS__\n"

// Each token comes from somewhere: of whatever comes out of files all is right, and a byte of a plain one leads back to it.
func TestAllIsRight(t *testing.T) {
	r := rand.New(rand.NewSource(8))
	made := make([]int, api.Given+1)
	calls := 0
	for range 3000 {
		l := api.Files{{Path: "a.h", Text: anySource(r, macros)}, {Path: "m.c", Text: anySource(r, "#include \"a.h\"\n")}}
		out, _, f := drive.Run(l, 1, nil, room)
		if f.Err != api.OK {
			continue
		}
		for i, x := range out.Tokens {
			if !origin.Right(l, x) {
				t.Fatalf("%q: %v is wrong", l, x)
			}
			if s, ok := origin.Span(l, x); ok != (x.Made == api.Plain) || ok && s != x.Text {
				t.Fatalf("%q: %v is of %q %v", l, x, s, ok)
			}
			if slices.Contains(origin.At(out.Tokens, x.File, x.At), i) != (x.Made == api.Plain) || slices.Contains(origin.Here(out.Tokens), i) != (len(x.Calls) == 0) {
				t.Fatalf("%q: %v is not found", l, x)
			}
			made[x.Made]++
			calls += len(x.Calls)
		}
	}
	if slices.Min(made) < 500 || calls < 10000 {
		t.Errorf("tokens were made so: %v, of %d calls", made, calls)
	}
}

// begins tells, of the whole joined text, what Right is about.
func begins(s, name string) bool {
	joined := strings.NewReplacer("\\\r\n", "", "\\\n", "", "\r\n", "\n").Replace(s)
	return name != "" && len(name) <= len(joined) && joined[:len(name)] == name
}

// second reads H1's Right once more.
func second(l api.Files, t api.Token) bool {
	right := 0
	for _, c := range t.Calls {
		switch {
		case c.File == -1:
			right++
		case c.File < -1 || len(l) <= c.File:
		case c.At < 0 || len(l[c.File].Text) < c.At:
		case begins(l[c.File].Text[c.At:], c.Name):
			right++
		}
	}
	s, ok := origin.Span(l, t)
	return right == len(t.Calls) && (t.Made != api.Plain || ok && s == t.Text)
}

// What is a little otherwise is wrong just where the second reading says so.
func TestRightSecondReading(t *testing.T) {
	r := rand.New(rand.NewSource(9))
	right, wrong := 0, 0
	near := func(n *int) { *n += r.Intn(3) - 1 }
	for range 300 {
		l := api.Files{{Path: "a.h", Text: anySource(r, macros)}, {Path: "m.c", Text: anySource(r, "#include \"a.h\"\n")}}
		out, _, _ := drive.Run(l, 1, nil, room)
		for _, x := range out.Tokens {
			x.Calls = slices.Clone(x.Calls)
			switch n := len(x.Calls); r.Intn(6) {
			case 0:
				near(&x.At)
			case 1:
				near(&x.End)
			case 2:
				near(&x.File)
			case 3:
				x.Text = x.Text[r.Intn(2):]
			default:
				if n > 0 {
					c := &x.Calls[r.Intn(n)]
					near([]*int{&c.At, &c.File}[r.Intn(2)])
					c.Name = c.Name[:len(c.Name)-r.Intn(2)]
				}
			}
			got := origin.Right(l, x)
			if got != second(l, x) {
				t.Fatalf("%q: %v is %v", l, x, got)
			}
			if got {
				right++
			} else {
				wrong++
			}
		}
	}
	if right < 500 || wrong < 500 {
		t.Errorf("%d were right, %d wrong", right, wrong)
	}
}
