package expand_test

import (
	"math/rand"
	"reflect"
	"slices"
	"strconv"
	"strings"
	"testing"

	"preamble/api"
	"preamble/expand"
	"preamble/lex"
	"preamble/macro"
)

// second reads chapter 6 once more, without a care for time: lists are joined anew at each call, a body is cut into chains of what ## joins, and faults are handed back.
type second struct {
	files  api.Files
	macros []api.Macro
	left   int
	most   int
}

func wrongAt(err api.Errno, t api.Token) *api.Fault {
	return &api.Fault{Err: err, File: t.File, At: t.At}
}

func (s *second) all(l []api.Token) (out []api.Token, wrong *api.Fault) {
	rest := slices.Clone(l)
	for len(rest) > 0 {
		t := rest[0]
		if s.left == 0 {
			return nil, wrongAt(api.ErrFuel, t)
		}
		s.left--
		rest = rest[1:]
		if i := s.callee(t, rest); i >= 0 {
			body, size, wrong := s.call(t, s.macros[i], rest)
			if wrong != nil {
				return nil, wrong
			}
			rest = append(body, rest[size:]...)
			continue
		}
		if t.Kind == api.TokName && t.Text == "__LINE__" {
			t.Kind, t.Text, t.Made = api.TokNum, strconv.Itoa(t.Line), api.Given
		}
		if t.Kind == api.TokName && t.Text == "__FILE__" {
			t.Kind, t.Text, t.Made = api.TokText, strconv.Quote(s.files[t.File].Path), api.Given
		}
		if len(out) >= s.most {
			return nil, wrongAt(api.ErrMuch, t)
		}
		out = append(out, t)
	}
	return out, nil
}

// callee answers the number of the macro that t, with rest behind it, calls.
func (s *second) callee(t api.Token, rest []api.Token) int {
	for i, m := range s.macros {
		if t.Kind == api.TokName && m.Name == t.Text {
			if slices.Contains(t.Hide, t.Text) || m.Call && (len(rest) == 0 || rest[0].Text != "(") {
				return -1
			}
			return i
		}
	}
	return -1
}

// call answers what comes of a call, and how many tokens of rest it took.
func (s *second) call(name api.Token, m api.Macro, rest []api.Token) (out []api.Token, size int, wrong *api.Fault) {
	hide := slices.Clone(name.Hide)
	var args [][]api.Token
	if m.Call {
		args, size, wrong = s.args(name, m, rest)
		if wrong != nil {
			return nil, 0, wrong
		}
		hide = nil
		for _, x := range name.Hide {
			if slices.Contains(rest[size-1].Hide, x) {
				hide = append(hide, x)
			}
		}
	}
	for _, chain := range chains(m) {
		joined, wrong := s.chain(chain, m, args)
		if wrong != nil {
			return nil, 0, wrong
		}
		out = append(out, joined...)
	}
	one := api.Call{Name: name.Text, File: -1}
	if name.Made == api.Plain {
		one.File, one.At = name.File, name.At
	}
	for i := range out {
		seen := map[string]int{m.Name: 1}
		for _, x := range append(slices.Clone(hide), out[i].Hide...) {
			seen[x] = 1
		}
		out[i].Hide = nil
		for x := range seen {
			out[i].Hide = append(out[i].Hide, x)
		}
		slices.Sort(out[i].Hide)
		calls := append(slices.Clone(name.Calls), one)
		out[i].Calls = append(calls, out[i].Calls...)
		out[i].Space = out[i].Space && i > 0 || name.Space && i == 0
	}
	return out, size, nil
}

// args answers a call's arguments, and the number of the token behind its ).
func (s *second) args(name api.Token, m api.Macro, rest []api.Token) (out [][]api.Token, size int, wrong *api.Fault) {
	depth, end := 0, -1
	var commas, steps []int
	for i, t := range rest {
		if t.Text == "(" {
			depth++
		}
		if t.Text == ")" {
			depth--
		}
		if depth == 0 {
			end = i
			break
		}
		if depth == 1 && t.Text == "," {
			commas = append(commas, i)
		} else if i > 0 {
			steps = append(steps, i)
		}
	}
	if end < 0 {
		return nil, 0, wrongAt(api.ErrEnd, name)
	}
	if s.left < len(steps) {
		return nil, 0, wrongAt(api.ErrFuel, rest[steps[s.left]])
	}
	s.left -= len(steps)
	if m.More && len(commas) >= len(m.Params) {
		commas = commas[:len(m.Params)-1]
	}
	from := 1
	for _, i := range append(commas, end) {
		out = append(out, rest[from:i])
		from = i + 1
	}
	if len(m.Params) == 0 && end == 1 {
		out = nil
	}
	if m.More && len(out) == len(m.Params)-1 {
		out = append(out, nil)
	}
	if len(out) != len(m.Params) {
		return nil, 0, wrongAt(api.ErrMany, name)
	}
	return out, end + 1, nil
}

// operand is a token of a body, and its #, if it has one.
type operand struct {
	api.Token
	quote *api.Token
}

// chains parts a body where no ## stands between.
func chains(m api.Macro) (out [][]operand) {
	joins := false
	for i := 0; i < len(m.Body); i++ {
		t := m.Body[i]
		if t.Kind == api.TokSign && t.Text == "##" {
			joins = true
			continue
		}
		o := operand{Token: t}
		if t.Kind == api.TokSign && t.Text == "#" && m.Call {
			i++
			o = operand{m.Body[i], &t}
		}
		if joins {
			out[len(out)-1] = append(out[len(out)-1], o)
		} else {
			out = append(out, []operand{o})
		}
		joins = false
	}
	return out
}

func (s *second) chain(l []operand, m api.Macro, args [][]api.Token) (out []api.Token, wrong *api.Fault) {
	for _, o := range l {
		next := []api.Token{o.Token}
		if i := slices.Index(m.Params, o.Text); o.Kind == api.TokName && i >= 0 {
			switch {
			case o.quote != nil:
				next = []api.Token{macro.Quote(args[i], *o.quote)}
			case len(l) > 1:
				next = slices.Clone(args[i])
			default:
				if next, wrong = s.all(args[i]); wrong != nil {
					return nil, wrong
				}
			}
			if len(next) > 0 && o.quote == nil {
				next[0].Space = o.Space
			}
		}
		if len(out) == 0 || len(next) == 0 {
			out = append(out, next...)
			continue
		}
		t, ok := macro.Paste(out[len(out)-1], next[0])
		if !ok {
			return nil, wrongAt(api.ErrPaste, o.Token)
		}
		out = append(append(out[:len(out)-1], t), next[1:]...)
	}
	return out, nil
}

// some answers up to n words, some of them with a blank behind.
func some(r *rand.Rand, n int, words string) string {
	l := strings.Fields(words)
	var out strings.Builder
	for range r.Intn(n + 1) {
		out.WriteString(l[r.Intn(len(l))])
		out.WriteString([]string{" ", " ", "", "\n"}[r.Intn(4)])
	}
	return out.String()
}

// anyMacros answers macros named A to F.
func anyMacros(r *rand.Rand) (out []api.Macro) {
	for _, name := range strings.Fields("A B C D E F") {
		head := []string{"", "", "()", "(x)", "(x)", "(x,y)", "(x,y)", "(...)", "(x,...)", "(x,y,...)"}[r.Intn(10)]
		words := "A B C D E F ( ) , a 1 + ## __LINE__"
		if strings.Contains(head, "x") {
			words += " x x x #x x##"
		}
		if strings.Contains(head, "y") {
			words += " y y #y ##y y##x"
		}
		if strings.Contains(head, "...") {
			words += " __VA_ARGS__ __VA_ARGS__ #__VA_ARGS__ ##__VA_ARGS__"
		}
		l, _ := lex.Tokens(1, name+head+" "+some(r, 7, words))
		if m, f := macro.Parse(l); f.Err == api.OK {
			out = append(out, m)
		}
	}
	return out
}

func TestSecondReading(t *testing.T) {
	r := rand.New(rand.NewSource(6))
	seen := make([]int, api.ErrMay+1)
	calls := 0
	for range 60000 {
		macros := anyMacros(r)
		s := some(r, 12, "A B C D E F ( ) ( ) , a 1 + __FILE__ __LINE__ A( B( C( D( E( F(")
		if r.Intn(3) > 0 {
			s += strings.Repeat(")", max(0, strings.Count(s, "(")-strings.Count(s, ")")))
		}
		l := read(t, 0, s)
		fuel, most := api.MaxFuel, api.MaxOut
		if r.Intn(3) == 0 {
			fuel, most = r.Intn(40), r.Intn(20)
		}
		two := second{sources, macros, fuel, most}
		want, wrong := two.all(l)
		if wrong == nil {
			wrong = &api.Fault{File: -1}
		} else {
			want, two.left = nil, 0
		}
		out, left, f := expand.All(sources, macros, l, fuel, most)
		if len(out)+len(want) > 0 && !reflect.DeepEqual(out, want) || left != two.left || f != *wrong {
			t.Fatalf("%v\n%q, %d, %d: %q %d %v, not %q %d %v\n%v\n%v", macros, s, fuel, most, texts(out), left, f, texts(want), two.left, *wrong, out, want)
		}
		seen[f.Err]++
		for _, x := range out {
			calls = max(calls, len(x.Calls))
		}
	}
	for _, err := range []api.Errno{api.OK, api.ErrMuch, api.ErrMany, api.ErrEnd, api.ErrFuel, api.ErrPaste} {
		if seen[err] < 1000 {
			t.Errorf("error %d came only %d times", err, seen[err])
		}
	}
	if calls < 6 {
		t.Errorf("no token came of more than %d calls", calls)
	}
}
