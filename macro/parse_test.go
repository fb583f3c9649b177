package macro_test

import (
	"fmt"
	"reflect"
	"regexp"
	"slices"
	"strings"
	"testing"

	"preamble/api"
	"preamble/lex"
	"preamble/macro"
)

// read answers the tokens of s, of file 3.
func read(t *testing.T, s string) []api.Token {
	t.Helper()
	l, f := lex.Tokens(3, s)
	if f.Err != api.OK {
		t.Fatalf("Tokens(%q) has fault %v", s, f)
	}
	return l
}

// parsed answers the macro that s tells of.
func parsed(t *testing.T, s string) api.Macro {
	t.Helper()
	return parsedList(t, read(t, s))
}

func parsedList(t *testing.T, l []api.Token) api.Macro {
	t.Helper()
	m, f := macro.Parse(l)
	if f != (api.Fault{File: -1}) {
		t.Fatalf("Parse(%q) has fault %v", lex.Join(l), f)
	}
	return m
}

// fails checks that l has that fault, and that there is nothing beside it.
func fails(t *testing.T, l []api.Token, want api.Fault) {
	t.Helper()
	if m, f := macro.Parse(l); f != want || !reflect.DeepEqual(m, api.Macro{}) {
		t.Errorf("Parse(%q) is %v %v, not fault %v", lex.Join(l), m, f, want)
	}
}

// told writes a macro without its places; a blank ahead of a token is its Space.
func told(m api.Macro) string {
	var body strings.Builder
	for _, t := range m.Body {
		if t.Space {
			body.WriteByte(' ')
		}
		body.WriteString(t.Text)
	}
	return fmt.Sprintf("%s %t %s %t [%s]", m.Name, m.Call, m.Params, m.More, body.String())
}

func TestE1Builtin(t *testing.T) {
	for _, s := range []string{"__LINE__", "__FILE__", "defined"} {
		if !macro.Builtin(s) {
			t.Errorf("%s is built in", s)
		}
	}
	for _, s := range []string{"", "a", "__LINE_", "__line__", "_LINE__", "__FILE__ ", " __FILE__", "__FILE", "define", "Defined", "defined ", "__VA_ARGS__", "__DATE__", "__func__", "LINE", "include"} {
		if macro.Builtin(s) {
			t.Errorf("%q is not built in", s)
		}
	}
}

func TestE1Parse(t *testing.T) {
	for _, x := range []struct{ s, want string }{
		{"A", "A false [] false []"},
		{"A 1", "A false [] false [1]"},
		{"A  1 +  2", "A false [] false [1 + 2]"},
		{"A+1", "A false [] false [+1]"},
		{"A/**/+/**/1", "A false [] false [+ 1]"},
		{"A A", "A false [] false [A]"},
		{"A (x) x", "A false [] false [(x) x]"},
		{"A (", "A false [] false [(]"},
		{"A )", "A false [] false [)]"},
		{"A/**/(x)", "A false [] false [(x)]"},
		{"A __LINE__ defined", "A false [] false [__LINE__ defined]"},
		{"A\nB", "A false [] false [B]"},
		{"A\n(x)", "A false [] false [(x)]"},
		{"int long", "int false [] false [long]"},
		{"__VA_ARGS__ 1", "__VA_ARGS__ false [] false [1]"},
		{"F()", "F true [] false []"},
		{"F( )", "F true [] false []"},
		{"F() 1", "F true [] false [1]"},
		{"F()()", "F true [] false [()]"},
		{"F\\\n(x)x", "F true [x] false [x]"},
		{"F(x)", "F true [x] false []"},
		{"F( x , y )x y", "F true [x y] false [x y]"},
		{"F(x) (x)", "F true [x] false [(x)]"},
		{"F(y,x) x", "F true [y x] false [x]"},
		{"F(F) F", "F true [F] false [F]"},
		{"F(x,X) x", "F true [x X] false [x]"},
		{"F(defined,__LINE__) 1", "F true [defined __LINE__] false [1]"},
		{"F(...)", "F true [__VA_ARGS__] true []"},
		{"F(a,...)", "F true [a __VA_ARGS__] true []"},
		{"F(a,b,c,d,e,f) f", "F true [a b c d e f] false [f]"},
		{"F(a,b,c,d,e,...) f", "F true [a b c d e __VA_ARGS__] true [f]"},
		{"F(...) x(__VA_ARGS__)", "F true [__VA_ARGS__] true [x(__VA_ARGS__)]"},
		{"F(x) #x", "F true [x] false [#x]"},
		{"F(x) # x # x", "F true [x] false [# x # x]"},
		{"F(...) #__VA_ARGS__", "F true [__VA_ARGS__] true [#__VA_ARGS__]"},
		{"F(x) ...", "F true [x] false [...]"},
		{"A ...", "A false [] false [...]"},
		{"A #", "A false [] false [#]"},
		{"A # #", "A false [] false [# #]"},
		{"A #x # 1", "A false [] false [#x # 1]"},
		{"A x ## y", "A false [] false [x ## y]"},
		{"A x ## ## y", "A false [] false [x ## ## y]"},
		{"A # ## #", "A false [] false [# ## #]"},
		{"F(x) x##x", "F true [x] false [x##x]"},
		{"F(x) x ## #x", "F true [x] false [x ## #x]"},
		{"F(x) #x ## x", "F true [x] false [#x ## x]"},
		{"A '#' \"##\" \"__VA_ARGS__\"", "A false [] false ['#' \"##\" \"__VA_ARGS__\"]"},
		{"A @ $ \\", "A false [] false [@ $ \\]"},
	} {
		m, f := macro.Parse(read(t, x.s))
		if got := told(m); f != (api.Fault{File: -1}) || got != x.want {
			t.Errorf("Parse(%q) is %s %v, not %s", x.s, got, f, x.want)
		}
	}
}

func TestE1Wrong(t *testing.T) {
	for _, x := range []struct {
		s   string
		err api.Errno
		at  int
	}{
		{"1", api.ErrForm, 0}, {"(", api.ErrForm, 0}, {"\"A\"", api.ErrForm, 0}, {"'A'", api.ErrForm, 0}, {"@", api.ErrForm, 0}, {"#A", api.ErrForm, 0}, {"  1 A", api.ErrForm, 2}, {"...", api.ErrForm, 0},
		{"__LINE__", api.ErrName, 0}, {" __FILE__ 1", api.ErrName, 1}, {"defined(x) x", api.ErrName, 0}, {"__LINE__(", api.ErrName, 0},
		// What is missing is missing at the last one's end.
		{"F(", api.ErrForm, 2}, {"F( ", api.ErrForm, 2}, {"F(x", api.ErrForm, 3}, {"F(xyz //", api.ErrForm, 5}, {"F(x,", api.ErrForm, 4}, {"F(...", api.ErrForm, 5}, {"F(...,", api.ErrForm, 6}, {"F(x,...", api.ErrForm, 7}, {"F\\\n(x\\\ny", api.ErrForm, 8},
		{"F(,)", api.ErrForm, 2}, {"F(,x)", api.ErrForm, 2}, {"F(x,)", api.ErrForm, 4}, {"F(x,,y)", api.ErrForm, 4}, {"F(x y)", api.ErrForm, 4}, {"F(1)", api.ErrForm, 2}, {"F(x,1)", api.ErrForm, 4}, {"F(x 1)", api.ErrForm, 4}, {"F(()", api.ErrForm, 2}, {"F((x))", api.ErrForm, 2}, {"F(x(", api.ErrForm, 3}, {"F(\"x\")", api.ErrForm, 2}, {"F('x')", api.ErrForm, 2}, {"F(#x)", api.ErrForm, 2}, {"F(x;)", api.ErrForm, 3}, {"F(x)(,)#", api.ErrForm, 7},
		{"F(..)", api.ErrForm, 2}, {"F(x...)", api.ErrForm, 3}, {"F(...x)", api.ErrForm, 5}, {"F(... ...)", api.ErrForm, 6}, {"F(...,x)", api.ErrForm, 6}, {"F(...,...)", api.ErrForm, 6}, {"F(...,)", api.ErrForm, 6}, {"F(x,...,x)", api.ErrForm, 8}, {"F(...,1)", api.ErrForm, 6},
		{"F(__VA_ARGS__)", api.ErrForm, 2}, {"F(x,__VA_ARGS__)", api.ErrForm, 4}, {"F(__VA_ARGS__,...)", api.ErrForm, 2}, {"F(...,__VA_ARGS__)", api.ErrForm, 6},
		{"F(x,x)", api.ErrName, 4}, {"F(x,y,x)", api.ErrName, 6}, {"F(x,y,y,x)", api.ErrName, 6}, {"F(x,x", api.ErrName, 4}, {"F(x,x 1", api.ErrName, 4}, {"F(x,x,1)", api.ErrName, 4}, {"F(1,x,x)", api.ErrForm, 2},
		{"F(a,b,c,d,e,f,g)", api.ErrMany, 14}, {"F(a,b,c,d,e,f,...)", api.ErrMany, 14}, {"F(a,b,c,d,e,f,g", api.ErrMany, 14}, {"F(a,b,c,d,e,f,g,1)", api.ErrMany, 14}, {"F(a,b,c,d,e,f,g,g)", api.ErrMany, 14}, {"F(a,b,c,d,e,f,g h)", api.ErrMany, 14},
		{"F(a,b,c,d,e,f,a)", api.ErrName, 14}, {"F(a,b,c,d,e,f,1)", api.ErrForm, 14}, {"F(a,b,c,d,e,f,)", api.ErrForm, 14}, {"F(a,b,c,d,e,f,", api.ErrForm, 14}, {"F(a,b,c,d,e,f g)", api.ErrForm, 14}, {"F(a,b,c,d,e,f,__VA_ARGS__)", api.ErrForm, 14}, {"F(a,b,c,d,e,...,g)", api.ErrForm, 16},
		{"A ##", api.ErrForm, 2}, {"A ## x", api.ErrForm, 2}, {"A x ##", api.ErrForm, 4}, {"A x y##", api.ErrForm, 5}, {"A ## ##", api.ErrForm, 2}, {"F() ##", api.ErrForm, 4}, {"F(x) ##x", api.ErrForm, 5}, {"F(x) x##", api.ErrForm, 6}, {"A##x", api.ErrForm, 1},
		{"F() #", api.ErrForm, 4}, {"F() #x", api.ErrForm, 4}, {"F(x) #", api.ErrForm, 5}, {"F(x) #y", api.ErrForm, 5}, {"F(x) x #1 x", api.ErrForm, 7}, {"F(x) # #x", api.ErrForm, 5}, {"F(x) # ## x", api.ErrForm, 5}, {"F(x) #x # F", api.ErrForm, 8}, {"F(x) #\"x\"", api.ErrForm, 5}, {"F(x) x #", api.ErrForm, 7}, {"F(x) #__VA_ARGS__", api.ErrForm, 5}, {"F(...) #...", api.ErrForm, 7}, {"F(x,...) #(x)", api.ErrForm, 9},
		{"A __VA_ARGS__", api.ErrName, 2}, {"A #__VA_ARGS__", api.ErrName, 3}, {"A x __VA_ARGS__ y", api.ErrName, 4}, {"F() __VA_ARGS__", api.ErrName, 4}, {"F(x) x __VA_ARGS__", api.ErrName, 7},
		// Of several the leftmost.
		{"F(x) x #1 __VA_ARGS__ ##", api.ErrForm, 7}, {"F(x) x __VA_ARGS__ #1 ##", api.ErrName, 7}, {"F(x) x x## ## __VA_ARGS__", api.ErrName, 14}, {"A x __VA_ARGS__ ##", api.ErrName, 4}, {"A ## __VA_ARGS__", api.ErrForm, 2},
	} {
		fails(t, read(t, x.s), api.Fault{Err: x.err, File: 3, At: x.at})
	}
	fails(t, nil, api.Fault{Err: api.ErrForm, File: -1})
	fails(t, []api.Token{}, api.Fault{Err: api.ErrForm, File: -1})
}

func TestE1Much(t *testing.T) {
	for _, head := range []string{"A ", "F() ", "F(x,y) ", "F(a,b,c,d,e,...) "} {
		full := strings.Repeat("x ", api.MaxBody)
		m := parsed(t, head+full)
		if len(m.Body) != api.MaxBody {
			t.Errorf("the body of %s has %d tokens", head, len(m.Body))
		}
		at := len(head) + len(full)
		fails(t, read(t, head+full+"x"), api.Fault{Err: api.ErrMuch, File: 3, At: at})
		fails(t, read(t, head+full+"x y z"), api.Fault{Err: api.ErrMuch, File: 3, At: at})
		// A body that is too long is told of ahead of what is in it.
		fails(t, read(t, head+"##"+full), api.Fault{Err: api.ErrMuch, File: 3, At: at})
		fails(t, read(t, head+full+"##"), api.Fault{Err: api.ErrMuch, File: 3, At: at})
	}
	// Where the body has just as many, its last one is looked at.
	fails(t, read(t, "A "+strings.Repeat("x ", api.MaxBody-1)+"##"), api.Fault{Err: api.ErrForm, File: 3, At: 2 * api.MaxBody})
	fails(t, read(t, "F(1) "+strings.Repeat("x ", api.MaxBody+1)), api.Fault{Err: api.ErrForm, File: 3, At: 2})
}

func TestE1BodyTokens(t *testing.T) {
	l := []api.Token{
		{Kind: api.TokName, Text: "A", Space: true, First: true, File: 5, At: 1, End: 2, Line: 1, Hide: []string{"h"}, Calls: []api.Call{{Name: "c"}}, Made: api.Pasted},
		{Kind: api.TokNum, Text: "1", Space: true, First: true, File: 6, At: 9, End: 10, Line: 4, Hide: []string{"h"}, Calls: []api.Call{{Name: "c"}}, Made: api.Given},
		{Kind: 99, Text: "", Space: true, First: true, File: -8, At: 7, End: 3, Line: -2, Hide: []string{"h"}, Calls: []api.Call{{Name: "c"}}, Made: 42},
		{Kind: api.TokOther, Text: "$", File: 6, At: 11, End: 12, Line: 4},
	}
	want := api.Macro{Name: "A", Body: []api.Token{
		{Kind: api.TokNum, Text: "1", File: 6, At: 9, End: 10, Line: 4, Made: api.Given},
		{Kind: 99, Text: "", Space: true, File: -8, At: 7, End: 3, Line: -2, Made: 42},
		{Kind: api.TokOther, Text: "$", File: 6, At: 11, End: 12, Line: 4},
	}}
	if m, f := macro.Parse(l); f != (api.Fault{File: -1}) || !reflect.DeepEqual(m, want) {
		t.Errorf("Parse is %v %v, not %v", m, f, want)
	}
}

// Signs are told by their texts, whatever their kind; # and ## only where they are signs; names by their kind.
func TestE1Kinds(t *testing.T) {
	name := func(s string) api.Token { return api.Token{Kind: api.TokName, Text: s} }
	of := func(kind int, s string) api.Token { return api.Token{Kind: kind, Text: s} }
	for _, kind := range []int{0, -1, api.TokNum, api.TokChar, api.TokText, api.TokOther, api.TokPath, 99} {
		l := []api.Token{name("F"), of(kind, "("), name("x"), of(kind, ","), of(kind, "..."), of(kind, ")"), of(kind, "##"), of(kind, "#"), of(kind, "##")}
		if got := told(parsedList(t, []api.Token{name("A"), of(kind, "__VA_ARGS__")})); got != "A false [] false [__VA_ARGS__]" {
			t.Errorf("kind %d: Parse is %s", kind, got)
		}
		m, f := macro.Parse(l)
		if got := told(m); f != (api.Fault{File: -1}) || got != "F true [x __VA_ARGS__] true [#####]" {
			t.Errorf("kind %d: Parse is %s %v", kind, got, f)
		}
		fails(t, []api.Token{of(kind, "A")}, api.Fault{Err: api.ErrForm})
		fails(t, []api.Token{of(kind, "__LINE__")}, api.Fault{Err: api.ErrForm})
		fails(t, []api.Token{name("F"), of(kind, "("), of(kind, "x"), of(kind, ")")}, api.Fault{Err: api.ErrForm})
		fails(t, []api.Token{name("F"), of(kind, "("), name("x"), of(kind, ")"), {Kind: api.TokSign, Text: "#", File: 4, At: 6}, of(kind, "x")}, api.Fault{Err: api.ErrForm, File: 4, At: 6})
	}
}

// The place behind the last token is that one's, whatever it is.
func TestE1EndPlace(t *testing.T) {
	l := []api.Token{{Kind: api.TokName, Text: "F", File: 1, At: 2, End: 3}, {Kind: api.TokSign, Text: "(", File: -4, At: 5, End: 66}}
	fails(t, l, api.Fault{Err: api.ErrForm, File: -4, At: 66})
}

// code has a byte for each token of the lists that are tried.
const code = "xyvd,()#2 1"

func coded(s string) []api.Token {
	l := []api.Token{{Kind: api.TokName, Text: "F", File: 2, End: 1}}
	space := false
	for i, c := range []byte(s) {
		t := api.Token{Kind: api.TokSign, Text: string(c), Space: space, File: 2, At: 1 + i, End: 2 + i}
		space = c == ' '
		switch c {
		case 'x', 'y':
			t.Kind = api.TokName
		case 'v':
			t.Kind, t.Text = api.TokName, "__VA_ARGS__"
		case 'd':
			t.Text = "..."
		case '2':
			t.Text = "##"
		case '1':
			t.Kind = api.TokNum
		}
		if !space {
			l = append(l, t)
		}
	}
	return l
}

// begun is what parameters may begin with; behind what dots stand for a comma may stand, but nothing behind that.
var begun = regexp.MustCompile(`^\( *([xy] *, *)*([xy] *\)?|d *\)?|d *, *)?$|^\( *\)$`)

// second reads s, as it is coded, by E1's words: the first beginning of it that is wrong, or else a body, token by token.
func second(s string) (call bool, params, body string, f api.Fault) {
	at := 0
	more := false
	if strings.HasPrefix(s, "(") {
		for call = true; !strings.HasSuffix(s[:at], ")"); {
			at++
			for at <= len(s) && s[at-1] == ' ' {
				at++
			}
			switch {
			case at > len(s):
				return false, "", "", api.Fault{Err: api.ErrForm, File: 2, At: 1 + len(strings.TrimRight(s, " "))}
			case !begun.MatchString(s[:at]):
				return false, "", "", api.Fault{Err: api.ErrForm, File: 2, At: at}
			case strings.IndexByte("xy", s[at-1]) >= 0 && strings.IndexByte(s, s[at-1]) < at-1:
				return false, "", "", api.Fault{Err: api.ErrName, File: 2, At: at}
			}
		}
		params = strings.NewReplacer("(", "", ",", "", ")", "", " ", "", "d", "v").Replace(s[:at])
		more = strings.Contains(params, "v")
	}
	body = strings.TrimSpace(s[at:])
	at += len(s[at:]) - len(strings.TrimLeft(s[at:], " "))
	for i := range len(body) {
		next := strings.TrimLeft(body[i+1:], " ") + "?"
		err := api.OK
		switch c := body[i]; {
		case c == '2' && (i == 0 || i == len(body)-1), c == '#' && call && !strings.Contains(params, next[:1]):
			err = api.ErrForm
		case c == 'v' && !more:
			err = api.ErrName
		}
		if err != api.OK {
			return false, "", "", api.Fault{Err: err, File: 2, At: 1 + at + i}
		}
	}
	return call, params, body, api.Fault{File: -1}
}

// each calls f with every text of at most n bytes of code behind s.
func each(s string, n int, f func(string)) {
	f(s)
	for i := 0; n > 0 && i < len(code); i++ {
		each(s+code[i:i+1], n-1, f)
	}
}

func TestE1EachList(t *testing.T) {
	check := func(s string) {
		if strings.Contains(s, "  ") {
			return
		}
		call, params, body, want := second(s)
		m, f := macro.Parse(coded(s))
		short := strings.NewReplacer("__VA_ARGS__", "v", "...", "d", "##", "2")
		var gotBody strings.Builder
		for _, b := range m.Body {
			if b.Space {
				gotBody.WriteByte(' ')
			}
			gotBody.WriteString(short.Replace(b.Text))
		}
		gotParams := short.Replace(strings.Join(m.Params, ""))
		if f != want || m.Call != call || gotParams != params || gotBody.String() != body || m.More != strings.Contains(params, "v") {
			t.Fatalf("F%s is %s %v, not %t [%s] [%s] %v", s, told(m), f, call, params, body, want)
		}
	}
	each("", 4, check)
	each("(", 5, check)
	each("(x,", 4, check)
	each("(x,y)", 4, check)
	each("(x,d)", 4, check)
}

func TestE1Memory(t *testing.T) {
	full := read(t, "F(x,y,...) x #y z")
	l := full[:len(full)-1]
	kept := slices.Clone(full)
	m, f := macro.Parse(l)
	if got := told(m); f.Err != api.OK || got != "F true [x y __VA_ARGS__] true [x #y]" {
		t.Fatalf("what is behind the list is read: %s %v", got, f)
	}
	for i := range m.Body[:cap(m.Body)] {
		m.Body[:cap(m.Body)][i] = api.Token{Text: "?"}
	}
	for i := range m.Params[:cap(m.Params)] {
		m.Params[:cap(m.Params)][i] = "?"
	}
	if !reflect.DeepEqual(full, kept) {
		t.Error("the list is changed")
	}
	m, _ = macro.Parse(l)
	for i := range l {
		l[i] = api.Token{}
	}
	if got := told(m); got != "F true [x y __VA_ARGS__] true [x #y]" {
		t.Errorf("the list is kept: %s", got)
	}
}
