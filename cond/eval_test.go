package cond_test

import (
	"math"
	"math/rand"
	"reflect"
	"strconv"
	"strings"
	"testing"

	"preamble/api"
	"preamble/cond"
	"preamble/lex"
)

// read answers the tokens of s, of file 3.
func read(t *testing.T, s string) []api.Token {
	t.Helper()
	l, f := lex.Tokens(3, s)
	if f.Err != api.OK {
		t.Fatalf("Tokens(%q) has fault %v", s, f)
	}
	return l
}

// holds checks that s comes to want, without a fault.
func holds(t *testing.T, s string, want int) {
	t.Helper()
	if n, f := cond.Eval(read(t, s)); n != want || f != (api.Fault{File: -1}) {
		t.Errorf("Eval(%q) is %d %v, not %d", s, n, f, want)
	}
}

// fails checks that s has that fault, in file 3.
func fails(t *testing.T, s string, err api.Errno, at int) {
	t.Helper()
	if n, f := cond.Eval(read(t, s)); n != 0 || f != (api.Fault{Err: err, File: 3, At: at}) {
		t.Errorf("Eval(%q) is %d %v, not fault %d at %d", s, n, f, err, at)
	}
}

func TestD2Values(t *testing.T) {
	for _, x := range []struct {
		s    string
		want int
	}{
		{"0", 0}, {"1", 1}, {"x", 0}, {"defined", 0}, {"true", 0}, {"017", 15}, {"0x1fUL", 31}, {"'a'", 97}, {`'\n'`, 10}, {`'\\'`, 92}, {"(1)", 1}, {"((2))", 2}, {"(x)", 0},
		{"-1", -1}, {"+1", 1}, {"~0", -1}, {"~5", -6}, {"!0", 1}, {"!5", 0}, {"!-1", 0}, {"!!5", 1}, {"- - 3", 3}, {"-+-3", 3}, {"-~0", 1}, {"~-1", 0}, {"-x", 0}, {"!x", 1}, {"-(2)", -2}, {"-'a'", -97}, {"!(x)", 1},
		{"1||0", 1}, {"0||0", 0}, {"0||2", 1}, {"2||0", 1}, {"1&&0", 0}, {"0&&1", 0}, {"2&&4", 1}, {"-1&&-1", 1},
		{"5|3", 7}, {"5^3", 6}, {"5&3", 1}, {"-1^1", -2}, {"1==1", 1}, {"1==2", 0}, {"1!=1", 0}, {"1!=2", 1},
		{"1<2", 1}, {"2<2", 0}, {"3<2", 0}, {"2>1", 1}, {"2>2", 0}, {"2>3", 0}, {"1<=2", 1}, {"2<=2", 1}, {"3<=2", 0}, {"2>=1", 1}, {"2>=2", 1}, {"2>=3", 0}, {"-1<0", 1}, {"~0>0", 0},
		{"1<<4", 16}, {"1<<0", 1}, {"3<<62", -1 << 62}, {"1<<63", math.MinInt}, {"2<<63", 0}, {"0<<63", 0}, {"16>>4", 1}, {"-1>>63", -1}, {"1>>63", 0}, {"-8>>1", -4}, {"5>>0", 5},
		{"7+5", 12}, {"7-5", 2}, {"7*5", 35}, {"7/2", 3}, {"7%2", 1}, {"-7/2", -3}, {"-7%2", -1}, {"7/-2", -3}, {"7%-2", 1}, {"-7/-2", 3}, {"-7%-2", -1}, {"0/5", 0}, {"0%5", 0},
		{"1 ? 2 : 3", 2}, {"0 ? 2 : 3", 3}, {"-1 ? 2 : 3", 2}, {"x ? 2 : 3", 3}, {"1 ? 0 : 3", 0}, {"0 ? 2 : 0", 0},
		// What is too great goes round.
		{"9223372036854775807+1", math.MinInt}, {"-9223372036854775807-2", math.MaxInt}, {"9223372036854775807*2", -2}, {"-(~9223372036854775807)", math.MinInt}, {"(~9223372036854775807)/-1", math.MinInt}, {"(~9223372036854775807)%-1", 0}, {"4611686018427387904*4", 0},
	} {
		holds(t, x.s, x.want)
	}
}

// Each pair of levels is told apart, and of one level the left sign is first.
func TestD2Levels(t *testing.T) {
	for _, x := range []struct {
		s    string
		want int
	}{
		{"1||0&&0", 1}, {"0&&0||1", 1}, {"2&&0|2", 1}, {"2|1&&2", 1}, {"4|1^1", 4}, {"1^1|4", 4}, {"1^3&2", 3}, {"2&3^1", 3}, {"2&2==2", 0}, {"2==2&2", 0}, {"1==2<3", 1}, {"3>2==1", 1}, {"0!=1<1", 0},
		{"1<2<<1", 1}, {"1<<1<2", 0}, {"8>>1+1", 2}, {"1+1<<2", 8}, {"1<<2-1", 2}, {"1+2*3", 7}, {"2*3+1", 7}, {"7-4/2", 5}, {"7-5%3", 5}, {"-2*3", -6}, {"!1+1", 1}, {"~1&1", 0}, {"-1>>1", -1}, {"!0==1", 1}, {"(1+2)*3", 9}, {"2*(3+1)", 8}, {"-(1+2)", -3}, {"8>>(1+1)", 2}, {"(2&2)==2", 1},
		{"10-4-3", 3}, {"10-4+3", 9}, {"100/10/5", 2}, {"100/10*5", 50}, {"7*4%5", 3}, {"7%4*5", 15}, {"1<<2<<3", 32}, {"256>>2<<1", 128}, {"3>2>1", 0}, {"1<2>0", 1}, {"5>4>=1", 1}, {"2<=1<1", 1}, {"2==2==1", 1}, {"1==1!=0", 1}, {"3!=3==0", 1}, {"10-(4-3)", 9},
		{"1 ? 2 : 3 ? 4 : 5", 2}, {"0 ? 2 : 0 ? 4 : 5", 5}, {"0 ? 2 : 1 ? 4 : 5", 4}, {"1 ? 0 ? 6 : 7 : 8", 7}, {"1 ? 1 ? 6 : 7 : 8", 6}, {"0 ? 1 ? 6 : 7 : 8", 8}, {"(1 ? 0 : 1) ? 2 : 3", 3}, {"1 ? 2 : 3 + 4", 2}, {"0 ? 2 : 3 + 4", 7}, {"1 || 0 ? 2 : 3", 2}, {"0 && 1 ? 2 : 3", 3}, {"1 ? 2 || 0 : 3", 1}, {"1 + (0 ? 2 : 3)", 4}, {"-(1 ? 2 : 3)", -2}, {"!1 ? 2 : 3", 3},
		{"6 & 3 | 8 ^ 1", 11}, {"1 + 2 * 3 << 1 < 15 == 1 & 3 ^ 2 | 4 && 0 || 1", 1},
	} {
		holds(t, x.s, x.want)
	}
}

// What is not asked is read, but not reckoned.
func TestD2NotAsked(t *testing.T) {
	for _, x := range []struct {
		s    string
		want int
	}{
		{"0 && 1/0", 0}, {"0 && 1%0", 0}, {"0 && 1<<64", 0}, {"0 && 1>>-1", 0}, {"0 && (1<<99)", 0}, {"0 && -(1/0)", 0}, {"0 && 1 + 1/0", 0}, {"0 && (1/0 || 1)", 0}, {"0 && (1 && 1/0)", 0}, {"0 && (0 || 1/0)", 0}, {"0 && (1 ? 1/0 : 1/0)", 0}, {"0 && 1 && 1/0", 0},
		{"1 || 1/0", 1}, {"2 || 1%0", 1}, {"1 || 1<<64", 1}, {"1 || 0 || 1/0", 1}, {"1 || 1 && 1/0", 1}, {"1 || (0 || 1/0)", 1}, {"0 || 0 && 1/0", 0},
		{"0 ? 1/0 : 5", 5}, {"1 ? 5 : 1/0", 5}, {"0 ? 1<<64 : 5", 5}, {"1 ? 5 : 1>>64", 5}, {"1 ? 5 : 0 ? 1/0 : 1/0", 5}, {"0 ? 1 ? 1/0 : 1/0 : 5", 5}, {"1 ? 5 : 1 ? 1/0 : 1", 5}, {"0 && 1 ? 1/0 : 5", 5}, {"1/1 ? 5 : 1/0", 5}, {"1 ? 0 ? 1/0 : 5 : 1/0", 5},
		{"(0 && 1/0) + 5", 5}, {"(1 || 1/0) && 0", 0},
	} {
		holds(t, x.s, x.want)
	}
	// Only these two are not told: numbers, depth and form are.
	for _, x := range []struct {
		s   string
		err api.Errno
		at  int
	}{
		{"0 && 08", api.ErrRange, 5}, {"1 || 1.5", api.ErrRange, 5}, {"0 ? '' : 1", api.ErrRange, 4}, {"1 ? 1 : 'ab'", api.ErrRange, 8}, {"0 && (1/0", api.ErrForm, 9}, {"0 && 1/0 +", api.ErrEnd, 10}, {"0 && \"\"", api.ErrForm, 5}, {"1 || ", api.ErrEnd, 4}, {"0 && 1/0 2", api.ErrForm, 9},
		{"0 && " + strings.Repeat("(", 30) + "1" + strings.Repeat(")", 30), api.ErrDeep, 35},
		// And what is asked is told again behind them.
		{"0 && 1/0 || 1/0", api.ErrZero, 13}, {"1 || 1/0 ? 1/0 : 2", api.ErrZero, 12}, {"(0 && 1/0) + 1/0", api.ErrZero, 14}, {"0 ? 1/0 : 1/0", api.ErrZero, 11}, {"1 ? 1/0 : 1/0", api.ErrZero, 5}, {"1 && 1/0", api.ErrZero, 6}, {"0 || 1<<64", api.ErrRange, 6}, {"1/0 && 0", api.ErrZero, 1}, {"1/0 || 1", api.ErrZero, 1}, {"1/0 ? 1 : 2", api.ErrZero, 1}, {"0 && 1/0 | 1 || 2/0", api.ErrZero, 17},
	} {
		fails(t, x.s, x.err, x.at)
	}
}

func TestD2Faults(t *testing.T) {
	for _, x := range []struct {
		s   string
		err api.Errno
		at  int
	}{
		// l ends where something between signs must stand.
		{"+", api.ErrEnd, 1}, {"1 +", api.ErrEnd, 3}, {"1 + // x", api.ErrEnd, 3}, {"(", api.ErrEnd, 1}, {"1 ?", api.ErrEnd, 3}, {"1 ? 2 :", api.ErrEnd, 7}, {"1 &&", api.ErrEnd, 4}, {"!", api.ErrEnd, 1}, {"(1 + ", api.ErrEnd, 4}, {" ( - ", api.ErrEnd, 4}, {"1 /", api.ErrEnd, 3},
		// A sign that must stand there, and does not.
		{"(1", api.ErrForm, 2}, {"((1)", api.ErrForm, 4}, {"(1 2)", api.ErrForm, 3}, {"1 ? 2", api.ErrForm, 5}, {"1 ? 2 ; 3", api.ErrForm, 6}, {"1 ? 2 ? 3 : 4", api.ErrForm, 13}, {"(1 : 2)", api.ErrForm, 3}, {"(1]", api.ErrForm, 2}, {"1 ? (2 : 3)", api.ErrForm, 7},
		// Something between signs that must stand there, and does not.
		{")", api.ErrForm, 0}, {"()", api.ErrForm, 1}, {"#", api.ErrForm, 0}, {"\"s\"", api.ErrForm, 0}, {"@", api.ErrForm, 0}, {"1 + * 2", api.ErrForm, 4}, {"* 1", api.ErrForm, 0}, {"& 1", api.ErrForm, 0}, {"++1", api.ErrForm, 0}, {"--1", api.ErrForm, 0}, {"1 && || 2", api.ErrForm, 5}, {"? 1 : 2", api.ErrForm, 0}, {"1 ? : 2", api.ErrForm, 4}, {"1 ? 2 : : 3", api.ErrForm, 8}, {"1 + \"s\"", api.ErrForm, 4}, {"- )", api.ErrForm, 2},
		// Something is left.
		{"1)", api.ErrForm, 1}, {"1 2", api.ErrForm, 2}, {"a b", api.ErrForm, 2}, {"a = b", api.ErrForm, 2}, {"1 , 2", api.ErrForm, 2}, {"1 !", api.ErrForm, 2}, {"1 ~ 1", api.ErrForm, 2}, {"1 : 2", api.ErrForm, 2}, {"1 ? 2 : 3 : 4", api.ErrForm, 10}, {"f(x)", api.ErrForm, 1}, {"a->b", api.ErrForm, 1}, {"1 += 2", api.ErrForm, 2}, {"1 <<= 2", api.ErrForm, 2}, {"a.b", api.ErrForm, 1}, {"1 \"s\"", api.ErrForm, 2}, {"1 -- 1", api.ErrForm, 2}, {"(1) (2)", api.ErrForm, 4}, {"1\n2", api.ErrForm, 2},
		// Numbers and characters that are none.
		{"1.5", api.ErrRange, 0}, {"1 + 08", api.ErrRange, 4}, {"9223372036854775808", api.ErrRange, 0}, {"-9223372036854775808", api.ErrRange, 1}, {"''", api.ErrRange, 0}, {"1 + 'ab'", api.ErrRange, 4}, {`'\x'`, api.ErrRange, 0}, {"(0x)", api.ErrRange, 1}, {"1.5 )", api.ErrRange, 0}, {"1e+1", api.ErrRange, 0},
		// Shifts, and parts by 0.
		{"1 << 64", api.ErrRange, 2}, {"1 << -1", api.ErrRange, 2}, {"1 >> 64", api.ErrRange, 2}, {"1 >> -1", api.ErrRange, 2}, {"0 << 64", api.ErrRange, 2}, {"1 << 9223372036854775807", api.ErrRange, 2}, {"1 << 4294967296", api.ErrRange, 2}, {"1 << 32 + 32", api.ErrRange, 2}, {"1 << 1 << 64", api.ErrRange, 7},
		{"7 / 0", api.ErrZero, 2}, {"7 % 0", api.ErrZero, 2}, {"0 / 0", api.ErrZero, 2}, {"7 / x", api.ErrZero, 2}, {"7 / (1 - 1)", api.ErrZero, 2}, {"7 / !1", api.ErrZero, 2}, {"7 / 1 / 0", api.ErrZero, 6}, {"(7 / 0)", api.ErrZero, 3}, {"-(7 / 0)", api.ErrZero, 4},
	} {
		fails(t, x.s, x.err, x.at)
	}
}

// What is wrong is told of what is first read whole, from the left.
func TestD2FirstFault(t *testing.T) {
	for _, x := range []struct {
		s   string
		err api.Errno
		at  int
	}{
		{"1 / 0 1.5", api.ErrZero, 2}, {"1 / 0 + 1.5", api.ErrZero, 2}, {"1 / 0 * 08", api.ErrZero, 2}, {"1 / 0 )", api.ErrZero, 2}, {"1 / 0 ?", api.ErrZero, 2}, {"(1 / 0", api.ErrZero, 3}, {"1 / 0 / (", api.ErrZero, 2}, {"1 << 64 << ''", api.ErrRange, 2}, {"1 % 0 << 64", api.ErrZero, 2},
		// Behind what they are of is read.
		{"1 / (0", api.ErrForm, 6}, {"1 / (0 )) 1 / 0", api.ErrZero, 2}, {"1 / -", api.ErrEnd, 5}, {"1 << 64 + 1.5", api.ErrRange, 10}, {"1 << 64 + ", api.ErrEnd, 9}, {"1 << 64 + 1 / 0", api.ErrZero, 12}, {"1 << 64 * (1 << 65)", api.ErrRange, 13}, {"1 / (0 / 0)", api.ErrZero, 7}, {"1 << 64 < 1.5", api.ErrRange, 2}, {"1 << -1 / 0", api.ErrZero, 8},
		{"1.5 / 0", api.ErrRange, 0}, {"(1", api.ErrForm, 2}, {"1 ? 2 / 0", api.ErrZero, 6},
	} {
		fails(t, x.s, x.err, x.at)
	}
}

func TestD2Deep(t *testing.T) {
	if api.MaxTree != 30 {
		t.Fatal("the places below are those of 30")
	}
	in := func(open string, n int, s, end string) string {
		return strings.Repeat(open, n) + s + strings.Repeat(end, n)
	}
	holds(t, in("(", 29, "7", ")"), 7)
	holds(t, in("- ", 29, "7", ""), -7)
	holds(t, in("!", 29, "7", ""), 0)
	holds(t, in("-(", 14, "-7", ")"), -7)
	holds(t, in("1+(", 29, "7", ")"), 36)
	holds(t, in("(", 29, "x ? 2 : 3 + 4 * 5", ")"), 23)
	// Side by side they are not in one another.
	holds(t, in("(1)+", 200, "1", ""), 201)
	holds(t, "("+in("(", 28, "1", ")")+")*("+in("(", 28, "3", ")")+")+"+in("- ", 28, "2", ""), 5)
	// Nor are what ? and : part, and what signs join.
	holds(t, in("0 ? 1 : ", 200, "7", ""), 7)
	holds(t, in("1 ? ", 200, "7", ": 2"), 7)
	holds(t, in("1 || ", 200, "7", ""), 1)
	for _, x := range []struct {
		s  string
		at int
	}{
		{in("(", 30, "7", ")"), 30}, {in("(", 31, "7", ")"), 30}, {in("- ", 30, "7", ""), 60}, {in("- ", 30, "- 7", ""), 60}, {in("~", 40, "7", ""), 30}, {in("!", 40, "7", ""), 30}, {in("-(", 15, "7", ")"), 30}, {in("-(", 14, "-+7", ")"), 30}, {in("(", 29, "-7", ")"), 30}, {in("(", 29, "1+(2)", ")"), 32}, {in("1+(", 30, "7", ")"), 90}, {in("(", 29, "1 ? (2) : 3", ")"), 34},
		// What would stand there is too deep, whatever does.
		{in("(", 30, "1.5", ")"), 30}, {in("(", 30, "", ")"), 30}, {in("(", 30, "", ""), 30}, {in("- ", 30, "", ""), 59}, {in("(", 30, "\"\"", ""), 30}, {in("(", 1000, "", ""), 30},
		{in("(", 30, "1/0", ")"), 30},
	} {
		fails(t, x.s, api.ErrDeep, x.at)
	}
	fails(t, in("(", 29, "", ""), api.ErrEnd, 29)
	fails(t, in("(", 29, "1/0", ")"), api.ErrZero, 30)
}

// Places are those of tokens, wherever these say that they stand.
func TestD2Places(t *testing.T) {
	word := func(kind int, text string, file, at, end int) api.Token {
		return api.Token{Kind: kind, Text: text, File: file, At: at, End: end}
	}
	one := word(api.TokNum, "1", 5, 40, 41)
	slash := word(api.TokSign, "/", -1, 7, 9)
	nought := word(api.TokNum, "0", 2, 3, 8)
	for _, x := range []struct {
		l    []api.Token
		want api.Fault
	}{
		{nil, api.Fault{Err: api.ErrEnd, File: -1}},
		{[]api.Token{}, api.Fault{Err: api.ErrEnd, File: -1}},
		{[]api.Token{one, slash, nought}, api.Fault{Err: api.ErrZero, File: -1, At: 7}},
		{[]api.Token{one, slash}, api.Fault{Err: api.ErrEnd, File: -1, At: 9}},
		{[]api.Token{one, nought}, api.Fault{Err: api.ErrForm, File: 2, At: 3}},
		{[]api.Token{one, word(api.TokSign, "?", 0, 0, 0), nought}, api.Fault{Err: api.ErrForm, File: 2, At: 8}},
		{[]api.Token{word(api.TokNum, "1.", 9, 11, 20)}, api.Fault{Err: api.ErrRange, File: 9, At: 11}},
	} {
		if n, f := cond.Eval(x.l); n != 0 || f != x.want {
			t.Errorf("Eval(%v) is %d %v, not %v", x.l, n, f, x.want)
		}
	}
}

// A token is what its kind says, whatever its text looks like.
func TestD2Kinds(t *testing.T) {
	for _, kind := range []int{-1, 0, api.TokText, api.TokOther, api.TokPath, 8, 99} {
		for _, text := range []string{"1", "x", "'a'", "-", "(", ""} {
			l := []api.Token{{Kind: kind, Text: text}, {Kind: api.TokNum, Text: "1", At: 1, End: 2}}
			if n, f := cond.Eval(l); n != 0 || f != (api.Fault{Err: api.ErrForm}) {
				t.Errorf("Eval of kind %d, %q is %d %v", kind, text, n, f)
			}
		}
		l := []api.Token{{Kind: api.TokNum, Text: "1", End: 1}, {Kind: kind, Text: "+", At: 1, End: 2}, {Kind: api.TokNum, Text: "1", At: 2, End: 3}}
		if n, f := cond.Eval(l); n != 0 || f != (api.Fault{Err: api.ErrForm, At: 1}) {
			t.Errorf("Eval with + of kind %d is %d %v", kind, n, f)
		}
	}
	for _, x := range []struct {
		kind int
		text string
		want int
		err  api.Errno
	}{
		{api.TokName, "", 0, api.OK}, {api.TokName, "1", 0, api.OK}, {api.TokName, "(", 0, api.OK}, {api.TokNum, "x", 0, api.ErrRange}, {api.TokNum, "", 0, api.ErrRange}, {api.TokChar, "", 0, api.ErrRange}, {api.TokChar, "123", '2', api.OK}, {api.TokNum, "'a'", 0, api.ErrRange}, {api.TokSign, "1", 0, api.ErrForm}, {api.TokSign, "", 0, api.ErrForm},
	} {
		n, f := cond.Eval([]api.Token{{Kind: x.kind, Text: x.text}})
		if n != x.want || f.Err != x.err {
			t.Errorf("Eval of kind %d, %q is %d %v", x.kind, x.text, n, f)
		}
	}
}

// signsBetween are the signs of D2, the loosest ones first.
var signsBetween = []string{"||", "&&", "|", "^", "&", "== !=", "< > <= >=", "<< >>", "+ -", "* / %"}

// made is an expression with what it comes to: how tight it binds (0: a choice; above all signs: an operand), and whether reckoning it finds something wrong.
type made struct {
	text  string
	level int
	n     int
	bad   bool
}

// within writes x where something that binds at least so tight must stand.
func (x made) within(level int) string {
	if x.level < level {
		return "(" + x.text + ")"
	}
	return x.text
}

// grow makes an expression of its parts, by the meaning of its signs, without reading any.
func grow(r *rand.Rand, deep int) made {
	whole := len(signsBetween) + 1
	pick := r.Intn(10)
	switch {
	case deep == 0 || pick == 0:
		n := []int{0, 0, 1, 1, 2, 3, 5, 62, 63, 64, 1000, math.MaxInt}[r.Intn(12)]
		return made{text: strconv.Itoa(n), level: whole, n: n}
	case pick == 1:
		x := grow(r, deep-1)
		sign := []string{"-", "+", "~", "!"}[r.Intn(4)]
		n := map[string]int{"-": -x.n, "+": x.n, "~": -x.n - 1, "!": boolean(x.n == 0)}[sign]
		return made{sign + " " + x.within(whole), whole, n, x.bad}
	case pick == 2:
		c, a, b := grow(r, deep-1), grow(r, deep-1), grow(r, deep-1)
		x := made{text: c.within(1) + " ? " + a.text + " : " + b.text, n: b.n, bad: c.bad || b.bad}
		if c.n != 0 {
			x.n, x.bad = a.n, c.bad || a.bad
		}
		return x
	}
	i := r.Intn(len(signsBetween))
	signs := strings.Fields(signsBetween[i])
	sign := signs[r.Intn(len(signs))]
	a, b := grow(r, deep-1), grow(r, deep-1)
	n, bad := meaning(sign, a, b)
	return made{a.within(i+1) + " " + sign + " " + b.within(i+2), i + 1, n, bad}
}

func boolean(b bool) int {
	if b {
		return 1
	}
	return 0
}

func meaning(sign string, a, b made) (n int, bad bool) {
	bad = a.bad || b.bad
	switch sign {
	case "||":
		return boolean(a.n != 0 || b.n != 0), a.bad || a.n == 0 && b.bad
	case "&&":
		return boolean(a.n != 0 && b.n != 0), a.bad || a.n != 0 && b.bad
	case "/", "%":
		if b.n == 0 {
			return 0, true
		}
		if sign == "/" {
			return a.n / b.n, bad
		}
		return a.n - a.n/b.n*b.n, bad
	case "<<", ">>":
		if b.n < 0 || b.n > 63 {
			return 0, true
		}
		if sign == "<<" {
			return int(uint(a.n) << uint(b.n)), bad
		}
		return a.n >> uint(b.n), bad
	}
	return map[string]int{
		"|": a.n | b.n, "^": a.n ^ b.n, "&": a.n & b.n, "==": boolean(a.n == b.n), "!=": boolean(a.n != b.n),
		"<": boolean(a.n < b.n), ">": boolean(a.n > b.n), "<=": boolean(a.n <= b.n), ">=": boolean(a.n >= b.n),
		"+": a.n + b.n, "-": a.n - b.n, "*": a.n * b.n,
	}[sign], bad
}

func TestD2GrownExpressions(t *testing.T) {
	r := rand.New(rand.NewSource(4))
	good, bad := 0, 0
	for range 20000 {
		x := grow(r, 1+r.Intn(5))
		l, f := lex.Tokens(0, x.text)
		if f.Err != api.OK {
			continue
		}
		n, f := cond.Eval(l)
		switch {
		case x.bad && (n != 0 || f.Err != api.ErrZero && f.Err != api.ErrRange):
			t.Fatalf("Eval(%q) is %d %v, not a fault", x.text, n, f)
		case !x.bad && (n != x.n || f != api.Fault{File: -1}):
			t.Fatalf("Eval(%q) is %d %v, not %d", x.text, n, f, x.n)
		}
		good, bad = good+boolean(!x.bad), bad+boolean(x.bad)
	}
	if good < 5000 || bad < 2000 {
		t.Errorf("only %d with a value, and %d without", good, bad)
	}
}

// Whatever stands there, it ends without a panic, and beside a fault there is no value.
func TestD2AnyTokens(t *testing.T) {
	texts := strings.Fields(`1 0 2 63 64 08 x 'a' '' "s" @ ( ( ) ) - + ~ ! || && | ^ & == != < > <= >= << >> * / % ? ? : : , = # ++`)
	r := rand.New(rand.NewSource(5))
	for range 50000 {
		var l []api.Token
		for range r.Intn(12) {
			one := read(t, texts[r.Intn(len(texts))])[0]
			one.File, one.At, one.End = len(l), 10*len(l), 10*len(l)+1
			l = append(l, one)
		}
		n, f := cond.Eval(l)
		if f.Err == api.OK && f != (api.Fault{File: -1}) || f.Err != api.OK && n != 0 {
			t.Fatalf("Eval(%v) is %d %v", l, n, f)
		}
		if f.Err != api.OK && len(l) > 0 && f.At != 10*f.File && f.At != 10*len(l)-9 {
			t.Fatalf("Eval(%v) has a fault at no token: %v", l, f)
		}
	}
}

// 2^16 parts, one in the other.
func TestD2LongLists(t *testing.T) {
	const many = 1 << 16
	one, ask, part := read(t, "1")[0], read(t, "?")[0], read(t, ":")[0]
	var down, on []api.Token
	for range many {
		down = append(down, one, ask)
		on = append(on, one, ask, one, part)
	}
	down, on = append(down, one), append(on, one)
	for range many {
		down = append(down, part, one)
	}
	for _, l := range [][]api.Token{down, on} {
		if n, f := cond.Eval(l); n != 1 || f.Err != api.OK {
			t.Errorf("Eval of %d tokens is %d %v", len(l), n, f)
		}
	}
}

// Z2: the list, and the room behind it, are neither changed nor looked at.
func TestD2OnlyReads(t *testing.T) {
	for _, s := range []string{"1 + 2 ", "1 +", "(1 ? 2 : 3", "1 / 0"} {
		l := read(t, s+" + 4")
		short := l[:len(l)-2]
		before := append([]api.Token(nil), l...)
		n, f := cond.Eval(short)
		m, g := cond.Eval(append([]api.Token(nil), short...))
		if n != m || f != g {
			t.Errorf("Eval(%q) hangs on what stands behind it: %d %v, and %d %v", s, n, f, m, g)
		}
		if !reflect.DeepEqual(l, before) {
			t.Errorf("Eval(%q) changed its list", s)
		}
	}
}
