package macro

import (
	"slices"

	"preamble/api"
)

const (
	dots = "..."
	rest = "__VA_ARGS__" // what a body calls the parameter that dots stand for
)

// numbered answers a function that tells token i of l. Behind the last one it tells one that is of no kind, and stands where that ends: so whatever is asked of a token may be asked there, and be wrong there.
func numbered(l []api.Token) func(i int) api.Token {
	end := api.Token{File: -1}
	if n := len(l); n > 0 {
		end.File, end.At = l[n-1].File, l[n-1].End
	}
	return func(i int) api.Token {
		if i < len(l) {
			return l[i]
		}
		return end
	}
}

// Parse answers the macro that l, all that stands behind #define, tells of.
func Parse(l []api.Token) (api.Macro, api.Fault) {
	token := numbered(l)
	m, i, err := head(token)
	if err == api.OK {
		i, err = body(&m, l, i)
	}
	if err != api.OK {
		t := token(i)
		return api.Macro{}, api.Fault{Err: err, File: t.File, At: t.At}
	}
	return m, api.Fault{File: -1}
}

// head reads a macro's name, and its parameters. It answers the number of the token behind these, or of the one that is wrong.
func head(token func(int) api.Token) (m api.Macro, i int, err api.Errno) {
	name := token(0)
	switch {
	case name.Kind != api.TokName:
		return m, 0, api.ErrForm
	case Builtin(name.Text):
		return m, 0, api.ErrName
	}
	m.Name = name.Text
	if t := token(1); t.Text != "(" || t.Space {
		return m, 1, api.OK
	}
	m.Call = true
	i, err = params(&m, token, 2)
	return m, i, err
}

// params reads m's parameters, from token i on. It answers as head does.
func params(m *api.Macro, token func(int) api.Token, i int) (int, api.Errno) {
	if token(i).Text == ")" {
		return i + 1, api.OK
	}
	for {
		t := token(i)
		if err := wrongParam(m, t); err != api.OK {
			return i, err
		}
		m.More = t.Text == dots
		if m.More {
			t.Text = rest
		}
		m.Params = append(m.Params, t.Text)
		i++
		switch token(i).Text {
		case ")":
			return i + 1, api.OK
		case ",":
			i++
		default:
			return i, api.ErrForm
		}
	}
}

// wrongParam tells why t can't be m's next parameter.
func wrongParam(m *api.Macro, t api.Token) api.Errno {
	switch {
	case m.More, t.Text == rest, t.Text != dots && t.Kind != api.TokName:
		return api.ErrForm
	case slices.Contains(m.Params, t.Text):
		return api.ErrName
	case len(m.Params) == api.MaxParams:
		return api.ErrMany
	}
	return api.OK
}

// body takes the tokens of l, from number i on, as m's body. It answers the number of the one that is wrong.
func body(m *api.Macro, l []api.Token, i int) (int, api.Errno) {
	if len(l)-i > api.MaxBody {
		return i + api.MaxBody, api.ErrMuch
	}
	for _, t := range l[i:] {
		t.First, t.Hide, t.Calls = false, nil, nil
		t.Space = t.Space && len(m.Body) > 0
		m.Body = append(m.Body, t)
	}
	token := numbered(m.Body)
	for at := range m.Body {
		if err := wrongBody(m, token, at); err != api.OK {
			return i + at, err
		}
	}
	return 0, api.OK
}

// wrongBody tells why token i can't stand in m's body where it does.
func wrongBody(m *api.Macro, token func(int) api.Token, i int) api.Errno {
	t := token(i)
	switch {
	case t.Kind == api.TokSign && t.Text == "##" && (i == 0 || i == len(m.Body)-1):
		return api.ErrForm
	case t.Kind == api.TokSign && t.Text == "#" && m.Call && !isParam(m, token(i+1)):
		return api.ErrForm
	case t.Kind == api.TokName && t.Text == rest && !m.More:
		return api.ErrName
	}
	return api.OK
}

func isParam(m *api.Macro, t api.Token) bool {
	return t.Kind == api.TokName && slices.Contains(m.Params, t.Text)
}
