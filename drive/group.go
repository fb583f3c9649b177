package drive

import (
	"slices"

	"preamble/api"
	"preamble/cond"
	"preamble/macro"
)

// group is what stands from #if to #endif.
type group struct {
	word   api.Token // which began it
	counts bool      // its lines do
	may    bool      // they may yet: they never did, and it stands in lines that count
	last   bool      // #else was there
}

// ask has the group count, if it may, and what is asked holds. What can't make a difference is not asked.
func (g *group) ask(holds func() bool) {
	g.counts = g.may && holds()
	g.may = g.may && !g.counts
}

// counts tells whether a line counts that stands here.
func (s *source) counts() bool {
	return !slices.ContainsFunc(s.groups, func(g group) bool { return !g.counts })
}

// begin begins a group.
func (s *source) begin(word api.Token, rest []api.Token) {
	if len(s.groups) == api.MaxNest {
		fail(api.ErrDeep, word)
	}
	g := group{word: word, may: s.counts()}
	g.ask(s.question(word, rest))
	s.groups = append(s.groups, g)
}

// turn goes on to the next part of a group.
func (s *source) turn(word api.Token, rest []api.Token) {
	g := s.open(word)
	if g.last {
		fail(api.ErrFit, word)
	}
	if word.Text == "else" {
		nothing(rest)
		g.last = true
	}
	g.ask(s.question(word, rest))
}

// close ends a group.
func (s *source) close(word api.Token, rest []api.Token) {
	s.open(word)
	nothing(rest)
	s.groups = s.groups[:len(s.groups)-1]
}

// open answers the group that word, which goes on with one, is of.
func (s *source) open(word api.Token) *group {
	if len(s.groups) == 0 {
		fail(api.ErrFit, word)
	}
	return &s.groups[len(s.groups)-1]
}

// question answers what a line of a group asks.
func (s *source) question(word api.Token, rest []api.Token) func() bool {
	known := func() bool { return s.known(one(word, rest, api.TokName)) }
	switch word.Text {
	case "ifdef":
		return known
	case "ifndef":
		return func() bool { return !known() }
	case "else":
		return func() bool { return true }
	}
	return func() bool { return s.reckon(word, rest) != 0 }
}

// known tells whether a name means something here.
func (s *source) known(name api.Token) bool {
	switch name.Text {
	case "__LINE__", "__FILE__":
		return true
	}
	return macro.Find(s.macros, name.Text) >= 0
}

// reckon answers what the rest of #if, or #elif, comes to.
func (s *source) reckon(word api.Token, rest []api.Token) int {
	if len(rest) == 0 {
		fail(api.ErrForm, word)
	}
	l, f := s.expanded(s.settled(rest))
	mustAt(f, word)
	n, f := cond.Eval(l)
	mustAt(f, word)
	return n
}

// settled answers l with a number for each defined, which stands where that stood. It comes ahead of expanding: of a name that is asked for, what it stands for would be left.
func (s *source) settled(l []api.Token) []api.Token {
	var out []api.Token
	for i := 0; i < len(l); i++ {
		t := l[i]
		if t.Kind == api.TokName && t.Text == "defined" {
			name, size := asked(l[i+1:])
			if size == 0 {
				fail(api.ErrForm, t)
			}
			t.Kind, t.Text = api.TokNum, "0"
			if s.known(name) {
				t.Text = "1"
			}
			i += size
		}
		out = append(out, t)
	}
	return out
}

// asked answers the name with which l begins, in parentheses or not, and how many tokens that takes; 0: there is none.
func asked(l []api.Token) (name api.Token, size int) {
	switch {
	case len(l) > 0 && l[0].Kind == api.TokName:
		return l[0], 1
	case len(l) > 2 && l[0].Text == "(" && l[1].Kind == api.TokName && l[2].Text == ")":
		return l[1], 3
	}
	return api.Token{}, 0
}

// one answers the only token of rest, which must be of one of these kinds.
func one(word api.Token, rest []api.Token, kinds ...int) api.Token {
	if len(rest) != 1 || !slices.Contains(kinds, rest[0].Kind) {
		fail(api.ErrForm, word)
	}
	return rest[0]
}

// nothing fails, if something is left.
func nothing(rest []api.Token) {
	if len(rest) > 0 {
		fail(api.ErrForm, rest[0])
	}
}
