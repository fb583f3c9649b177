package drive

import (
	"preamble/api"
	"preamble/files"
	"preamble/macro"
)

// source is a file that is being read.
type source struct {
	*run
	file   int
	deep   int // files that are being included, this one too
	groups []group
	waits  []api.Token
}

// take reads a line.
func (s *source) take(line []api.Token) {
	if t := line[0]; t.Kind != api.TokSign || t.Text != "#" {
		if s.counts() {
			s.waits = append(s.waits, line...)
		}
		return
	}
	s.flush()
	if len(line) > 1 {
		s.tell(line[1], line[2:])
	}
}

// end is where the file ends.
func (s *source) end() {
	s.flush()
	if n := len(s.groups); n > 0 {
		fail(api.ErrEnd, s.groups[n-1].word)
	}
}

// flush has what waits be expanded, and come out.
func (s *source) flush() {
	if len(s.waits) == 0 {
		return
	}
	l, f := s.expanded(s.waits)
	must(f)
	s.out.Tokens = append(s.out.Tokens, l...)
	// Each expansion may have come to as many as are allowed in all.
	if len(s.out.Tokens) > s.limits.Out {
		fail(api.ErrMuch, s.waits[0])
	}
	s.waits = nil
}

// tell does what a line with # says. Groups are followed wherever they stand, lest their ends be taken for those of others.
func (s *source) tell(word api.Token, rest []api.Token) {
	switch word.Text {
	case "if", "ifdef", "ifndef":
		s.begin(word, rest)
	case "elif", "else":
		s.turn(word, rest)
	case "endif":
		s.close(word, rest)
	default:
		if s.counts() {
			s.do(word, rest)
		}
	}
}

// do does what a line that counts says.
func (s *source) do(word api.Token, rest []api.Token) {
	switch word.Text {
	case "define":
		s.define(word, rest)
	case "undef":
		s.undef(word, rest)
	case "include":
		s.include(word, rest)
	case "error":
		fail(api.ErrSaid, word)
	case "pragma":
		if len(rest) == 1 && rest[0].Text == "once" {
			s.once[s.file] = true
		}
	default:
		fail(api.ErrKind, word)
	}
}

func (s *source) define(word api.Token, rest []api.Token) {
	m, f := macro.Parse(rest)
	mustAt(f, word)
	l, err := macro.Define(s.macros, m)
	if err != api.OK {
		fail(err, rest[0])
	}
	s.macros = l
}

func (s *source) undef(word api.Token, rest []api.Token) {
	name := one(word, rest, api.TokName)
	if macro.Builtin(name.Text) {
		fail(api.ErrName, name)
	}
	s.macros = macro.Undef(s.macros, name.Text)
}

func (s *source) include(word api.Token, rest []api.Token) {
	path := one(word, rest, api.TokText, api.TokPath)
	between := path.Text[1 : len(path.Text)-1]
	file := files.Include(s.files, s.file, between, path.Kind == api.TokText)
	switch {
	case file < 0:
		fail(api.ErrNone, path)
	case s.once[file]:
		return
	case s.deep == s.limits.Deep:
		fail(api.ErrDeep, path)
	}
	s.read(file, s.deep+1)
}
