package lex

import (
	"strings"

	"preamble/api"
)

// shape is a kind of token, and how many bytes at the beginning of a text are one of that kind: 0, if none stands there, open, if one begins there that has no end.
type shape struct {
	kind int
	size func(s string) int
}

// shapes answers the kinds in the order in which they are tried: the first one that fits holds. Whether a path may stand there hangs on what was read so far, and is asked by path.
func shapes(path func() bool) []shape {
	all := Signs()
	return []shape{
		{api.TokName, nameSize},
		{api.TokNum, numberSize},
		{api.TokText, quoted('"')},
		{api.TokChar, quoted('\'')},
		{api.TokPath, func(s string) int {
			if !path() {
				return 0
			}
			return pathSize(s)
		}},
		{api.TokSign, func(s string) int { return signSize(all, s) }},
	}
}

// span answers how many bytes of s hold in a row; the first one is known to.
func span(s string, holds func(i int) bool) int {
	i := 1
	for i < len(s) && holds(i) {
		i++
	}
	return i
}

func inName(c byte) bool { return Letter(c) || Digit(c) }

func nameSize(s string) int {
	if s == "" || !Letter(s[0]) {
		return 0
	}
	return span(s, func(i int) bool { return inName(s[i]) })
}

func numberSize(s string) int {
	digits := strings.TrimPrefix(s, ".")
	if digits == "" || !Digit(digits[0]) {
		return 0
	}
	return span(s, func(i int) bool {
		switch s[i] {
		case '.':
			return true
		case '+', '-':
			return s[i-1] == 'e' || s[i-1] == 'E'
		}
		return inName(s[i])
	})
}

// quoted answers the size of what stands between two of quote, with these, in one line.
func quoted(quote byte) func(s string) int {
	return func(s string) int {
		if s == "" || s[0] != quote {
			return 0
		}
		for i := 1; i < len(s) && s[i] != '\n'; i++ {
			switch {
			case s[i] == quote:
				return i + 1
			case s[i] == '\\' && i+1 < len(s) && s[i+1] != '\n':
				i++
			}
		}
		return open
	}
}

// pathSize is 0 where no > stands in the line: then < is a sign.
func pathSize(s string) int {
	if !strings.HasPrefix(s, "<") {
		return 0
	}
	end := strings.IndexAny(s, ">\n")
	if end < 0 || s[end] == '\n' {
		return 0
	}
	return end + 1
}

func signSize(all []string, s string) int {
	for _, sign := range all {
		if strings.HasPrefix(s, sign) {
			return len(sign)
		}
	}
	return 0
}

// blankSize answers the size of one piece of what is blank.
func blankSize(s string) int {
	switch {
	case s == "":
		return 0
	case strings.IndexByte(" \t\n\r", s[0]) >= 0:
		return 1
	case strings.HasPrefix(s, "//"):
		// Without its line feed, which is a blank of its own; without one it goes to the end of all.
		return span(s, func(i int) bool { return s[i] != '\n' })
	case strings.HasPrefix(s, "/*"):
		// Sought behind the two: /*/ has no end.
		end := strings.Index(s[2:], "*/")
		if end < 0 {
			return open
		}
		return 2 + end + 2
	}
	return 0
}
