// Package files has files, by their paths: see doc/01-files.md.
package files

import (
	"bytes"
	"slices"
	"strings"

	"preamble/api"
)

// Clean tells whether s is a path.
func Clean(s string) bool {
	// Asked first, so that a long text is not gone through.
	if len(s) > api.MaxPath {
		return false
	}
	for _, name := range strings.Split(s, "/") {
		if !isName(name) {
			return false
		}
	}
	return true
}

func isName(s string) bool {
	if s == "" || s == "." || s == ".." {
		return false
	}
	for i := 0; i < len(s); i++ {
		if !inName(s[i]) {
			return false
		}
	}
	return true
}

func inName(c byte) bool {
	switch {
	case 'a' <= c && c <= 'z', 'A' <= c && c <= 'Z', '0' <= c && c <= '9':
		return true
	}
	return c == '.' || c == '_'
}

// Wrong tells the first thing that is wrong with l, and in which file; without one File is -1.
func Wrong(l api.Files) api.Fault {
	if len(l) > api.MaxFiles {
		return api.Fault{Err: api.ErrMany, File: -1}
	}
	for i, f := range l {
		switch {
		case !Clean(f.Path):
			return api.Fault{Err: api.ErrName, File: i}
		case len(f.Text) > api.MaxText:
			return api.Fault{Err: api.ErrMuch, File: i}
		case i > 0 && l[i-1].Path >= f.Path:
			return api.Fault{Err: api.ErrForm, File: i}
		}
	}
	return api.Fault{File: -1}
}

// Find answers the number of the first file of that path, or -1.
func Find(l api.Files, path string) int {
	return slices.IndexFunc(l, func(f api.Source) bool { return f.Path == path })
}

// Beside answers the path that path means in the file from, or nothing.
func Beside(from, path string) string {
	way := folder(from)
	for piece := range strings.SplitSeq(path, "/") {
		switch piece {
		case ".":
		case "..":
			last := bytes.LastIndexByte(way, '/')
			if last < 0 {
				return ""
			}
			way = way[:last]
		default:
			way = append(way, '/')
			way = append(way, piece...)
		}
	}
	out := strings.TrimPrefix(string(way), "/")
	if !Clean(out) {
		return ""
	}
	return out
}

// folder answers what stands ahead of the last / of from, with a / ahead of each piece: so that no piece at all and one empty piece are two things, which .. tells apart.
func folder(from string) []byte {
	last := strings.LastIndexByte(from, '/')
	if last < 0 {
		return nil
	}
	return []byte("/" + from[:last])
}

// Include answers the number of the file that an #include of path in the file from means, or -1.
func Include(l api.Files, from int, path string, quotes bool) int {
	if from < 0 || from >= len(l) {
		return -1
	}
	meant := func(file string) int { return Find(l, Beside(file, path)) }
	if !quotes {
		return meant("lib/x")
	}
	if near := meant(l[from].Path); near >= 0 {
		return near
	}
	return meant("x")
}
