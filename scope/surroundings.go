package scope

// finder answers the token by which a name was made, and whether there is one.
type finder func(name string) (tok int, found bool)

// nowhere is what stands around all of it: no name is found there.
func nowhere(string) (int, bool) { return 0, false }

// surroundings are where names are made: each name once, with the token by which it was.
type surroundings struct {
	made map[string]int
	find finder
}

// within answers new surroundings. What was not made in them is looked for around them.
func within(around finder) surroundings {
	made := map[string]int{}
	return surroundings{made, func(name string) (int, bool) {
		if tok, found := made[name]; found {
			return tok, true
		}
		return around(name)
	}}
}

// declare makes a name; it tells whether that was not made there already.
func (s surroundings) declare(name string, tok int) bool {
	if _, found := s.made[name]; found {
		return false
	}
	s.made[name] = tok
	return true
}
