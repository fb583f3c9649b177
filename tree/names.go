package tree

// What a declarator makes of its name.
const (
	aThing = 1
	aType  = 2
)

// names are those that were made, of each of the surroundings that are open, the outermost ones first. Most blocks make none: a map is there only with the first one.
type names []map[string]int

func (n *names) open() { *n = append(*n, nil) }

func (n *names) close() { *n = (*n)[:len(*n)-1] }

// declare makes a name in the innermost surroundings; what it was there so far is forgotten.
func (n names) declare(name string, as int) {
	last := len(n) - 1
	if n[last] == nil {
		n[last] = map[string]int{}
	}
	n[last][name] = as
}

// isType tells whether a name is a type's: the innermost surroundings that have one of that name say so, or not.
func (n names) isType(name string) bool {
	for i := len(n) - 1; i >= 0; i-- {
		if as, made := n[i][name]; made {
			return as == aType
		}
	}
	return false
}
