package lower

import "treadwheel/api"

// slots are a code's, where an expression of it stands: how many there are, and
// which of them bear each name, the last one behind. One that bears none is
// told by no name, the empty one neither.
type slots struct {
	count int
	named map[string][]int
}

func (s *slots) lay() { s.named = map[string][]int{} }

// with: what is lowered while there are slots more, which bear names.
func (s *slots) with(names []string, lower func() int) int {
	for _, x := range names {
		s.named[x] = append(s.named[x], s.count)
		s.count++
	}
	node := lower()
	for _, x := range names {
		s.named[x] = s.named[x][:len(s.named[x])-1]
		s.count--
	}
	return node
}

// withValue: what is lowered while there is one slot more, which bears no name.
func (s *slots) withValue(lower func() int) int {
	s.count++
	node := lower()
	s.count--
	return node
}

// last: the last slot of a name; false, if none bears it.
func (s *slots) last(name string) (int, bool) {
	all := s.named[name]
	if len(all) == 0 {
		return 0, false
	}
	return all[len(all)-1], true
}

// known: those of the names that slots bear, and these.
func (s *slots) known(names []string) (borne []string, at []int) {
	for _, x := range names {
		if slot, ok := s.last(x); ok {
			borne = append(borne, x)
			at = append(at, slot)
		}
	}
	return borne, at
}

// latest: as many slots, the last one behind.
func (s *slots) latest(n int) []api.Atom {
	var atoms []api.Atom
	for slot := s.count - n; slot < s.count; slot++ {
		atoms = append(atoms, api.Atom{N: slot})
	}
	return atoms
}
