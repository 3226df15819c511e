package code

import (
	"slices"

	"treadwheel/api"
)

// look goes through a program's nodes, as codes ask for them. It keeps which
// nodes were asked, each with in how many slots: as the first fault ends it, one
// that is asked again was found right, with all that it hangs on.
type look struct {
	p       api.Program
	reaches []reach
	asked   map[[2]int]bool
	open    []visit
}

// visit is a node that is being asked in so many slots, and how many of those
// that it hangs on were.
type visit struct {
	node, slots int
	kids        [][2]int
	done        int
}

func (l *look) code(c api.Code) api.Errno {
	if !isPlace(c.Free, api.MaxFrame+1) || !isPlace(c.Args, api.MaxFrame+1) {
		return api.ErrRange
	}
	e := l.ask(c.Node, len(l.p.Nodes), c.Free+c.Args)
	// Calls that call themselves would have no room for as many nodes as may
	// hang on each other.
	for e == api.OK && len(l.open) > 0 {
		e = l.next()
	}
	return e
}

// ask: the first fault of a node by itself; it stands ahead of a place.
func (l *look) ask(node, before, slots int) api.Errno {
	if !isPlace(node, before) {
		return api.ErrRange
	}
	// Slots that nothing there reaches make no difference; so a node is asked
	// but once in enough of them, however many ways lead to it.
	key := [2]int{node, min(slots, l.reaches[node].needs)}
	if l.asked[key] {
		return api.OK
	}
	l.asked[key] = true
	n := l.p.Nodes[node]
	l.open = append(l.open, visit{node: node, slots: slots, kids: kidsOf(n)})
	return l.alone(n, slots)
}

// next goes on with the node that was asked last.
func (l *look) next() api.Errno {
	v := &l.open[len(l.open)-1]
	if v.done == len(v.kids) {
		l.open = l.open[:len(l.open)-1]
		return api.OK
	}
	// Of a case, the first kid is what it asks for; of each other one a branch
	// tells.
	if v.done > 0 {
		if e := l.branch(l.p.Nodes[v.node].Branches[v.done-1]); e != api.OK {
			return e
		}
	}
	kid := v.kids[v.done]
	v.done++
	return l.ask(kid[0], v.node, v.slots+kid[1])
}

// alone: the first fault of a node, whatever it hangs on.
func (l *look) alone(n api.Node, slots int) api.Errno {
	if n.Op < api.NApp || n.Op > api.NCase {
		return api.ErrKind
	}
	isWrong := func(a api.Atom) bool { return !l.isAtom(a, slots) }
	if n.Op == api.NApp && isWrong(n.F) || slices.ContainsFunc(n.Args, isWrong) {
		return api.ErrRange
	}
	switch n.Op {
	case api.NCon:
		if !isPlace(n.N, len(l.p.Cons)) {
			return api.ErrRange
		}
	case api.NOp:
		if !isPlace(n.N, api.OpTrunc+1) {
			return api.ErrRange
		}
	case api.NLet:
		return l.closures(n.Clos, slots+len(n.Clos))
	}
	if len(n.Args) != l.takes(n) {
		return api.ErrArity
	}
	return api.OK
}

func (l *look) isAtom(a api.Atom, slots int) bool {
	if a.Global {
		return isPlace(a.N, len(l.p.Globals))
	}
	return isPlace(a.N, slots)
}

// takes: how many arguments a node is to have; of one that may have any number,
// as many as it has.
func (l *look) takes(n api.Node) int {
	switch n.Op {
	case api.NCon:
		return l.p.Cons[n.N].Arity
	case api.NWeak:
		return 3
	case api.NOp:
		if n.N != api.OpFloat && n.N != api.OpTrunc {
			return 2
		}
		// Of one number, as a weak pointer is looked at alone.
		fallthrough
	case api.NSee:
		return 1
	}
	return len(n.Args)
}

func (l *look) closures(clos []api.Clo, slots int) api.Errno {
	isWrong := func(slot int) bool { return !isPlace(slot, slots) }
	for _, c := range clos {
		if !isPlace(c.Code, len(l.p.Codes)) {
			return api.ErrRange
		}
		if len(c.Caps) != l.p.Codes[c.Code].Free {
			return api.ErrArity
		}
		if slices.ContainsFunc(c.Caps, isWrong) {
			return api.ErrRange
		}
	}
	return api.OK
}

// branch: the first fault of a branch, whatever its node.
func (l *look) branch(b api.Branch) api.Errno {
	switch b.Kind {
	case api.ACon:
		if !isPlace(b.N, len(l.p.Cons)) {
			return api.ErrRange
		}
		if b.Arity != l.p.Cons[b.N].Arity {
			return api.ErrArity
		}
	case api.ANum:
		if !isPlace(b.N, len(l.p.Globals)) || l.p.Globals[b.N].Code != ofNumber {
			return api.ErrRange
		}
	case api.AElse:
	default:
		return api.ErrKind
	}
	return api.OK
}
