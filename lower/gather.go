package lower

import "treadwheel/api"

// gather is what goes along the expressions whose atoms a node needs: it keeps
// the closures that new slots are for.
type gather struct {
	b    *builder
	s    *slots
	clos []api.Clo
}

func (g *gather) atoms(of []api.Expr) []api.Atom {
	var atoms []api.Atom
	for _, e := range of {
		atoms = append(atoms, g.atom(e))
	}
	return atoms
}

func (g *gather) atom(e api.Expr) api.Atom {
	switch e.Kind {
	case api.EVar:
		return g.variable(e.Name)
	case api.ENum:
		return api.Atom{Global: true, N: g.b.number(e.Num)}
	case api.ELam:
		return g.fresh(e.Params, kidsOf(e)[0])
	}
	return g.fresh(nil, e)
}

func (g *gather) variable(name string) api.Atom {
	if slot, ok := g.s.last(name); ok {
		return api.Atom{N: slot}
	}
	return api.Atom{Global: true, N: g.b.binds[name]}
}

// fresh: a new slot, of a closure.
func (g *gather) fresh(params []string, body api.Expr) api.Atom {
	atom := api.Atom{N: g.s.count + len(g.clos)}
	g.clos = append(g.clos, g.b.closure(g.s, "", params, body))
	return atom
}

// put: the number of the node that needs the atoms; of a let around it, where
// there are new slots.
func (g *gather) put(n api.Node) int {
	node := g.b.put(n)
	if len(g.clos) == 0 {
		return node
	}
	return g.b.put(api.Node{Op: api.NLet, Clos: g.clos, Kid: node})
}
