package code

import "treadwheel/api"

// reach is how a node, with all that it hangs on, stands among slots: the fewest
// in which nothing there reaches behind them, and how many more than its own one
// there is asked in at most. Of nodes that aren't right it says nothing.
type reach struct {
	needs, adds int
}

// reachesOf: of each node. What one hangs on stands ahead of it, so that one
// way along them is enough.
func reachesOf(nodes []api.Node) []reach {
	reaches := make([]reach, len(nodes))
	for i, n := range nodes {
		r := reach{needs: needsOf(n)}
		for _, kid := range kidsOf(n) {
			if node, more := kid[0], kid[1]; isPlace(node, i) {
				r.needs = max(r.needs, reaches[node].needs-more)
				r.adds = max(r.adds, reaches[node].adds+more)
			}
		}
		reaches[i] = r
	}
	return reaches
}

// needsOf: the fewest slots in which a node by itself doesn't reach behind them.
func needsOf(n api.Node) int {
	needs := 0
	atom := func(a api.Atom) {
		if !a.Global {
			needs = max(needs, a.N+1)
		}
	}
	if n.Op == api.NApp {
		atom(n.F)
	}
	for _, a := range n.Args {
		atom(a)
	}
	for _, c := range n.Clos {
		for _, slot := range c.Caps {
			needs = max(needs, slot+1-len(n.Clos))
		}
	}
	return needs
}

// kidsOf: the nodes that one hangs on, each with in how many slots more it is
// asked.
func kidsOf(n api.Node) [][2]int {
	switch n.Op {
	case api.NLet:
		return [][2]int{{n.Kid, len(n.Clos)}}
	case api.NCase:
		kids := [][2]int{{n.Kid, 0}}
		for _, b := range n.Branches {
			kids = append(kids, [2]int{b.Node, slotsOf(b)})
		}
		return kids
	}
	return nil
}

// slotsOf: how many slots a branch adds.
func slotsOf(b api.Branch) int {
	switch b.Kind {
	case api.ACon:
		return b.Arity
	case api.AElse:
		return 1
	}
	return 0
}
