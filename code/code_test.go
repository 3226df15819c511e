package code_test

import (
	"math"
	"reflect"
	"slices"
	"strconv"
	"testing"

	"treadwheel/api"
	"treadwheel/code"
)

// What programs are made of.

func s(n int) api.Atom { return api.Atom{N: n} }

func g(n int) api.Atom { return api.Atom{Global: true, N: n} }

func app(f api.Atom, args ...api.Atom) api.Node {
	return api.Node{Op: api.NApp, F: f, Args: args}
}

func con(n int, args ...api.Atom) api.Node { return api.Node{Op: api.NCon, N: n, Args: args} }

func op(n int, args ...api.Atom) api.Node { return api.Node{Op: api.NOp, N: n, Args: args} }

func weak(args ...api.Atom) api.Node { return api.Node{Op: api.NWeak, Args: args} }

func see(args ...api.Atom) api.Node { return api.Node{Op: api.NSee, Args: args} }

func let(kid int, clos ...api.Clo) api.Node {
	return api.Node{Op: api.NLet, Kid: kid, Clos: clos}
}

func clo(of int, caps ...int) api.Clo { return api.Clo{Code: of, Caps: caps} }

func choice(kid int, branches ...api.Branch) api.Node {
	return api.Node{Op: api.NCase, Kid: kid, Branches: branches}
}

func ofCon(n, arity, node int) api.Branch {
	return api.Branch{Kind: api.ACon, N: n, Arity: arity, Node: node}
}

func ofNum(n, node int) api.Branch { return api.Branch{Kind: api.ANum, N: n, Node: node} }

func orElse(node int) api.Branch { return api.Branch{Kind: api.AElse, Node: node} }

func closure(of int) api.Global { return api.Global{Code: of} }

func number(bits uint64) api.Global { return api.Global{Code: -1, Num: api.Num{Bits: bits}} }

func float(bits uint64) api.Global {
	return api.Global{Code: -1, Num: api.Num{Float: true, Bits: bits}}
}

// Codes and globals of each program below: main, a function of two, and two
// closures' codes, of which these programs' nodes may speak.
const (
	aMain = iota // no slots
	aFun         // two arguments
	aClo         // three free, one argument
	aRest        // no free, no argument
)

// program has these nodes; of main's code the last one is asked, of the others'
// the first, which is right in no slots.
func program(nodes ...api.Node) api.Program {
	nodes = append([]api.Node{app(g(0))}, nodes...)
	return api.Program{
		Cons:    []api.Decl{{Name: "False"}, {Name: "True"}, {Name: "Nothing"}, {Name: "Just", Arity: 1}, {Name: "Pair", Arity: 2}},
		Codes:   []api.Code{{Name: "main", Node: len(nodes) - 1}, {Name: "f", Args: 2}, {Free: 3, Args: 1}, {}},
		Globals: []api.Global{closure(aMain), closure(aFun), number(7), float(1 << 63)},
		Main:    0,
		Nodes:   nodes,
	}
}

// inSlots is of a main's node that stands in as many slots: within cases, each
// of which adds one.
func inSlots(many int, nodes ...api.Node) api.Program {
	last := len(nodes)
	for range many {
		last++
		nodes = append(nodes, choice(0, orElse(last-1)))
	}
	return program(nodes...)
}

func wantSlots(t *testing.T, p api.Program, slots ...int) {
	t.Helper()
	if got := code.Slots(p); !slices.Equal(got, slots) {
		t.Errorf("Slots answers %v; want %v of\n%.3000s", got, slots, code.Print(p))
	}
}

func wantRight(t *testing.T, p api.Program) {
	t.Helper()
	if e, at := code.Check(p); e != api.OK || at != 0 {
		t.Errorf("Check answers %d, %d of\n%.3000s", e, at, code.Print(p))
	}
	if got := code.Slots(p); len(got) != len(p.Codes) {
		t.Errorf("Slots answers %v of\n%.3000s", got, code.Print(p))
	}
}

func wantFault(t *testing.T, p api.Program, e api.Errno, at int) {
	t.Helper()
	if f, of := code.Check(p); f != e || of != at {
		t.Errorf("Check answers %d, %d; want %d, %d of\n%.3000s", f, of, e, at, code.Print(p))
	}
	if got := code.Slots(p); len(got) != 0 {
		t.Errorf("Slots answers %v beside a fault of\n%.3000s", got, code.Print(p))
	}
}

// wantNode is of a node in as many slots: its fault, or OK.
func wantNode(t *testing.T, many int, n api.Node, e api.Errno) {
	t.Helper()
	p := inSlots(many, n)
	if e == api.OK {
		wantRight(t, p)
	} else {
		wantFault(t, p, e, aMain)
	}
}

// none are numbers that are no places, of however many up to some thousands.
var none = []int{-1, -2, math.MinInt, math.MaxInt, math.MaxInt - 1, 1 << 32, -1 << 32, 100000}

func TestP141Around(t *testing.T) {
	wantRight(t, program())
	for arity := range 25 {
		p := program()
		p.Cons = append(p.Cons, api.Decl{Name: "C", Arity: arity})
		wantRight(t, p)
	}
	for _, arity := range append([]int{25, 26}, none...) {
		for i := range 5 {
			p := program()
			p.Cons[i].Arity = arity
			wantFault(t, p, api.ErrRange, -1)
		}
	}
	for _, n := range append([]int{4, 5}, none...) {
		for i := range 4 {
			p := program()
			p.Globals[i].Code = n
			if n == -1 && i > 0 {
				wantRight(t, p)
				continue
			}
			wantFault(t, p, api.ErrRange, -1)
		}
		p := program()
		p.Main = n
		wantFault(t, p, api.ErrRange, -1)
	}
	for main, isRight := range []bool{true, false, false, false} { // a function, an int, a float
		p := program()
		p.Main = main
		if isRight {
			wantRight(t, p)
		} else {
			wantFault(t, p, api.ErrRange, -1)
		}
	}
	p := program()
	p.Globals[2] = closure(aRest)
	p.Main = 2
	wantRight(t, p)
	p.Globals[2] = closure(aClo)
	wantFault(t, p, api.ErrRange, -1)
	p.Main = 0
	wantFault(t, p, api.ErrRange, -1)
	p = program()
	p.Codes[aFun].Free = 1
	wantFault(t, p, api.ErrRange, -1)
	p.Codes[aFun].Free = -1
	wantFault(t, p, api.ErrRange, -1)
	p = program()
	p.Codes[aMain].Args = -1
	wantFault(t, p, api.ErrRange, -1)

	wantFault(t, api.Program{}, api.ErrRange, -1)
	wantFault(t, api.Program{Globals: []api.Global{{}}}, api.ErrRange, -1)
	wantFault(t, api.Program{Globals: []api.Global{{}}, Codes: []api.Code{{}}}, api.ErrRange, 0)
	wantRight(t, api.Program{Globals: []api.Global{{}}, Codes: []api.Code{{}}, Nodes: []api.Node{app(g(0))}})
}

// What isn't a code's own is asked ahead of every code.
func TestP141AroundFirst(t *testing.T) {
	wrong := program(api.Node{Op: 99})
	wantFault(t, wrong, api.ErrKind, aMain)
	for _, turn := range []func(p *api.Program){
		func(p *api.Program) { p.Cons[4].Arity = 25 }, func(p *api.Program) { p.Globals[3].Code = 4 }, func(p *api.Program) { p.Main = 4 }, func(p *api.Program) { p.Main = 1 },
	} {
		p := program(api.Node{Op: 99})
		turn(&p)
		wantFault(t, p, api.ErrRange, -1)
	}
}

func TestP141Codes(t *testing.T) {
	for _, n := range []int{0, 1, 63, 64} {
		for _, other := range []int{0, 1, 64} {
			p := program()
			p.Codes[aClo].Free, p.Codes[aClo].Args = n, other
			wantRight(t, p)
			wantSlots(t, p, 0, 2, n+other, 0)
			p.Codes[aClo].Free, p.Codes[aClo].Args = other, n
			wantRight(t, p)
		}
	}
	for _, n := range append([]int{65, 66, 128}, none...) {
		for i := range 4 {
			p := program()
			p.Codes[i].Free = n
			if i <= aFun {
				wantFault(t, p, api.ErrRange, -1)
			} else {
				wantFault(t, p, api.ErrRange, i)
			}
			p = program()
			p.Codes[i].Args = n
			if i == aMain {
				wantFault(t, p, api.ErrRange, -1)
			} else {
				wantFault(t, p, api.ErrRange, i)
			}
			p = program()
			p.Codes[i].Node = n
			wantFault(t, p, api.ErrRange, i)
		}
	}
	for i := range 4 {
		p := program()
		p.Codes[i].Node = 1
		wantFault(t, p, api.ErrRange, i)
		p.Nodes = append(p.Nodes, con(0))
		wantRight(t, p)
	}
	// The numbers of one code are asked ahead of its node, and one code ahead of
	// the next.
	p := program(api.Node{Op: 99})
	p.Codes[aMain].Node = 0
	p.Codes[aRest].Node = 1
	wantFault(t, p, api.ErrKind, aRest)
	p.Codes[aRest].Args = 65
	wantFault(t, p, api.ErrRange, aRest)
	p.Codes[aClo].Node = 1
	wantFault(t, p, api.ErrKind, aClo)
	p.Codes[aFun].Node = -1
	wantFault(t, p, api.ErrRange, aFun)
}

// A code's slots are its free ones and its arguments together.
func TestP141Together(t *testing.T) {
	for free := range 4 {
		for args := range 4 {
			for slot := range 8 {
				p := program(app(s(slot)))
				p.Codes[aMain].Node = 0
				p.Codes[aRest] = api.Code{Free: free, Args: args, Node: 1}
				if slot < free+args {
					wantRight(t, p)
				} else {
					wantFault(t, p, api.ErrRange, aRest)
				}
			}
		}
	}
}

func TestP141Ops(t *testing.T) {
	for _, kind := range append([]int{0, 8, 9}, none...) {
		for _, n := range []api.Node{{}, app(s(0)), con(0), choice(0), let(0), app(s(5))} {
			n.Op = kind
			wantNode(t, 1, n, api.ErrKind)
		}
	}
}

func TestP141Atoms(t *testing.T) {
	for many := range 5 {
		for n := range 6 {
			local := api.OK
			if n >= many {
				local = api.ErrRange
			}
			global := api.OK
			if n >= 4 {
				global = api.ErrRange
			}
			wantNode(t, many, app(s(n)), local)
			wantNode(t, many, app(g(n)), global)
			wantNode(t, many, app(g(0), g(0), s(n), g(0)), local)
			wantNode(t, many, app(g(0), g(0), g(0), g(n)), global)
			for _, a := range []struct {
				atom api.Atom
				e    api.Errno
			}{{s(n), local}, {g(n), global}} {
				wantNode(t, many, con(3, a.atom), a.e)
				wantNode(t, many, con(4, g(0), a.atom), a.e)
				wantNode(t, many, con(4, a.atom, g(0)), a.e)
				wantNode(t, many, op(api.OpAdd, a.atom, g(0)), a.e)
				wantNode(t, many, op(api.OpAdd, g(0), a.atom), a.e)
				wantNode(t, many, op(api.OpTrunc, a.atom), a.e)
				wantNode(t, many, weak(g(0), g(0), a.atom), a.e)
				wantNode(t, many, see(a.atom), a.e)
				// Args are asked whatever the node's Op.
				for _, n := range []api.Node{let(0), choice(0)} {
					n.Args = []api.Atom{a.atom}
					wantNode(t, many, n, a.e)
				}
			}
		}
	}
	for _, n := range none {
		wantNode(t, 1, app(s(n)), api.ErrRange)
		wantNode(t, 1, app(g(n)), api.ErrRange)
		wantNode(t, 1, see(s(n)), api.ErrRange)
		wantNode(t, 1, see(g(n)), api.ErrRange)
	}
	// F is asked of NApp alone.
	for _, n := range []api.Node{con(0), op(api.OpAdd, s(0), s(0)), weak(s(0), s(0), s(0)), see(s(0)), let(0), choice(0)} {
		n.F = s(99)
		wantNode(t, 1, n, api.OK)
	}
	// An application may have any arguments.
	wantNode(t, 1, app(s(0), slices.Repeat([]api.Atom{s(0)}, 500)...), api.OK)
}

func TestP141Con(t *testing.T) {
	args := slices.Repeat([]api.Atom{s(0)}, 4)
	for n, arity := range []int{0, 0, 0, 1, 2} {
		for many := range 4 {
			e := api.OK
			if many != arity {
				e = api.ErrArity
			}
			wantNode(t, 1, con(n, args[:many]...), e)
		}
	}
	for _, n := range append([]int{5, 6}, none...) {
		wantNode(t, 1, con(n), api.ErrRange)
	}
	wantNode(t, 1, con(5, s(1)), api.ErrRange)
	wantNode(t, 1, con(3, s(0), s(1)), api.ErrRange)
}

func TestP141Op(t *testing.T) {
	args := slices.Repeat([]api.Atom{s(0)}, 4)
	for n := range 15 {
		takes := 2
		if n == api.OpFloat || n == api.OpTrunc {
			takes = 1
		}
		for many := range 5 {
			e := api.OK
			if many != takes {
				e = api.ErrArity
			}
			wantNode(t, 1, op(n, args[:many]...), e)
		}
	}
	for _, n := range append([]int{15, 16}, none...) {
		for many := range 3 {
			wantNode(t, 1, op(n, args[:many]...), api.ErrRange)
		}
	}
	wantNode(t, 1, op(api.OpAdd, s(1)), api.ErrRange)
	for many := range 5 {
		weakly, seen := api.ErrArity, api.ErrArity
		if many == 3 {
			weakly = api.OK
		}
		if many == 1 {
			seen = api.OK
		}
		wantNode(t, 1, weak(args[:many]...), weakly)
		wantNode(t, 1, see(args[:many]...), seen)
	}
	wantNode(t, 1, weak(s(1)), api.ErrRange)
	wantNode(t, 1, see(s(0), g(4)), api.ErrRange)
}

func TestP141Let(t *testing.T) {
	for many := range 4 {
		for n := range 8 {
			e := api.OK
			if n >= many+2 {
				e = api.ErrRange
			}
			wantNode(t, many, let(0, clo(aRest), clo(aClo, 0, n, 1)), e)
			wantNode(t, many, let(0, clo(aClo, 1, 0, n), clo(aRest)), e)
			// The kid is asked in the closures too.
			wantFirst := inSlots(many, app(s(n)), let(1, clo(aRest), clo(aRest)))
			if e == api.OK {
				wantRight(t, wantFirst)
			} else {
				wantFault(t, wantFirst, e, aMain)
			}
		}
	}
	for _, n := range append([]int{4, 5}, none...) {
		wantNode(t, 1, let(0, clo(n)), api.ErrRange)
		wantNode(t, 1, let(0, clo(aRest), clo(n, 0, 0, 0)), api.ErrRange)
		wantNode(t, 1, let(n), api.ErrRange)
		wantNode(t, 1, let(n, clo(aRest)), api.ErrRange)
	}
	wantNode(t, 1, let(0, clo(aClo, 0, 0, -1)), api.ErrRange)
	wantNode(t, 1, let(0, clo(aClo, math.MaxInt, 0, 0)), api.ErrRange)
	wantNode(t, 1, let(0), api.OK)
	wantNode(t, 1, let(0, clo(aRest), clo(aFun), clo(aMain)), api.OK)
	for _, c := range []api.Clo{clo(aClo), clo(aClo, 0, 0), clo(aClo, 0, 0, 0, 0), clo(aRest, 0), clo(aFun, 0), clo(aFun, 0, 0)} {
		wantNode(t, 1, let(0, c), api.ErrArity)
		wantNode(t, 1, let(0, clo(aRest), c), api.ErrArity)
		wantNode(t, 1, let(9, clo(aRest), c, clo(9)), api.ErrArity)
	}
	// Closure by closure, each one's code, how many, which; then the kid.
	wantNode(t, 1, let(9, clo(9, 9), clo(aRest, 0)), api.ErrRange)
	wantNode(t, 1, let(9, clo(aClo, 9), clo(9)), api.ErrArity)
	wantNode(t, 1, let(9, clo(aClo, 9, 0, 0), clo(aRest, 0)), api.ErrRange)
	wantNode(t, 1, let(9, clo(aClo, 0, 0, 0), clo(aRest, 0)), api.ErrArity)
	p := program(api.Node{Op: 99}, let(1, clo(aRest, 0)))
	wantFault(t, p, api.ErrArity, aMain)
	wantFault(t, program(api.Node{Op: 99}, let(1, clo(aRest))), api.ErrKind, aMain)
	// How many a code has free may be no such number: that is its own fault, but
	// for a closure that asks ahead of it.
	p = program(let(0, clo(aClo, 0, 0, 0)))
	p.Codes[aClo].Free = -1
	wantFault(t, p, api.ErrArity, aMain)
	p = program(let(0, clo(aClo, slices.Repeat([]int{0}, 65)...)))
	p.Codes[aClo].Free = 65
	wantFault(t, p, api.ErrRange, aClo)
}

func TestP141Case(t *testing.T) {
	wantNode(t, 0, choice(0), api.OK)
	for _, n := range append([]int{2, 3}, none...) {
		wantNode(t, 0, choice(n), api.ErrRange)
		wantNode(t, 0, choice(0, orElse(n)), api.ErrRange)
		wantNode(t, 0, choice(0, ofNum(2, n)), api.ErrRange)
		wantNode(t, 0, choice(0, ofCon(0, 0, n)), api.ErrRange)
		wantNode(t, 0, choice(0, orElse(0), orElse(n)), api.ErrRange)
	}
	for _, kind := range append([]int{3, 4}, none...) {
		wantNode(t, 0, choice(0, api.Branch{Kind: kind}), api.ErrKind)
		wantNode(t, 0, choice(0, api.Branch{Kind: kind, N: 99, Arity: 99, Node: 99}), api.ErrKind)
		wantNode(t, 0, choice(0, orElse(0), api.Branch{Kind: kind}), api.ErrKind)
	}
	for n, arity := range []int{0, 0, 0, 1, 2} {
		for other := -1; other < 5; other++ {
			e := api.OK
			if other != arity {
				e = api.ErrArity
			}
			wantNode(t, 0, choice(0, ofCon(n, other, 0)), e)
		}
	}
	for _, n := range append([]int{5, 6}, none...) {
		wantNode(t, 0, choice(0, ofCon(n, 0, 0)), api.ErrRange)
		wantNode(t, 0, choice(0, ofCon(n, 9, 9)), api.ErrRange)
		wantNode(t, 0, choice(0, ofNum(n, 0)), api.ErrRange)
		wantNode(t, 0, choice(0, ofCon(4, n, 0)), api.ErrArity)
	}
	for n, e := range []api.Errno{api.ErrRange, api.ErrRange, api.OK, api.OK, api.ErrRange} {
		wantNode(t, 0, choice(0, ofNum(n, 0)), e)
	}
	// What a branch has that its kind doesn't tell of isn't asked.
	wantNode(t, 0, choice(0, api.Branch{Kind: api.AElse, N: 99, Arity: -99}), api.OK)
	wantNode(t, 0, choice(0, api.Branch{Kind: api.ANum, N: 2, Arity: math.MinInt}), api.OK)
}

// Each node is asked in as many slots as are there.
func TestP141CaseSlots(t *testing.T) {
	for many := range 4 {
		for n := range 8 {
			for _, x := range []struct {
				branch api.Branch
				more   int
			}{{ofCon(0, 0, 1), 0}, {ofCon(3, 1, 1), 1}, {ofCon(4, 2, 1), 2}, {ofNum(2, 1), 0}, {orElse(1), 1}} {
				for _, node := range []api.Node{choice(0, x.branch), choice(0, orElse(0), x.branch), choice(0, x.branch, orElse(0)), choice(0, ofCon(4, 2, 0), ofNum(3, 0), x.branch)} {
					p := inSlots(many, app(s(n)), node)
					if n < many+x.more {
						wantRight(t, p)
					} else {
						wantFault(t, p, api.ErrRange, aMain)
					}
				}
			}
			p := inSlots(many, app(s(n)), choice(1, ofCon(4, 2, 0)))
			if n < many {
				wantRight(t, p)
			} else {
				wantFault(t, p, api.ErrRange, aMain)
			}
		}
	}
}

// The kid ahead of branches; each branch's kind, number, arity, node ahead of
// the next one's.
func TestP141CaseOrder(t *testing.T) {
	const ofKind, ofArity, ofRange = 1, 2, 3
	faulty := []api.Node{{Op: 99}, see(), see(s(99))}
	wrong := map[int]api.Errno{ofKind: api.ErrKind, ofArity: api.ErrArity, ofRange: api.ErrRange}
	branches := map[api.Errno]api.Branch{api.ErrKind: {Kind: 3}, api.ErrArity: ofCon(3, 0, 0), api.ErrRange: ofNum(0, 0)}
	for _, first := range []int{ofKind, ofArity, ofRange} {
		e := wrong[first]
		for _, then := range []int{ofKind, ofArity, ofRange} {
			for _, n := range []api.Node{
				choice(first, orElse(then)), choice(first, branches[wrong[then]]), choice(0, orElse(first), orElse(then)), choice(0, ofCon(0, 0, first), branches[wrong[then]]), choice(0, branches[e], orElse(then)), choice(0, branches[e], branches[wrong[then]]), choice(0, orElse(0), ofNum(2, first), branches[wrong[then]]),
			} {
				wantFault(t, program(append(slices.Clone(faulty), n)...), e, aMain)
				// As well where the fault stands deeper than what is behind it.
				deeper := append(slices.Clone(faulty), choice(0, orElse(0), ofNum(3, first)), choice(4, orElse(then)), let(5, clo(aRest)), n, choice(0, orElse(6), orElse(then)))
				wantFault(t, program(deeper...), e, aMain)
			}
		}
	}
	both := ofCon(3, 0, 1)
	wantFault(t, program(api.Node{Op: 99}, choice(0, both)), api.ErrArity, aMain)
	both.N = 9
	wantFault(t, program(api.Node{Op: 99}, choice(0, both)), api.ErrRange, aMain)
	both.Kind = 9
	wantFault(t, program(api.Node{Op: 99}, choice(9, both)), api.ErrRange, aMain)
	// What is asked of a node by itself goes ahead of what it hangs on.
	n := choice(1, orElse(1))
	n.Args = []api.Atom{s(0)}
	wantFault(t, program(api.Node{Op: 99}, n), api.ErrRange, aMain)
	n.Op, n.Clos = api.NLet, []api.Clo{clo(9)}
	wantFault(t, program(api.Node{Op: 99}, n), api.ErrRange, aMain)
}

// Of the order in which a node is asked: there, its Op, its atoms, by its Op.
func TestP141NodeOrder(t *testing.T) {
	for _, x := range []struct {
		n api.Node
		e api.Errno
	}{
		{api.Node{Op: 9, Args: []api.Atom{s(9)}}, api.ErrKind}, {api.Node{Op: 0, F: s(9), Args: []api.Atom{s(9)}}, api.ErrKind}, {con(3, s(0), s(9)), api.ErrRange}, {op(0, s(9)), api.ErrRange}, {weak(s(9)), api.ErrRange}, {see(s(0), g(9)), api.ErrRange},
		{con(9, s(0)), api.ErrRange}, {op(-1, s(0)), api.ErrRange}, {api.Node{Op: api.NLet, Args: []api.Atom{s(9)}, Clos: []api.Clo{clo(aRest, 0)}}, api.ErrRange},
	} {
		wantNode(t, 1, x.n, x.e)
	}
}

// What a node hangs on stands ahead of it, however often it was right elsewhere.
func TestP141Ahead(t *testing.T) {
	for at := range 8 {
		for _, n := range []api.Node{let(at), choice(at), choice(0, orElse(at)), choice(0, ofNum(2, 0), ofCon(3, 1, at))} {
			p := program(con(0), con(1), con(2), n, con(0), con(1), choice(4, orElse(5), orElse(6), orElse(4)))
			if at < 4 {
				wantRight(t, p)
			} else {
				wantFault(t, p, api.ErrRange, aMain)
			}
		}
	}
	p := program(con(0), choice(1, orElse(1)))
	p.Codes[aRest].Node, p.Nodes[0] = 0, choice(1)
	wantFault(t, p, api.ErrRange, aFun)
	p = program(choice(0, orElse(2)), con(0))
	wantRight(t, p)
	p.Codes[aRest].Node = 1
	wantFault(t, p, api.ErrRange, aRest)
}

// A node that was right in some slots is asked again in fewer, and in more.
func TestP141Again(t *testing.T) {
	node := app(s(1))
	wantRight(t, program(node, choice(0, ofCon(4, 2, 1), ofCon(4, 2, 1))))
	wantFault(t, program(node, choice(0, ofCon(4, 2, 1), ofCon(3, 1, 1))), api.ErrRange, aMain)
	wantFault(t, program(node, choice(0, ofCon(4, 2, 1), orElse(1))), api.ErrRange, aMain)
	wantFault(t, program(node, choice(0, ofCon(4, 2, 1), ofNum(2, 1))), api.ErrRange, aMain)
	// And so where it hangs on another that was.
	wantRight(t, program(node, let(1, clo(aRest)), choice(0, ofCon(4, 2, 1), ofCon(3, 1, 2))))
	wantFault(t, program(node, let(1, clo(aRest)), choice(0, ofCon(3, 1, 2), ofNum(2, 2))), api.ErrRange, aMain)
	wantRight(t, program(let(0, clo(aClo, 2, 0, 2)), choice(0, ofCon(4, 2, 1))))
	wantFault(t, program(let(0, clo(aClo, 2, 0, 2)), choice(0, ofCon(4, 2, 1), orElse(1))), api.ErrRange, aMain)
	// By another code too.
	p := program(node, choice(0, ofCon(4, 2, 1)))
	for slots := range 4 {
		p.Codes[aRest] = api.Code{Args: slots, Node: 1}
		if slots >= 2 {
			wantRight(t, p)
		} else {
			wantFault(t, p, api.ErrRange, aRest)
		}
	}
}

// What no code asks may be anything.
func TestP141Unasked(t *testing.T) {
	p := program(api.Node{Op: 99}, see(s(99)), choice(99, api.Branch{Kind: 99, Node: -99, Arity: math.MinInt}, ofCon(1, math.MaxInt, 1)), let(math.MinInt, clo(math.MaxInt, math.MinInt)), choice(1, orElse(2), orElse(3)), con(0))
	wantRight(t, p)
	wantSlots(t, p, 0, 2, 4, 0)
}

func TestP142Slots(t *testing.T) {
	wantSlots(t, program(), 0, 2, 4, 0)
	wantSlots(t, program(let(0)), 0, 2, 4, 0)
	wantSlots(t, program(let(0, clo(aRest), clo(aRest))), 2, 2, 4, 0)
	wantSlots(t, program(choice(0)), 0, 2, 4, 0)
	wantSlots(t, program(choice(0, ofNum(2, 0), ofCon(0, 0, 0))), 0, 2, 4, 0)
	wantSlots(t, program(choice(0, orElse(0))), 1, 2, 4, 0)
	wantSlots(t, program(choice(0, orElse(0), ofCon(4, 2, 0), ofCon(3, 1, 0))), 2, 2, 4, 0)
	// Along the way that has most, not by what all add.
	wantSlots(t, program(choice(0, ofCon(4, 2, 0)), choice(1, orElse(0))), 2, 2, 4, 0)
	wantSlots(t, program(choice(0, ofCon(4, 2, 0)), choice(0, orElse(1))), 3, 2, 4, 0)
	wantSlots(t, program(choice(0, ofCon(4, 2, 0)), let(1, clo(aRest), clo(aRest), clo(aRest)), choice(1, orElse(2), ofNum(2, 1))), 6, 2, 4, 0)
	// Of each code from its own, whichever others ask the node.
	p := program(choice(0, ofCon(4, 2, 0)), let(1, clo(aRest)))
	for i := range p.Codes {
		p.Codes[i].Node = 2
	}
	wantSlots(t, p, 3, 5, 7, 3)
	p.Codes[aFun].Node = 0
	p.Codes[aClo].Node = 1
	wantSlots(t, p, 3, 2, 6, 3)
	p.Codes[aClo] = api.Code{Free: 64, Args: 64, Node: 2}
	wantSlots(t, p, 3, 2, 131, 3)
	for _, turn := range []func(p *api.Program){
		func(p *api.Program) { p.Main = -1 }, func(p *api.Program) { p.Codes[3].Node = 9 }, func(p *api.Program) { p.Codes[3].Args = 65 }, func(p *api.Program) { p.Nodes[1].Branches[0].Arity = 1 }, func(p *api.Program) { p.Nodes[0].F.N = 4 },
	} {
		p := program(choice(0, ofCon(4, 2, 0)))
		turn(&p)
		wantSlots(t, p)
	}
	wantSlots(t, api.Program{})
}

// Nodes that hang on each other as deep as there are nodes; and such that the
// ways along them, or the counts of slots in which they are asked, are many.
func TestP141Large(t *testing.T) {
	const many = 100000
	for i, x := range []struct {
		at int // which code's asking node 0 in too few slots is the first
		of func(at int) api.Node
	}{
		{aMain, func(at int) api.Node { return let(at) }},
		{aRest, func(at int) api.Node { return let(at, clo(aRest)) }},
		{aMain, func(at int) api.Node { return choice(at) }},
		{aMain, func(at int) api.Node { return choice(at, orElse(0)) }},
		{aMain, func(at int) api.Node { return choice(0, orElse(at)) }},
		{aMain, func(at int) api.Node { return choice(at, orElse(at), ofNum(2, at), ofCon(4, 2, at)) }},
		{aMain, func(at int) api.Node { return choice(max(0, at-1), ofCon(4, 2, at), orElse(at)) }},
		{aRest, func(at int) api.Node {
			slot := many - 1 - at
			return let(at, slices.Repeat([]api.Clo{clo(aClo, slot, 0, slot)}, 1+at%3)...)
		}},
	} {
		var nodes []api.Node
		for at := range many {
			nodes = append(nodes, x.of(at))
		}
		p := program(nodes...)
		wantRight(t, p)
		p.Nodes[0] = see(s(0))
		wantFault(t, p, api.ErrRange, x.at)
		p.Nodes[0] = api.Node{Op: 8}
		if e, at := code.Check(p); e != api.ErrKind || at != aMain {
			t.Errorf("%d: Check answers %d, %d", i, e, at)
		}
	}
	p := program(choice(0, slices.Repeat([]api.Branch{orElse(0), ofCon(4, 2, 0)}, many)...), let(1, slices.Repeat([]api.Clo{clo(aClo, 0, many-1, 5)}, many)...))
	wantRight(t, p)
	wantSlots(t, p, many+2, 2, 4, 0)
}

// Whatever is handed in, no call panics, and Check says what Slots does.
func TestP141Wrong(t *testing.T) {
	numbers := []int{math.MinInt, -1, 0, 1, 2, 5, 64, 65, math.MaxInt}
	for _, a := range numbers {
		for _, b := range numbers {
			for kind := -1; kind < 9; kind++ {
				for of := -1; of < 4; of++ {
					n := api.Node{Op: kind, N: a, F: s(b), Args: []api.Atom{s(a), g(b)}, Kid: b, Clos: []api.Clo{clo(a, b), clo(b, a, a)}, Branches: []api.Branch{{Kind: of, N: a, Arity: b, Node: a}, {Kind: of, N: b, Arity: a, Node: b}}}
					p := program(n, choice(1, api.Branch{Kind: of, N: 3, Arity: b, Node: 1}))
					p.Codes[aRest] = api.Code{Free: a, Args: b, Node: 2}
					p.Globals[3].Code = b
					e, _ := code.Check(p)
					if got := code.Slots(p); (e == api.OK) != (len(got) == len(p.Codes)) {
						t.Errorf("Check answers %d, Slots %v", e, got)
					}
					code.Print(p)
				}
			}
		}
	}
	code.Print(api.Program{Nodes: make([]api.Node, 3), Main: -1, Codes: make([]api.Code, 2), Cons: make([]api.Decl, 2), Globals: make([]api.Global, 2)})
}

// What is handed in is not changed, its spare room neither, and the same is
// answered of it again, whatever was asked between; answers are new memory.
func TestP141Unchanged(t *testing.T) {
	fresh := func() api.Program {
		p := program(con(0), let(1, clo(aClo, 1, 0, 1), clo(aRest)), choice(1, orElse(2), ofCon(4, 2, 1), ofNum(3, 1)), see(s(99)))
		p.Codes[aMain].Node = 3
		p.Nodes = append(p.Nodes, api.Node{Op: 77})[:len(p.Nodes)]
		p.Codes = append(p.Codes, api.Code{Name: "spare"})[:len(p.Codes)]
		p.Nodes[2].Clos[0].Caps = append(p.Nodes[2].Clos[0].Caps, 77)[:3]
		return p
	}
	p := fresh()
	text, slots := code.Print(p), code.Slots(p)
	for i := range 3 {
		code.Check(program(api.Node{Op: i * 9}))
		code.Slots(program(let(0)))
		wantRight(t, p)
		again := code.Slots(p)
		if !slices.Equal(again, slots) || code.Print(p) != text {
			t.Error(again, code.Print(p))
		}
		clear(again[:cap(again)])
	}
	if !reflect.DeepEqual(p, fresh()) || p.Nodes[:6][5].Op != 77 || p.Codes[:5][4].Name != "spare" || p.Nodes[2].Clos[0].Caps[:4][3] != 77 {
		t.Error("what was handed in was changed")
	}
	// Empty lists may be nil or empty.
	for i := range p.Nodes {
		n := &p.Nodes[i]
		n.Args = append([]api.Atom{}, n.Args...)
		n.Clos = append([]api.Clo{}, n.Clos...)
		n.Branches = append([]api.Branch{}, n.Branches...)
		for k := range n.Clos {
			n.Clos[k].Caps = append([]int{}, n.Clos[k].Caps...)
		}
	}
	wantRight(t, p)
	if code.Print(p) != text {
		t.Error(code.Print(p))
	}
}

func wantText(t *testing.T, p api.Program, text string) {
	t.Helper()
	if got := code.Print(p); got != text {
		t.Errorf("Print answers\n%s; want\n%s", got, text)
	}
}

const head = "cons False 0 True 0 Nothing 0 Just 1 Pair 2\nmain 0\nglobal 0 code 0\nglobal 1 code 1\nglobal 2 number 7\nglobal 3 number 0f8000000000000000\n"

func TestP143Nodes(t *testing.T) {
	for text, n := range map[string]api.Node{
		"app s0": app(s(0)), "app g1 s0 g12 s345": app(g(1), s(0), g(12), s(345)), "con 0": con(0), "con 4 s1 g0": con(4, s(1), g(0)), "op 0 s0 s1": op(0, s(0), s(1)), "op 14 g3": op(14, g(3)), "weak s2 g1 s0": weak(s(2), g(1), s(0)), "see s10": see(s(10)),
		"let 0": let(0), "let 0 3:": let(0, clo(3)), "let 0 2:0,11,2 3: 10:7": let(0, clo(2, 0, 11, 2), clo(3), clo(10, 7)), "case 0": choice(0), "case 0 else 0 0 0": choice(0, orElse(0)), "case 0 con 4 2 0 num 3 0 0 else 0 0 0 con 1 0 0": choice(0, ofCon(4, 2, 0), ofNum(3, 0), orElse(0), ofCon(1, 0, 0)),
		"case 0 else 5 -6 0 num 3 8 0": choice(0, api.Branch{Kind: api.AElse, N: 5, Arity: -6}, api.Branch{Kind: api.ANum, N: 3, Arity: 8}),
	} {
		wantText(t, program(n), head+"code 0 0 0 1 main\ncode 1 0 2 0 f\ncode 2 3 1 0\ncode 3 0 0 0\nnode 0 app g0\nnode 1 "+text+"\n")
		// A node that no code asks too; and what its Op doesn't tell of plays no
		// part.
		p := program(n)
		p.Codes[aMain].Node = 0
		if n.Op != api.NApp {
			p.Nodes[1].F = g(5)
		}
		if n.Op != api.NCon && n.Op != api.NOp {
			p.Nodes[1].N = 99
		}
		if n.Op != api.NLet {
			p.Nodes[1].Clos = []api.Clo{clo(3)}
		}
		if n.Op != api.NCase {
			p.Nodes[1].Branches = []api.Branch{orElse(0)}
		}
		wantText(t, p, head+"code 0 0 0 0 main\ncode 1 0 2 0 f\ncode 2 3 1 0\ncode 3 0 0 0\nnode 0 app g0\nnode 1 "+text+"\n")
	}
}

func TestP143Lines(t *testing.T) {
	least := api.Program{Globals: []api.Global{{}}, Codes: []api.Code{{}}, Nodes: []api.Node{app(g(0))}}
	wantText(t, least, "cons\nmain 0\nglobal 0 code 0\ncode 0 0 0 0\nnode 0 app g0\n")
	p := api.Program{
		Cons: []api.Decl{{Name: "A", Arity: 24}, {Name: "Long_name_1", Arity: 10}},
		Globals: []api.Global{
			number(0), number(1), number(1<<63 - 1), number(1 << 63), number(math.MaxUint64), {Code: 10, Num: api.Num{Float: true, Bits: 5}}, float(0), float(1), float(0x7ff8000000000000), float(0x0123456789abcdef), float(math.MaxUint64), float(0xf << 60),
		},
		Main: 5,
	}
	for i := range 11 {
		p.Codes = append(p.Codes, api.Code{Name: []string{"", "x y", "main", "é\n"}[i%4], Node: i})
		p.Nodes = append(p.Nodes, con(1, slices.Repeat([]api.Atom{g(11)}, i)...))
	}
	p.Codes[3].Free, p.Codes[4].Args = 64, 63
	text := "cons A 24 Long_name_1 10\nmain 5\nglobal 0 number 0\nglobal 1 number 1\nglobal 2 number 9223372036854775807\nglobal 3 number -9223372036854775808\nglobal 4 number -1\nglobal 5 code 10\nglobal 6 number 0f0000000000000000\nglobal 7 number 0f0000000000000001\nglobal 8 number 0f7ff8000000000000\nglobal 9 number 0f0123456789abcdef\nglobal 10 number 0fffffffffffffffff\nglobal 11 number 0ff000000000000000\n"
	text += "code 0 0 0 0\ncode 1 0 0 1 x y\ncode 2 0 0 2 main\ncode 3 64 0 3 é\n\ncode 4 0 63 4\ncode 5 0 0 5 x y\ncode 6 0 0 6 main\ncode 7 0 0 7 é\n\ncode 8 0 0 8\ncode 9 0 0 9 x y\ncode 10 0 0 10 main\n"
	for i := range 11 {
		text += "node " + strconv.Itoa(i) + " con 1"
		for range i {
			text += " g11"
		}
		text += "\n"
	}
	wantText(t, p, text)
}
