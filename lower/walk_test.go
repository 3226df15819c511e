package lower_test

import (
	"slices"
	"strconv"
	"strings"
	"testing"

	"treadwheel/api"
	"treadwheel/num"
	"treadwheel/scope"
	"treadwheel/show"
)

// What a program is to be in two ways that hang on none of its layer's own: a
// walk along it meets codes, nodes, numbers and slots in their order, and what
// it says, read back, is what the module says. A let's closures that bear no
// name are those of atoms, so binds of the empty name aren't for these.

// walk is how many were met of what is to be met in order.
type walk struct {
	t       *testing.T
	p       api.Program
	source  string
	codes   int
	nodes   int
	globals int
}

// frame is a code's: how many of its free slots were met.
type frame struct {
	free, met int
}

func (w *walk) expect(is bool, what string, of ...int) {
	w.t.Helper()
	if !is {
		w.t.Errorf("Lower(%.600q): %s %v", w.source, what, of)
	}
}

// wantOrder walks along a program, code by code as they are called for.
func wantOrder(t *testing.T, m api.Module, p api.Program) {
	t.Helper()
	w := &walk{t: t, p: p, source: show.Module(m), codes: len(m.Binds), globals: len(m.Binds)}
	for i := range m.Binds {
		w.expect(p.Globals[i].Code == i && p.Codes[i].Free == 0, "not a bind's", i)
		w.code(i)
	}
	w.expect(w.codes == len(p.Codes) && w.nodes == len(p.Nodes) && w.globals == len(p.Globals), "not met: all behind", w.codes, w.nodes, w.globals)
	met := map[api.Global]bool{}
	for i, g := range p.Globals {
		w.expect(!met[g], "twice: global", i)
		met[g] = true
	}
}

func (w *walk) code(at int) {
	c := w.p.Codes[at]
	f := &frame{free: c.Free}
	w.node(f, c.Node, c.Free+c.Args)
	w.expect(f.met == c.Free, "free slots that aren't asked for, of code", at, c.Free, f.met)
}

func (w *walk) done(node int) {
	w.expect(node == w.nodes, "not in order: node", node, w.nodes)
	w.nodes++
}

func (w *walk) slot(f *frame, slot, count int) {
	w.expect(slot >= 0 && slot < count, "not there: slot", slot, count)
	if slot < f.free {
		w.expect(slot <= f.met, "not in order: free slot", slot, f.met)
		f.met = max(f.met, slot+1)
	}
}

func (w *walk) global(g int) {
	w.expect(g >= 0 && g <= w.globals, "not in order: global", g, w.globals)
	w.globals = max(w.globals, g+1)
}

func (w *walk) clo(f *frame, c api.Clo, count int) {
	w.expect(c.Code == w.codes, "not in order: code", c.Code, w.codes)
	w.codes++
	w.expect(len(c.Caps) == w.p.Codes[c.Code].Free, "not as many as are free: slots of code", c.Code)
	for _, x := range c.Caps {
		w.slot(f, x, count)
	}
	w.code(c.Code)
}

// atoms: those of a node; of the slots behind count each is the next closure's.
func (w *walk) atoms(f *frame, node, count int, clos []api.Clo) {
	n := w.p.Nodes[node]
	all := n.Args
	if n.Op == api.NApp {
		all = append([]api.Atom{n.F}, n.Args...)
	}
	made := 0
	for _, a := range all {
		switch {
		case a.Global:
			w.global(a.N)
		case made < len(clos) && a.N == count+made:
			w.clo(f, clos[made], count)
			made++
		default:
			w.slot(f, a.N, count)
		}
	}
	w.expect(made == len(clos), "closures that aren't asked for, at node", node)
	w.done(node)
}

func (w *walk) node(f *frame, at, count int) {
	n := w.p.Nodes[at]
	switch {
	case isOfAtoms(w.p, n):
		w.atoms(f, n.Kid, count, n.Clos)
		w.done(at)
	case n.Op == api.NLet:
		count += len(n.Clos)
		for _, c := range n.Clos {
			w.clo(f, c, count)
		}
		w.node(f, n.Kid, count)
		w.done(at)
	case n.Op == api.NCase:
		w.node(f, n.Kid, count)
		for _, b := range n.Branches {
			w.branch(f, b, count)
		}
		w.done(at)
	default:
		w.atoms(f, at, count, nil)
	}
}

func (w *walk) branch(f *frame, b api.Branch, count int) {
	switch b.Kind {
	case api.ACon:
		count += b.Arity
	case api.ANum:
		w.global(b.N)
		w.expect(w.p.Globals[b.N].Code == -1, "no number: global", b.N)
	case api.AElse:
		count++
	}
	w.node(f, b.Node, count)
}

// isOfAtoms: whether it is a let of closures that atoms need.
func isOfAtoms(p api.Program, n api.Node) bool {
	return n.Op == api.NLet && len(n.Clos) > 0 && p.Codes[n.Clos[0].Code].Name == ""
}

// What a module and a program say: names are told by how many were bound around
// them, and each value that is asked for by a name.

var signs = all("+", "-", "*", "/", "%", "==", "<", "+.", "-.", "*.", "/.", "==.", "<.")

func said(word string, parts ...string) string {
	return "(" + strings.Join(append([]string{word}, parts...), " ") + ")"
}

func local(depth int) string { return "v" + strconv.Itoa(depth) }

func numText(n api.Num) string {
	if n.Float {
		return "f" + strconv.FormatUint(n.Bits, 16)
	}
	return num.Print(n)
}

// source is a module's side.
type source struct {
	cons    []api.Decl
	globals map[string]int
}

type env map[string]string

func (e env) with(names []string, depth int) env {
	inner := env{}
	for x, s := range e {
		inner[x] = s
	}
	for i, x := range names {
		inner[x] = local(depth + i)
	}
	return inner
}

func (s source) con(name string) string {
	return strconv.Itoa(slices.IndexFunc(s.cons, func(d api.Decl) bool { return d.Name == name }))
}

func (s source) all(list []api.Expr, names env, depth int) []string {
	var parts []string
	for _, e := range list {
		parts = append(parts, s.expr(e, names, depth))
	}
	return parts
}

func (s source) fun(word string, params []string, body api.Expr, names env, depth int) string {
	return said(word, strconv.Itoa(len(params)), s.expr(body, names.with(params, depth), depth+len(params)))
}

func (s source) expr(e api.Expr, names env, depth int) string {
	switch e.Kind {
	case api.EVar:
		if x, ok := names[e.Name]; ok {
			return x
		}
		return "@" + strconv.Itoa(s.globals[e.Name])
	case api.ENum:
		return numText(e.Num)
	case api.ECon:
		return said("con", append(all(s.con(e.Name)), s.all(e.Kids, names, depth)...)...)
	case api.EApp:
		return said("app", s.all(e.Kids, names, depth)...)
	case api.EOp:
		return s.op(e, names, depth)
	case api.ELet:
		var bound, parts []string
		for _, b := range e.Binds {
			bound = append(bound, b.Name)
		}
		names, depth = names.with(bound, depth), depth+len(bound)
		for _, b := range e.Binds {
			parts = append(parts, said(b.Name, s.fun("fun", b.Params, b.Body, names, depth)))
		}
		return said("let", append(parts, s.expr(e.Kids[0], names, depth))...)
	case api.ECase:
		parts := all(s.expr(e.Kids[0], names, depth))
		for _, a := range e.Alts {
			parts = append(parts, s.alt(a, names, depth))
		}
		return said("case", parts...)
	}
	return s.fun("lam", e.Params, e.Kids[0], names, depth)
}

func (s source) alt(a api.Alt, names env, depth int) string {
	switch a.Kind {
	case api.ACon:
		return said("con", s.con(a.Name), s.fun("with", a.Names, a.Body, names, depth))
	case api.ANum:
		return said("num", numText(a.Num), s.expr(a.Body, names, depth))
	}
	return said("else", s.expr(a.Body, names.with(all(a.Name), depth), depth+1))
}

func (s source) op(e api.Expr, names env, depth int) string {
	value := func(i int, then string) string {
		return said("case", s.expr(e.Kids[i], names, depth+i), said("else", then))
	}
	switch e.Name {
	case "weak":
		return said("weak", s.all(e.Kids, names, depth)...)
	case "seq":
		return value(0, s.expr(e.Kids[1], names, depth+1))
	case "deref":
		return value(0, said("see", local(depth)))
	case "float":
		return value(0, said("op", "13", local(depth)))
	case "trunc":
		return value(0, said("op", "14", local(depth)))
	}
	return value(0, value(1, said("op", strconv.Itoa(slices.Index(signs, e.Name)), local(depth), local(depth+1))))
}

// target is a program's side: what its slots are called is told along with it.
type target struct {
	api.Program
}

func (p target) atom(a api.Atom, slots []string) string {
	switch {
	case !a.Global:
		return slots[a.N]
	case p.Globals[a.N].Code == -1:
		return numText(p.Globals[a.N].Num)
	}
	return "@" + strconv.Itoa(p.Globals[a.N].Code)
}

func (p target) atoms(list []api.Atom, slots []string) []string {
	var parts []string
	for _, a := range list {
		parts = append(parts, p.atom(a, slots))
	}
	return parts
}

// more is slots with as many behind as are bound.
func more(slots []string, n, depth int) []string {
	slots = slices.Clone(slots)
	for i := range n {
		slots = append(slots, local(depth+i))
	}
	return slots
}

func (p target) body(c api.Code, slots []string, depth int) string {
	return p.node(c.Node, more(slots, c.Args, depth), depth+c.Args)
}

func (p target) captured(c api.Clo, slots []string) []string {
	var names []string
	for _, x := range c.Caps {
		names = append(names, slots[x])
	}
	return names
}

func (p target) node(at int, slots []string, depth int) string {
	n := p.Nodes[at]
	args := p.atoms(n.Args, slots)
	switch {
	case n.Op == api.NApp && len(args) == 0:
		return p.atom(n.F, slots)
	case n.Op == api.NApp:
		return said("app", append(all(p.atom(n.F, slots)), args...)...)
	case n.Op == api.NCon:
		return said("con", append(all(strconv.Itoa(n.N)), args...)...)
	case n.Op == api.NOp:
		return said("op", append(all(strconv.Itoa(n.N)), args...)...)
	case n.Op == api.NWeak:
		return said("weak", args...)
	case n.Op == api.NSee:
		return said("see", args...)
	case isOfAtoms(p.Program, n):
		inner := slices.Clone(slots)
		for _, c := range n.Clos {
			inner = append(inner, p.closure(c, slots, depth))
		}
		return p.node(n.Kid, inner, depth)
	case n.Op == api.NLet:
		return p.let(n, slots, depth)
	}
	return p.choice(n, slots, depth)
}

func (p target) closure(c api.Clo, slots []string, depth int) string {
	code := p.Codes[c.Code]
	body := p.body(code, p.captured(c, slots), depth)
	if code.Args == 0 {
		return body
	}
	return said("lam", strconv.Itoa(code.Args), body)
}

func (p target) let(n api.Node, slots []string, depth int) string {
	slots, depth = more(slots, len(n.Clos), depth), depth+len(n.Clos)
	var parts []string
	for _, c := range n.Clos {
		code := p.Codes[c.Code]
		parts = append(parts, said(code.Name, said("fun", strconv.Itoa(code.Args), p.body(code, p.captured(c, slots), depth))))
	}
	return said("let", append(parts, p.node(n.Kid, slots, depth))...)
}

func (p target) choice(n api.Node, slots []string, depth int) string {
	parts := all(p.node(n.Kid, slots, depth))
	for _, b := range n.Branches {
		switch b.Kind {
		case api.ACon:
			body := p.node(b.Node, more(slots, b.Arity, depth), depth+b.Arity)
			parts = append(parts, said("con", strconv.Itoa(b.N), said("with", strconv.Itoa(b.Arity), body)))
		case api.ANum:
			parts = append(parts, said("num", numText(p.Globals[b.N].Num), p.node(b.Node, slots, depth)))
		case api.AElse:
			parts = append(parts, said("else", p.node(b.Node, more(slots, 1, depth), depth+1)))
		}
	}
	return said("case", parts...)
}

// wantSaid reads a program back.
func wantSaid(t *testing.T, m api.Module, p api.Program) {
	t.Helper()
	s := source{cons: scope.Cons(m), globals: map[string]int{}}
	for i, b := range m.Binds {
		s.globals[b.Name] = i
	}
	for i, b := range m.Binds {
		c := p.Codes[i]
		got := said(c.Name, said("fun", strconv.Itoa(c.Args), target{p}.body(c, nil, 0)))
		if of := said(b.Name, s.fun("fun", b.Params, b.Body, env{}, 0)); got != of {
			t.Errorf("Lower(%.2000q) says\n %.2000s; want\n %.2000s", show.Module(m), got, of)
		}
	}
}

// wantWalked holds a module's program against both ways.
func wantWalked(t *testing.T, m api.Module) api.Program {
	t.Helper()
	p := lowered(t, m)
	wantOrder(t, m, p)
	wantSaid(t, m, p)
	return p
}
