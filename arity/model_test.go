package arity_test

import (
	"slices"
	"strconv"
	"testing"

	"treadwheel/api"
	"treadwheel/arity"
	"treadwheel/parse"
	"treadwheel/scope"
	"treadwheel/show"
)

// The chapter's words, one by one: all faults of a module that has none of
// layer 10, in their order.

type found struct {
	e    api.Errno
	name string
}

// model is the faults that were found so far, and the constructors.
type model struct {
	faults []found
	cons   []api.Decl
}

func (m *model) add(is bool, e api.Errno, name string) {
	if is {
		m.faults = append(m.faults, found{e, name})
	}
}

func (m *model) arity(name string) int {
	at := slices.IndexFunc(m.cons, func(d api.Decl) bool { return d.Name == name })
	return m.cons[at].Arity
}

func (m *model) bind(b api.Bind) {
	m.add(len(b.Params) >= 25, api.ErrBig, b.Name)
	m.expr(b.Body)
}

func (m *model) kids(e api.Expr) {
	for _, k := range e.Kids {
		m.expr(k)
	}
}

func (m *model) expr(e api.Expr) {
	switch e.Kind {
	case api.ECon:
		m.add(len(e.Kids) != m.arity(e.Name), api.ErrArity, e.Name)
		m.kids(e)
	case api.EOp:
		switch e.Name {
		case "weak":
			m.add(len(e.Kids) != 3, api.ErrArity, "weak")
		case "seq":
			m.add(len(e.Kids) != 2, api.ErrArity, "seq")
		case "deref", "float", "trunc":
			m.add(len(e.Kids) != 1, api.ErrArity, e.Name)
		}
		m.kids(e)
	case api.EApp:
		m.add(len(e.Kids) >= 26, api.ErrBig, "")
		m.kids(e)
	case api.ELet:
		for _, b := range e.Binds {
			m.bind(b)
		}
		m.kids(e)
	case api.ECase:
		m.kids(e)
		for _, a := range e.Alts {
			m.add(a.Kind == api.ACon && len(a.Names) != m.arity(a.Name), api.ErrArity, a.Name)
			m.expr(a.Body)
		}
	case api.ELam:
		m.add(len(e.Params) >= 25, api.ErrBig, e.Params[0])
		m.kids(e)
	}
}

// faultsOf is all faults of a module, in their order; of one that has faults of
// layer 10, the first of these.
func faultsOf(x api.Module) []found {
	if e, name := scope.Check(x); e != api.OK {
		return []found{{e, name}}
	}
	m := &model{cons: append([]api.Decl{{Name: "False"}, {Name: "True"}, {Name: "Nothing"}, {Name: "Just", Arity: 1}}, x.Cons...)}
	for _, b := range x.Binds {
		m.add(b.Name == "main" && len(b.Params) > 0, api.ErrArity, "main")
	}
	for _, b := range x.Binds {
		m.bind(b)
	}
	return m.faults
}

// wantModel holds Check against the model, and answers the first fault.
func wantModel(t *testing.T, m api.Module) found {
	t.Helper()
	want := found{e: api.OK}
	if faults := faultsOf(m); len(faults) > 0 {
		want = faults[0]
	}
	if e, name := arity.Check(m); e != want.e || name != want.name {
		t.Errorf("Check(%.2000q) = %d, %q; want %d, %q", show.Module(m), e, name, want.e, want.name)
	}
	return want
}

// draw makes modules such as layer 8 tells, in most of whose places there are
// as many as are asked.
type draw struct {
	seed uint64
	soon int // in one of so many places there aren't
}

func (d *draw) below(n int) int {
	d.seed = d.seed*6364136223846793005 + 1442695040888963407
	return int(d.seed >> 33 % uint64(n))
}

func (d *draw) errs() bool { return d.below(d.soon) == 0 }

// count is a number, or one beside it.
func (d *draw) count(n int) int {
	if !d.errs() {
		return n
	}
	if n == 0 || d.below(2) == 0 {
		return n + 1
	}
	return n - 1
}

// few is one of a few, or as many as may be, or one more.
func (d *draw) few(least, most int) int {
	if d.errs() {
		return most + 1
	}
	if d.below(12) == 0 {
		return most - d.below(2)
	}
	return least + d.below(3)
}

// module is one of at most four globals, one of which is main.
func (d *draw) module() api.Module {
	m := api.Module{Cons: []api.Decl{{Name: "False"}, {Name: "True"}, {Name: "Nothing"}, {Name: "Just", Arity: 1}}}
	for i := range d.below(4) {
		m.Cons = append(m.Cons, api.Decl{Name: "C" + strconv.Itoa(i), Arity: []int{0, 1, 2, 3, d.below(25)}[d.below(5)]})
	}
	globals := []string{"f", "g", "h"}[:d.below(4)]
	for _, name := range slices.Insert(slices.Clone(globals), d.below(len(globals)+1), "main") {
		params := names(d.few(0, 24))
		if name == "main" {
			params = names(d.count(0))
		}
		m.Binds = append(m.Binds, bind(name, params, d.expr(m.Cons, 4, append(slices.Clone(globals), params...))))
	}
	m.Cons = m.Cons[4:]
	return m
}

func (d *draw) variable(env []string) api.Expr {
	if len(env) == 0 {
		return v("main")
	}
	if d.errs() && d.errs() {
		return v("q")
	}
	return v(env[d.below(len(env))])
}

func (d *draw) kids(n int, cons []api.Decl, size int, env []string) []api.Expr {
	var kids []api.Expr
	if n > 4 {
		size = min(size, 1)
	}
	for range n {
		kids = append(kids, d.expr(cons, size, env))
	}
	return kids
}

func (d *draw) expr(cons []api.Decl, size int, env []string) api.Expr {
	if size == 0 {
		c := cons[d.below(len(cons))]
		return []api.Expr{d.variable(env), d.variable(env), num(int64(d.below(9))), con(c.Name, nums(d.count(c.Arity))...)}[d.below(4)]
	}
	size--
	switch d.below(8) {
	case 0:
		c := cons[d.below(len(cons))]
		return con(c.Name, d.kids(d.count(c.Arity), cons, size, env)...)
	case 1:
		return app(d.kids(d.few(2, 25), cons, size, env)...)
	case 2:
		name := []string{"weak", "seq", "deref", "float", "trunc"}[d.below(5)]
		return op(name, d.kids(d.count(takes[name]), cons, size, env)...)
	case 3:
		return op([]string{"+", "==.", "<"}[d.below(3)], d.kids(2, cons, size, env)...)
	case 4, 5:
		return d.let(cons, size, env)
	case 6:
		var alts []api.Alt
		for range d.below(4) {
			alts = append(alts, d.alt(cons, size, env))
		}
		return choice(d.expr(cons, size, env), alts...)
	}
	params := names(d.few(1, 24))
	return lam(params, d.expr(cons, size, append(slices.Clone(env), params...)))
}

func (d *draw) let(cons []api.Decl, size int, env []string) api.Expr {
	local := []string{"a", "main", "c"}[:1+d.below(3)]
	env = append(slices.Clone(env), local...)
	var binds []api.Bind
	for _, name := range local {
		params := names(d.few(0, 24))
		binds = append(binds, bind(name, params, d.expr(cons, size, append(slices.Clone(env), params...))))
	}
	return let(d.expr(cons, size, env), binds...)
}

func (d *draw) alt(cons []api.Decl, size int, env []string) api.Alt {
	switch d.below(4) {
	case 0:
		return numAlt(int64(d.below(9)), d.expr(cons, size, env))
	case 1:
		return elseAlt("y", d.expr(cons, size, append(slices.Clone(env), "y")))
	}
	c := cons[d.below(len(cons))]
	bound := names(d.count(c.Arity))
	return conAlt(c.Name, bound, d.expr(cons, size, append(slices.Clone(env), bound...)))
}

// TestP111Drawn holds drawn modules against the model, and, as long as they are
// no larger than a source may be, as their sources tell them.
func TestP111Drawn(t *testing.T) {
	counts := map[api.Errno]int{}
	names := map[string]int{}
	for _, soon := range []int{4, 30, 60, 400} {
		d := &draw{seed: uint64(soon), soon: soon}
		for range 1500 {
			m := d.module()
			f := wantModel(t, m)
			counts[f.e]++
			names[f.name]++
			if told, e, _ := parse.Parse(show.Module(m)); e == api.OK {
				wantModel(t, told)
			}
			if t.Failed() {
				return
			}
		}
	}
	if counts[api.OK] < 1500 || counts[api.ErrArity] < 500 || counts[api.ErrBig] < 500 || counts[api.ErrNone] < 50 {
		t.Errorf("%v: too few to tell", counts)
	}
	for _, name := range []string{"main", "f", "g", "h", "a", "c", "p0", "False", "True", "Nothing", "Just", "C0", "C1", "C2", "weak", "seq", "deref", "float", "trunc"} {
		if names[name] == 0 {
			t.Errorf("%s: none to tell", name)
		}
	}
}

// around is all that has an expression in one of its places, with as many as
// are asked or others.
func around(k api.Expr) []api.Expr {
	main := v("main")
	all := []api.Expr{
		con("True", k), con("Just", k), con("Just", k, main), con("C", k), con("C", main, k), con("C", k, k, main), op("+", k, main), op("<.", main, k),
		op("weak", k, main), op("weak", main, k, main), op("weak", main, main, main, k), op("seq", k), op("seq", main, k), op("seq", k, k, k), op("deref", k), op("deref", main, k), op("float", k), op("float", k, main), op("trunc", k), op("trunc", main, k),
		app(k, main), app(main, k), app(append(nums(24), k)...), app(append([]api.Expr{k}, nums(24)...)...), app(append(nums(25), k)...), app(append([]api.Expr{k}, nums(25)...)...),
		choice(k), choice(main, numAlt(1, k)), choice(main, elseAlt("a", k), elseAlt("a", con("Just"))), choice(k, conAlt("C", names(2), main)), choice(k, conAlt("C", names(1), main)), choice(k, conAlt("True", names(1), main), conAlt("C", names(3), main)),
		let(k, bind("a", nil, main)), let(main, bind("a", nil, main), bind("b", nil, k)), let(con("Just"), bind("a", nil, k)), let(k, bind("a", nil, op("seq"))),
	}
	for _, n := range []int{23, 24, 25, 30} {
		all = append(all, lam(names(n), k), let(k, bind("a", names(n), main)), let(main, bind("b", names(n), k)), let(main, bind("b", nil, k), bind("c", names(n), main)))
	}
	for _, n := range []int{0, 1, 2, 3} {
		all = append(all, choice(main, conAlt("C", names(n), k)), choice(main, conAlt("Just", names(n), k)), choice(main, conAlt("C", names(2), k), conAlt("True", names(n), main)))
	}
	return all
}

// TestP111Places puts faults in each place of each kind, in one of each kind.
func TestP111Places(t *testing.T) {
	some := []api.Expr{num(0), con("Nothing", num(1)), op("deref"), lam(append([]string{"z"}, names(24)...), num(1))}
	counts := map[api.Errno]int{}
	for deep := range 3 {
		var next []api.Expr
		for _, x := range some {
			f := wantModel(t, api.Module{Cons: []api.Decl{{Name: "C", Arity: 2}}, Binds: []api.Bind{bind("f", names(2), num(1)), bind("main", nil, x)}})
			counts[f.e]++
			if deep < 2 {
				next = append(next, around(x)...)
			}
		}
		if t.Failed() {
			return
		}
		some = next
	}
	if counts[api.OK] < 800 || counts[api.ErrArity] < 5000 || counts[api.ErrBig] < 2000 || len(counts) != 3 {
		t.Errorf("%v: too few to tell", counts)
	}
}

// TestP112Drawn puts a bind more behind drawn modules without faults, like each
// one of them but for its name, which is no global's.
func TestP112Drawn(t *testing.T) {
	d := &draw{seed: 5, soon: 1 << 30}
	count := 0
	for range 800 {
		m := d.module()
		want(t, m, api.OK, "")
		for _, other := range m.Binds {
			for _, name := range []string{"x", "new", "q", "", "Just", "C0", "p0", "weak"} {
				wantMore(t, m, bind(name, other.Params, other.Body), api.OK, "")
				count++
			}
		}
		if t.Failed() {
			return
		}
	}
	if count < 5000 {
		t.Errorf("%d: too few to tell", count)
	}
}
