package scope_test

import (
	"slices"
	"strconv"
	"testing"

	"treadwheel/api"
	"treadwheel/parse"
	"treadwheel/scope"
	"treadwheel/show"
)

// The chapter's words, one by one: all faults of a module in their order. Which
// names are in scope is asked along the way up from where they stand.

type found struct {
	e    api.Errno
	name string
}

// inside is what an expression stands in: names that are bound there, and what
// that stands in itself.
type inside struct {
	bound []string
	outer *inside
}

func (in *inside) holds(name string) bool {
	return in != nil && (slices.Contains(in.bound, name) || in.outer.holds(name))
}

// model is the faults that were found so far, and the constructors' names.
type model struct {
	faults []found
	cons   []string
}

func (m *model) add(e api.Errno, name string) { m.faults = append(m.faults, found{e, name}) }

func (m *model) twice(all []string) {
	for i, x := range all {
		if slices.Contains(all[:i], x) {
			m.add(api.ErrTwice, x)
		}
	}
}

func (m *model) constructor(name string) {
	if !slices.Contains(m.cons, name) {
		m.add(api.ErrNone, name)
	}
}

func (m *model) bind(b api.Bind, in *inside) {
	m.twice(b.Params)
	m.expr(b.Body, &inside{b.Params, in})
}

func (m *model) expr(x api.Expr, in *inside) {
	var let []string
	for _, b := range x.Binds {
		let = append(let, b.Name)
	}
	m.twice(let)
	m.twice(x.Params)
	if x.Kind == api.EVar && !in.holds(x.Name) {
		m.add(api.ErrNone, x.Name)
	}
	if x.Kind == api.ECon {
		m.constructor(x.Name)
	}
	in = &inside{x.Params, &inside{let, in}} // only a let has the one, only a lambda the other
	for _, b := range x.Binds {
		m.bind(b, in)
	}
	for _, k := range x.Kids {
		m.expr(k, in)
	}
	for _, a := range x.Alts {
		bound := a.Names
		if a.Kind == api.ACon {
			m.constructor(a.Name)
		}
		if a.Kind == api.AElse {
			bound = []string{a.Name}
		}
		m.twice(bound)
		m.expr(a.Body, &inside{bound, in})
	}
}

// faultsOf is all faults of a module, in their order.
func faultsOf(x api.Module) []found {
	m := &model{cons: []string{"False", "True", "Nothing", "Just"}}
	for _, c := range x.Cons {
		m.cons = append(m.cons, c.Name)
	}
	m.twice(m.cons)
	var globals []string
	for _, b := range x.Binds {
		globals = append(globals, b.Name)
	}
	m.twice(globals)
	if !slices.Contains(globals, "main") {
		m.add(api.ErrName, "main")
	}
	for _, b := range x.Binds {
		m.bind(b, &inside{bound: globals})
	}
	return m.faults
}

// wantModel holds Check against the model, and answers all faults.
func wantModel(t *testing.T, m api.Module) []found {
	t.Helper()
	faults := faultsOf(m)
	want := found{e: api.OK}
	if len(faults) > 0 {
		want = faults[0]
	}
	if e, name := scope.Check(m); e != want.e || name != want.name {
		t.Errorf("Check(%.2000q) = %d, %q; want %d, %q", show.Module(m), e, name, want.e, want.name)
	}
	return faults
}

// draw makes modules such as layer 8 tells, most of whose names are in scope.
type draw struct {
	seed uint64
	soon int // a name in so many is any
}

func (d *draw) below(n int) int {
	d.seed = d.seed*6364136223846793005 + 1442695040888963407
	return int(d.seed >> 33 % uint64(n))
}

func (d *draw) one(of ...string) string { return of[d.below(len(of))] }

func (d *draw) errs() bool { return d.below(d.soon) == 0 }

// names are such as are there once each, for the most part.
func (d *draw) names(least, spread int) []string {
	var names []string
	for range least + d.below(spread) {
		name := d.one("f", "g", "x", "y", "z", "u", "v", "w", "main")
		if !slices.Contains(names, name) || d.errs() {
			names = append(names, name)
		}
	}
	return names
}

func (d *draw) inScope(env []string) string {
	if d.errs() || len(env) == 0 {
		return d.one("f", "g", "x", "y", "z", "q")
	}
	return env[d.below(len(env))]
}

// module is one whose constructors are of the text before a name's number.
func (d *draw) module() api.Module {
	var m api.Module
	for i := range d.below(4) {
		name := "C" + strconv.Itoa(i)
		if d.errs() {
			name = d.one("C0", "Just", "True", "C1")
		}
		m.Cons = append(m.Cons, api.Decl{Name: name, Arity: d.below(25)})
	}
	globals := d.names(0, 4)
	if !d.errs() && !slices.Contains(globals, "main") {
		globals = slices.Insert(globals, d.below(len(globals)+1), "main")
	}
	for _, name := range globals {
		b := d.bind(len(m.Cons), 4, globals)
		b.Name = name
		m.Binds = append(m.Binds, b)
	}
	return m
}

// bind is one without a name.
func (d *draw) bind(cons, size int, env []string) api.Bind {
	params := d.names(0, 3)
	return api.Bind{Params: params, Body: d.expr(cons, size, slices.Concat(env, params))}
}

func (d *draw) con(cons int) string {
	if d.errs() {
		return d.one("C0", "C3", "Z")
	}
	all := []string{"True", "False", "Nothing", "Just"}
	for i := range cons {
		all = append(all, "C"+strconv.Itoa(i))
	}
	return d.one(all...)
}

func (d *draw) kids(cons, least, size int, env []string) []api.Expr {
	var kids []api.Expr
	for range least + d.below(3) {
		kids = append(kids, d.expr(cons, size, env))
	}
	return kids
}

func (d *draw) expr(cons, size int, env []string) api.Expr {
	if size == 0 {
		return []api.Expr{v(d.inScope(env)), v(d.inScope(env)), con(d.con(cons)), num(int64(d.below(9)))}[d.below(4)]
	}
	size--
	switch d.below(7) {
	case 0:
		return con(d.con(cons), d.kids(cons, 0, size, env)...)
	case 1:
		return app(d.kids(cons, 2, size, env)...)
	case 2:
		return op(d.one("weak", "seq", "deref"), d.kids(cons, 0, size, env)...)
	case 3:
		return op(d.one("+", "<."), d.expr(cons, size, env), d.expr(cons, size, env))
	case 4:
		names := d.names(1, 3)
		env = slices.Concat(env, names)
		var binds []api.Bind
		for _, name := range names {
			b := d.bind(cons, size, env)
			b.Name = name
			binds = append(binds, b)
		}
		return let(d.expr(cons, size, env), binds...)
	case 5:
		var alts []api.Alt
		for range d.below(4) {
			alts = append(alts, d.alt(cons, size, env))
		}
		return choice(d.expr(cons, size, env), alts...)
	}
	params := d.names(1, 3)
	return api.Expr{Kind: api.ELam, Params: params, Kids: []api.Expr{d.expr(cons, size, slices.Concat(env, params))}}
}

func (d *draw) alt(cons, size int, env []string) api.Alt {
	names := d.names(1, 3)
	switch d.below(3) {
	case 0:
		return api.Alt{Kind: api.ACon, Name: d.con(cons), Names: names, Body: d.expr(cons, size, slices.Concat(env, names))}
	case 1:
		return api.Alt{Kind: api.ANum, Num: num(int64(d.below(9))).Num, Body: d.expr(cons, size, env)}
	}
	return api.Alt{Kind: api.AElse, Name: names[0], Body: d.expr(cons, size, append(slices.Clone(env), names[0]))}
}

// TestP101Drawn holds drawn modules against the model, and, as long as they are
// no larger than a source may be, as their sources tell them.
func TestP101Drawn(t *testing.T) {
	counts := map[api.Errno]int{}
	for _, soon := range []int{4, 30, 200, 1 << 30} {
		d := &draw{seed: uint64(soon), soon: soon}
		for range 1500 {
			m := d.module()
			faults := wantModel(t, m)
			if len(faults) == 0 {
				counts[api.OK]++
			} else {
				counts[faults[0].e]++
			}
			if told, e, _ := parse.Parse(show.Module(m)); e == api.OK {
				wantModel(t, told)
			}
			if t.Failed() {
				return
			}
		}
	}
	if counts[api.OK] < 1500 || counts[api.ErrTwice] < 500 || counts[api.ErrNone] < 500 || counts[api.ErrName] < 100 {
		t.Errorf("%v: too few to tell", counts)
	}
}

// around is all that has an expression in one of its places, bound ahead of it
// or beside it by these names or those.
func around(k api.Expr) []api.Expr {
	main := v("main")
	all := []api.Expr{
		con("True", k), con("C", main, k), con("Z", k), op("+", k, main), op("-", main, k), op("weak", main, main, k), app(k, main), app(main, k), app(k, k),
		choice(k), choice(k, elseAlt("a", main)), choice(main, numAlt(1, k)), choice(main, elseAlt("a", main), numAlt(1, k)), choice(main, conAlt("Z a", k)), choice(main, conAlt("True", k)),
		let(main, bind("f a", main), bind("g", k)), let(main, bind("f a", k), bind("g", k)), let(k, bind("f a b", main)), let(main, bind("b a a", k)),
	}
	for _, names := range []string{"a", "b", "a b", "a a", "b a b"} {
		all = append(all, lam(names, k), app(lam(names, main), k), choice(main, conAlt("True "+names, k)), choice(k, conAlt("C "+names, main)), choice(main, conAlt("C "+names, main), elseAlt("c", k)))
	}
	for _, name := range []string{"a", "b"} {
		all = append(all, let(k, bind(name, main)), let(main, bind(name, k)), let(main, bind("c", k), bind(name, main)), let(k, bind("a", main), bind(name, main)), choice(main, elseAlt(name, k)), choice(main, elseAlt(name, main), elseAlt("c", k)))
	}
	return all
}

// TestP101Places puts names and constructors in each place of each kind, in one
// of each kind, among names that are bound there or aren't.
func TestP101Places(t *testing.T) {
	some := []api.Expr{v("a"), con("a"), num(0)}
	counts := map[api.Errno]int{}
	for deep := range 4 {
		var next []api.Expr
		for _, x := range some {
			faults := wantModel(t, api.Module{Cons: []api.Decl{{Name: "C", Arity: 2}}, Binds: []api.Bind{bind("main b", x)}})
			if len(faults) == 0 {
				counts[api.OK]++
			} else {
				counts[faults[0].e]++
			}
			if deep < 3 {
				next = append(next, around(x)...)
			}
		}
		if t.Failed() {
			return
		}
		some = next
	}
	if counts[api.OK] < 20000 || counts[api.ErrTwice] < 20000 || counts[api.ErrNone] < 20000 {
		t.Errorf("%v: too few to tell", counts)
	}
}

// TestP102Drawn puts a bind more into drawn modules without faults: at each
// place, like each other one but for its name, which is no global's.
func TestP102Drawn(t *testing.T) {
	d := &draw{seed: 5, soon: 1 << 30}
	count := 0
	for range 800 {
		m := d.module()
		if e, _ := scope.Check(m); e != api.OK {
			t.Fatalf("Check(%q) = %d", show.Module(m), e)
		}
		for _, other := range m.Binds {
			for _, name := range []string{"x", "new", "q", "", "Just", "C0"} {
				if slices.ContainsFunc(m.Binds, func(b api.Bind) bool { return b.Name == name }) {
					continue
				}
				at := d.below(len(m.Binds) + 1)
				wantMore(t, m, at, api.Bind{Name: name, Params: other.Params, Body: other.Body}, api.OK, "")
				if len(other.Params) == 0 {
					wantMore(t, m, at, api.Bind{Name: name, Params: []string{name}, Body: other.Body}, api.OK, "")
				}
				count++
			}
			wantMore(t, m, d.below(len(m.Binds)+1), other, api.ErrTwice, other.Name)
		}
		if t.Failed() {
			return
		}
	}
	if count < 5000 {
		t.Errorf("%d: too few to tell", count)
	}
}

// wantMore is of a module with a bind more, at a place.
func wantMore(t *testing.T, m api.Module, at int, more api.Bind, e api.Errno, name string) {
	t.Helper()
	m.Binds = slices.Insert(slices.Clone(m.Binds), at, more)
	want(t, m, e, name)
}
