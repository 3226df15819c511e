package lower_test

import (
	"reflect"
	"slices"
	"strconv"
	"testing"

	"treadwheel/api"
	"treadwheel/arity"
	"treadwheel/lower"
	"treadwheel/parse"
	"treadwheel/show"
	"treadwheel/vars"
)

// draw makes modules such as layer 8 tells, of a few names, so that many hide
// others; in one of so many places there is a fault.
type draw struct {
	seed  uint64
	names []string
	cons  []api.Decl
	soon  int
}

func (d *draw) below(n int) int {
	d.seed = d.seed*6364136223846793005 + 1442695040888963407
	return int(d.seed >> 33 % uint64(n))
}

func (d *draw) errs() bool { return d.below(d.soon) == 0 }

func (d *draw) name() string { return d.names[d.below(len(d.names))] }

// count is a number, or one more.
func (d *draw) count(n int) int {
	if d.errs() {
		return n + 1
	}
	return n
}

// some are as many names, none of them twice.
func (d *draw) some(n int) []string {
	var some []string
	for len(some) < n {
		x := d.name()
		if !slices.Contains(some, x) || d.errs() {
			some = append(some, x)
		}
	}
	return some
}

func (d *draw) module() api.Module {
	d.cons = []api.Decl{{Name: "False"}, {Name: "True"}, {Name: "Nothing"}, {Name: "Just", Arity: 1}}
	for i := range d.below(4) {
		d.cons = append(d.cons, api.Decl{Name: "C" + strconv.Itoa(i), Arity: d.below(4)})
	}
	m := api.Module{Cons: d.cons[4:]}
	globals := slices.Insert([]string{"a", "g", "h"}[:d.below(4)], 0, "main")
	for i := range globals {
		k := d.below(i + 1)
		globals[i], globals[k] = globals[k], globals[i]
	}
	for _, name := range globals {
		params := d.some(d.below(4))
		if name == "main" {
			params = d.some(d.count(0))
		}
		m.Binds = append(m.Binds, bind(name, params, d.expr(1+d.below(5), slices.Concat(globals, params, params))))
	}
	return m
}

func (d *draw) kids(n, size int, env []string) []api.Expr {
	var kids []api.Expr
	for range n {
		kids = append(kids, d.expr(size, env))
	}
	return kids
}

func (d *draw) number() api.Num {
	return []api.Num{{Bits: uint64(d.below(4))}, {Bits: uint64(d.below(20))}, {Float: true, Bits: uint64(d.below(4))}, {Bits: 1 << 63}, {Float: true, Bits: 1 << 63}}[d.below(5)]
}

func (d *draw) plain(env []string) api.Expr {
	c := d.cons[d.below(len(d.cons))]
	switch {
	case d.errs():
		return v("q")
	case d.below(6) == 0:
		return number(d.number())
	case d.below(6) == 0 && c.Arity == 0:
		return con(c.Name)
	}
	return v(env[d.below(len(env))])
}

func (d *draw) expr(size int, env []string) api.Expr {
	if size == 0 || d.below(9) == 0 {
		return d.plain(env)
	}
	size--
	switch d.below(9) {
	case 0:
		c := d.cons[d.below(len(d.cons))]
		return con(c.Name, d.kids(d.count(c.Arity), size, env)...)
	case 1:
		name := []string{"weak", "seq", "deref", "float", "trunc", "seq"}[d.below(6)]
		return op(name, d.kids(d.count(arity.Takes(name)), size, env)...)
	case 2:
		return op(signs[d.below(len(signs))], d.kids(2, size, env)...)
	case 3, 4:
		return d.let(size, env)
	case 5:
		var alts []api.Alt
		for range d.below(4) {
			alts = append(alts, d.alt(size, env))
		}
		return choice(d.expr(size, env), alts...)
	case 6:
		params := d.some(1 + d.below(3))
		return lam(params, d.expr(size, slices.Concat(env, params, params)))
	}
	return app(d.kids(2+d.below(3), size, env)...)
}

func (d *draw) let(size int, env []string) api.Expr {
	local := d.some(1 + d.below(3))
	env = slices.Concat(env, local, local)
	var binds []api.Bind
	for _, name := range local {
		params := d.some(max(0, d.below(5)-2))
		binds = append(binds, bind(name, params, d.expr(size, slices.Concat(env, params, params))))
	}
	return let(d.expr(size, env), binds...)
}

func (d *draw) alt(size int, env []string) api.Alt {
	switch d.below(4) {
	case 0:
		return api.Alt{Kind: api.ANum, Num: d.number(), Body: d.expr(size, env)}
	case 1:
		x := d.name()
		return elseAlt(x, d.expr(size, append(slices.Clone(env), x, x)))
	}
	c := d.cons[d.below(len(d.cons))]
	bound := d.some(d.count(c.Arity))
	return conAlt(c.Name, bound, d.expr(size, slices.Concat(env, bound, bound)))
}

const never = 1 << 40

var pools = [][]string{{"a", "b", "c", "main"}, {"a", "b", "c", "d", "e", "main", "g"}, {"x", "y", "z", "u", "v", "w", "a", "h"}}

// TestP131Drawn walks along drawn modules' programs, as they are, and as their
// sources tell them.
func TestP131Drawn(t *testing.T) {
	counts := map[int]int{}
	parsed, deepest := 0, 0
	for i, names := range pools {
		d := &draw{seed: uint64(i), names: names, soon: never}
		for range 1500 {
			m := d.module()
			p := wantWalked(t, m)
			for _, n := range p.Nodes {
				counts[n.Op]++
			}
			for _, c := range p.Codes {
				deepest = max(deepest, c.Free)
			}
			if told, e, _ := parse.Parse(show.Module(m)); e == api.OK {
				if q, _, _ := lower.Lower(told); !reflect.DeepEqual(p, q) {
					t.Errorf("Lower(%.2000q): %s\n, and as it is told\n%s", show.Module(m), programText(p), programText(q))
				}
				parsed++
			}
			if t.Failed() {
				return
			}
		}
	}
	for of := api.NApp; of <= api.NCase; of++ {
		if counts[of] < 1500 {
			t.Errorf("%v: too few to tell", counts)
		}
	}
	if parsed < 3800 || deepest < 6 {
		t.Errorf("%d, %d: too few to tell", parsed, deepest)
	}
}

// TestP131DrawnFaults holds what is answered of drawn modules with faults
// against layer 11's answers.
func TestP131DrawnFaults(t *testing.T) {
	counts := map[api.Errno]int{}
	for i, soon := range []int{5, 20, 60, 200} {
		d := &draw{seed: uint64(i), names: pools[1], soon: soon}
		for range 1000 {
			m := d.module()
			e, name := arity.Check(m)
			counts[e]++
			if e != api.OK {
				wantFault(t, m, e, name)
			} else {
				wantWalked(t, m)
			}
			if t.Failed() {
				return
			}
		}
	}
	if counts[api.OK] < 500 || counts[api.ErrNone] < 500 || counts[api.ErrTwice] < 100 || counts[api.ErrArity] < 100 {
		t.Errorf("%v: too few to tell", counts)
	}
}

// around is all that has an expression in one of its places.
func around(k api.Expr) []api.Expr {
	x := v("x")
	return []api.Expr{
		con("Just", k), con("C", k, x), con("C", x, k), con("C", k, k), op("+", k, x), op("/", x, k), op("<.", k, k), op("weak", k, x, x), op("weak", x, k, integer(2)), op("weak", integer(3), x, k), op("seq", k, x), op("seq", x, k), op("deref", k), op("float", k), op("trunc", k),
		app(k, x), app(x, k), app(k, k), app(x, integer(1), k), app(k, lam([]string{"y"}, x), k), let(k, bind("x", nil, x)), let(x, bind("x", nil, k)), let(k, bind("y", []string{"x"}, k)), let(k, bind("z", nil, k), bind("x", []string{"y"}, k)),
		choice(k), choice(k, elseAlt("x", x)), choice(x, elseAlt("x", k)), choice(x, elseAlt("y", k), elseAlt("x", k)), choice(x, numAlt(1, k), numAlt(2, x)), choice(k, conAlt("C", []string{"y", "x"}, k)), choice(x, conAlt("Just", []string{"z"}, k), numAlt(3, k)),
		lam([]string{"x"}, k), lam([]string{"y"}, k), lam([]string{"z", "x", "u"}, k),
	}
}

// TestP131Places has each kind in each place of each kind, in one of each kind.
func TestP131Places(t *testing.T) {
	some := []api.Expr{v("x"), v("f"), v("y"), integer(1), con("True"), app(v("z"), v("x"), v("y"))}
	count := 0
	for deep := range 4 {
		var next []api.Expr
		for i, e := range some {
			m := api.Module{Cons: []api.Decl{{Name: "C", Arity: 2}}, Binds: []api.Bind{bind("y", nil, integer(1)), bind("f", []string{"x"}, e), bind("main", nil, v("z")), bind("z", nil, integer(1))}}
			wantWalked(t, m)
			count++
			if deep < 2 || deep == 2 && i%17 == 0 {
				next = append(next, around(e)...)
			}
		}
		if t.Failed() {
			return
		}
		some = next
	}
	if count < 20000 {
		t.Errorf("%d: too few to tell", count)
	}
}

// renamer gives new names to a module's locals, such that each name that stands
// for something still stands for it.
type renamer struct {
	pick func(isFree func(string) bool) string
}

// group: new names of what is bound together, where other names ask for what is
// bound further out.
func (r renamer) group(names, outer []string, env map[string]string) ([]string, map[string]string) {
	taken := map[string]bool{}
	for _, x := range outer {
		taken[renamed(env, x)] = true
	}
	inner := map[string]string{}
	for x, y := range env {
		inner[x] = y
	}
	var all []string
	for _, x := range names {
		y := r.pick(func(s string) bool { return !taken[s] })
		taken[y] = true
		inner[x] = y
		all = append(all, y)
	}
	return all, inner
}

func renamed(env map[string]string, x string) string {
	if y, ok := env[x]; ok {
		return y
	}
	return x
}

func (r renamer) body(params []string, e api.Expr, env map[string]string) ([]string, api.Expr) {
	names, inner := r.group(params, vars.Body(params, e), env)
	return names, r.expr(e, inner)
}

func (r renamer) binds(list []api.Bind, names []string, env map[string]string) []api.Bind {
	var binds []api.Bind
	for i, b := range list {
		params, body := r.body(b.Params, b.Body, env)
		binds = append(binds, bind(names[i], params, body))
	}
	return binds
}

func (r renamer) expr(e api.Expr, env map[string]string) api.Expr {
	switch e.Kind {
	case api.EVar:
		return v(renamed(env, e.Name))
	case api.ELam:
		params, body := r.body(e.Params, e.Kids[0], env)
		return lam(params, body)
	case api.ELet:
		names, inner := r.group(namesOf(e.Binds), vars.Free(e), env)
		return let(r.expr(e.Kids[0], inner), r.binds(e.Binds, names, inner)...)
	}
	made := e
	made.Kids, made.Alts = nil, nil
	for _, k := range e.Kids {
		made.Kids = append(made.Kids, r.expr(k, env))
	}
	for _, a := range e.Alts {
		bound := a.Names
		if a.Kind == api.AElse {
			bound = []string{a.Name}
		}
		names, body := r.body(bound, a.Body, env)
		a.Body = body
		if a.Kind == api.AElse {
			a.Name = names[0]
		} else {
			a.Names = names
		}
		made.Alts = append(made.Alts, a)
	}
	return made
}

func namesOf(binds []api.Bind) []string {
	var names []string
	for _, b := range binds {
		names = append(names, b.Name)
	}
	return names
}

func (r renamer) module(m api.Module) api.Module {
	return api.Module{Cons: m.Cons, Binds: r.binds(m.Binds, namesOf(m.Binds), nil)}
}

// unique gives each local a name of its own.
func unique() renamer {
	n := 0
	return renamer{func(func(string) bool) string {
		n++
		return "r" + strconv.Itoa(n)
	}}
}

// least gives each local the first name that may be, of globals' too.
func least(names []string) renamer {
	others := unique()
	return renamer{func(isFree func(string) bool) string {
		if at := slices.IndexFunc(names, isFree); at >= 0 {
			return names[at]
		}
		return others.pick(isFree)
	}}
}

// nameless is a program without its codes' names.
func nameless(p api.Program) api.Program {
	p.Codes = slices.Clone(p.Codes)
	for i := range p.Codes {
		p.Codes[i].Name = ""
	}
	return p
}

func wantSame(t *testing.T, m, other api.Module) {
	t.Helper()
	p, q := lowered(t, m), lowered(t, other)
	if !reflect.DeepEqual(nameless(p), nameless(q)) {
		t.Errorf("Lower(%.2000q): %s\nbut Lower(%.2000q): %s", show.Module(m), programText(p), show.Module(other), programText(q))
	}
	for i := range m.Binds {
		if p.Codes[i] != q.Codes[i] || p.Codes[i].Name != m.Binds[i].Name {
			t.Errorf("Lower(%.2000q): code %v, and %v", show.Module(m), p.Codes[i], q.Codes[i])
		}
	}
}

func TestP132Sources(t *testing.T) {
	for _, of := range [][]string{
		{"f x = x; main = f;", "f y = y; main = f;", "f f = f; main = f;", "f main = main; main = f;"},
		{"f x y = x y; main = f;", "f y x = y x; main = f;", "f f main = f main; main = f;", "f main f = main f; main = f;"},
		{`main = \x -> \y -> x y;`, `main = \y -> \x -> y x;`, `main = \main -> \x -> main x;`},
		{`main = \x -> \y -> y;`, `main = \x -> \x -> x;`, `main = \y -> \x -> x;`},
		{"main = let a b = a b; c = a in c;", "main = let c b = c b; a = c in a;", "main = let main a = main a; c = main in c;"},
		{"f x = let y = x in let z = y in z; main = f;", "f x = let y = x in let x = y in x; main = f;", "f f = let x = f in let f = x in f; main = f;"},
		{"f x = case x of {Just y -> y x; z -> z; 1 -> x}; main = f;", "f y = case y of {Just x -> x y; y -> y; 1 -> y}; main = f;", "f z = case z of {Just f -> f z; main -> main; 1 -> z}; main = f;"},
		{"f x = x + (case x of {y -> y}); main = f;", "f x = x + (case x of {x -> x}); main = f;", "f y = y + (case y of {x -> x}); main = f;"},
		{`f x y = f (\z -> x z) (let z = y in z) x; main = f;`, `f y x = f (\x -> y x) (let y = x in y) y; main = f;`},
	} {
		for _, s := range of {
			wantSame(t, read(t, of[0]), read(t, s))
			wantWalked(t, read(t, s))
		}
	}
	// Others than locals' names play their part.
	for _, of := range [][2]string{
		{"f x = x; main = f;", "f x = f; main = f;"}, {`main = \x -> \y -> x;`, `main = \x -> \x -> x;`}, {"f = 1; g = 2; main = f;", "f = 1; g = 2; main = g;"}, {"f x y = x y; main = f;", "f y x = x y; main = f;"},
	} {
		if p, q := lowered(t, read(t, of[0])), lowered(t, read(t, of[1])); reflect.DeepEqual(p, q) {
			t.Errorf("Lower(%q) and Lower(%q) are the same: %s", of[0], of[1], programText(p))
		}
	}
}

// TestP132Drawn has drawn modules with new names: each local's its own, or as
// few as may be, globals' and those that no source has among them.
func TestP132Drawn(t *testing.T) {
	count := 0
	for i, names := range pools {
		d := &draw{seed: uint64(i) + 40, names: names, soon: never}
		few := []renamer{least(all("a", "b", "main")), least(all("main", "h", "g", "a", "x", "y")), least(all("", "main", "a", "g", "\x00", "weak", "True", "x y")), least(all("z", "y", "x", "w", "v", "u"))}
		mixed := append(slices.Clone(strange), "a", "b", "c", "g", "h")
		some := renamer{func(isFree func(string) bool) string {
			at := d.below(len(mixed))
			return least(slices.Concat(mixed[at:], mixed[:at])).pick(isFree)
		}}
		for range 500 {
			m := d.module()
			own := unique().module(m)
			wantSame(t, m, own)
			wantWalked(t, own)
			for _, r := range append(few, some) {
				other := r.module(m)
				wantSame(t, m, other)
				if !reflect.DeepEqual(m, other) {
					count++
				}
			}
			if t.Failed() {
				return
			}
		}
	}
	if count < 5000 {
		t.Errorf("%d: too few to tell", count)
	}
}
