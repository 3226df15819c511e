package show_test

import (
	"math"
	"slices"
	"strings"
	"testing"
	"unsafe"

	"treadwheel/api"
	"treadwheel/show"
)

// What expressions are.

func v(name string) api.Expr { return api.Expr{Kind: api.EVar, Name: name} }

func con(name string, kids ...api.Expr) api.Expr {
	return api.Expr{Kind: api.ECon, Name: name, Kids: kids}
}

func op(name string, kids ...api.Expr) api.Expr {
	return api.Expr{Kind: api.EOp, Name: name, Kids: kids}
}

func app(kids ...api.Expr) api.Expr { return api.Expr{Kind: api.EApp, Kids: kids} }

func integer(n int64) api.Num { return api.Num{Bits: uint64(n)} }

func flt(bits uint64) api.Num { return api.Num{Float: true, Bits: bits} }

func num(n api.Num) api.Expr { return api.Expr{Kind: api.ENum, Num: n} }

func let(body api.Expr, binds ...api.Bind) api.Expr {
	return api.Expr{Kind: api.ELet, Binds: binds, Kids: []api.Expr{body}}
}

func choice(asked api.Expr, alts ...api.Alt) api.Expr {
	return api.Expr{Kind: api.ECase, Kids: []api.Expr{asked}, Alts: alts}
}

func lam(params string, body api.Expr) api.Expr {
	return api.Expr{Kind: api.ELam, Params: strings.Fields(params), Kids: []api.Expr{body}}
}

// bind is of a name and parameters.
func bind(names string, body api.Expr) api.Bind {
	all := strings.Fields(names)
	return api.Bind{Name: all[0], Params: all[1:], Body: body}
}

func conAlt(names string, body api.Expr) api.Alt {
	all := strings.Fields(names)
	return api.Alt{Kind: api.ACon, Name: all[0], Names: all[1:], Body: body}
}

func numAlt(n api.Num, body api.Expr) api.Alt {
	return api.Alt{Kind: api.ANum, Num: n, Body: body}
}

func elseAlt(name string, body api.Expr) api.Alt {
	return api.Alt{Kind: api.AElse, Name: name, Body: body}
}

func wantText(t *testing.T, e api.Expr, want string) {
	t.Helper()
	if s := show.Expr(e); s != want {
		t.Errorf("Expr(%.500s) = %.500q; want %.500q", dumpExpr(e), s, want)
	}
}

func wantSource(t *testing.T, m api.Module, want string) {
	t.Helper()
	if s := show.Module(m); s != want {
		t.Errorf("Module(%.500s) = %.500q; want %.500q", dump(m), s, want)
	}
}

func TestP91Names(t *testing.T) {
	for _, name := range []string{"x", "y_1", "abcdefghijklmnop", "lets", "seqs", "weak_"} {
		wantText(t, v(name), name)
		wantText(t, app(v(name), v(name)), name+" "+name)
	}
	for _, name := range []string{"A", "Nil", "Abcdefghijklmnop", "X_1", "Case"} {
		wantText(t, con(name), name)
		wantText(t, con(name, v("x")), name+" x")
		wantText(t, con(name, v("x"), con(name), num(integer(1))), name+" x "+name+" 1")
		wantText(t, con(name, con(name, v("x"))), name+" ("+name+" x)")
	}
	for _, name := range []string{"weak", "deref", "seq", "float", "trunc"} {
		wantText(t, op(name), name)
		wantText(t, op(name, v("x")), name+" x")
		wantText(t, op(name, v("x"), v("y")), name+" x y")
		wantText(t, op(name, v("x"), op(name), v("z"), num(integer(-1))), name+" x "+name+" z #-1")
		wantText(t, op(name, op(name, v("x"))), name+" ("+name+" x)")
	}
}

func TestP91Signs(t *testing.T) {
	for _, sign := range []string{"+", "-", "*", "/", "%", "==", "<", "+.", "-.", "*.", "/.", "==.", "<."} {
		wantText(t, op(sign, v("x"), v("y")), "x "+sign+" y")
		wantText(t, op(sign, num(integer(-1)), num(integer(-2))), "#-1 "+sign+" #-2")
		wantText(t, op(sign, con("A"), op("seq")), "A "+sign+" seq")
		wantText(t, op(sign, op(sign, v("x"), v("y")), v("z")), "(x "+sign+" y) "+sign+" z")
		wantText(t, op(sign, v("x"), op(sign, v("y"), v("z"))), "x "+sign+" (y "+sign+" z)")
		wantText(t, op(sign, app(v("f"), v("x")), con("A", v("x"))), "(f x) "+sign+" (A x)")
		wantText(t, op("seq", op(sign, v("x"), v("y")), v("z")), "seq (x "+sign+" y) z")
	}
}

func TestP91Numbers(t *testing.T) {
	for _, x := range []struct {
		n    api.Num
		want string
	}{
		{integer(0), "0"}, {integer(1), "1"}, {integer(10), "10"}, {integer(24), "24"}, {integer(math.MaxInt64), "9223372036854775807"},
		{integer(-1), "#-1"}, {integer(-10), "#-10"}, {integer(math.MinInt64), "#-9223372036854775808"}, {integer(math.MinInt64 + 1), "#-9223372036854775807"}, {integer(math.MinInt32), "#-2147483648"},
		{flt(0), "0f0000000000000000"}, {flt(1), "0f0000000000000001"}, {flt(0x3ff8000000000000), "0f3ff8000000000000"}, {flt(0xbff8000000000000), "0fbff8000000000000"}, {flt(1 << 63), "0f8000000000000000"},
		{flt(0x7ff8000000000000), "0f7ff8000000000000"}, {flt(0xfff0000000000000), "0ffff0000000000000"}, {flt(math.MaxUint64), "0fffffffffffffffff"}, {flt(0x7ff0000000000123), "0f7ff0000000000123"},
	} {
		wantText(t, num(x.n), x.want)
		wantText(t, app(num(x.n), num(x.n)), x.want+" "+x.want)
		wantText(t, con("A", num(x.n)), "A "+x.want)
		wantText(t, op("-", num(x.n), num(x.n)), x.want+" - "+x.want)
		wantText(t, choice(num(x.n), numAlt(x.n, num(x.n)), numAlt(x.n, v("x"))), "case "+x.want+" of {"+x.want+" -> "+x.want+"; "+x.want+" -> x}")
	}
}

// Only as the first of a row a name without kids is put in ( ).
func TestP91Applications(t *testing.T) {
	x, just, seq := v("x"), con("Just"), op("seq")
	wantText(t, app(v("f"), x), "f x")
	wantText(t, app(num(integer(1)), x), "1 x")
	wantText(t, app(num(integer(-1)), x), "#-1 x")
	wantText(t, app(just, x), "(Just) x")
	wantText(t, app(just, just, just), "(Just) Just Just")
	wantText(t, app(seq, x), "(seq) x")
	wantText(t, app(seq, seq, seq), "(seq) seq seq")
	wantText(t, app(x, just, seq, x), "x Just seq x")
	wantText(t, app(con("Just", x), x), "(Just x) x")
	wantText(t, app(op("seq", x), x), "(seq x) x")
	wantText(t, app(op("+", x, x), x), "(x + x) x")
	wantText(t, app(app(x, x), x), "(x x) x")
	wantText(t, app(x, app(x, x)), "x (x x)")
	wantText(t, app(app(just, x), app(seq, x)), "((Just) x) ((seq) x)")
	wantText(t, app(let(x, bind("a", x)), choice(x), lam("a", x)), `(let a = x in x) (case x of {}) (\a -> x)`)
}

func TestP91Lets(t *testing.T) {
	x, a := v("x"), bind("a", num(integer(1)))
	wantText(t, let(x, a), "let a = 1 in x")
	wantText(t, let(x, a, bind("b c", x)), "let a = 1; b c = x in x")
	wantText(t, let(x, bind("f a b c", x), a, a), "let f a b c = x; a = 1; a = 1 in x")
	wantText(t, let(let(x, a), bind("b", let(x, a)), a), "let b = let a = 1 in x; a = 1 in let a = 1 in x")
	wantText(t, let(lam("y", x), bind("f", lam("y z", x))), `let f = \y z -> x in \y -> x`)
	wantText(t, let(op("+", x, x), bind("f y", con("A", app(x, x)))), "let f y = A (x x) in x + x")
}

func TestP91Cases(t *testing.T) {
	x := v("x")
	wantText(t, choice(x), "case x of {}")
	wantText(t, choice(x, conAlt("A", x)), "case x of {A -> x}")
	wantText(t, choice(x, elseAlt("y", x)), "case x of {y -> x}")
	wantText(t, choice(x, numAlt(integer(-7), x)), "case x of {#-7 -> x}")
	wantText(t, choice(x, conAlt("A b", x), conAlt("B c d e", x), numAlt(integer(1), x), elseAlt("z", v("z"))), "case x of {A b -> x; B c d e -> x; 1 -> x; z -> z}")
	wantText(t, choice(app(x, x), elseAlt("z", op("+", x, x))), "case x x of {z -> x + x}")
	wantText(t, choice(choice(x), elseAlt("z", choice(x)), elseAlt("z", choice(x, elseAlt("z", x)))), "case case x of {} of {z -> case x of {}; z -> case x of {z -> x}}")
}

func TestP91Lambdas(t *testing.T) {
	x := v("x")
	wantText(t, lam("x", x), `\x -> x`)
	wantText(t, lam("x y z", x), `\x y z -> x`)
	wantText(t, lam("x", lam("y", app(x, x))), `\x -> \y -> x x`)
	wantText(t, con("A", lam("x", x), v("y")), `A (\x -> x) y`)
}

func TestP91Modules(t *testing.T) {
	x := v("x")
	wantSource(t, api.Module{}, "")
	wantSource(t, api.Module{Cons: []api.Decl{}, Binds: []api.Bind{}}, "")
	wantSource(t, api.Module{Cons: []api.Decl{{Name: "Nil"}}}, "data Nil 0;\n")
	wantSource(t, api.Module{Cons: []api.Decl{{Name: "A", Arity: 24}, {Name: "Bc", Arity: 1}, {Name: "A", Arity: 10}}}, "data A 24 Bc 1 A 10;\n")
	wantSource(t, api.Module{Binds: []api.Bind{bind("f", x)}}, "f = x;\n")
	wantSource(t, api.Module{Binds: []api.Bind{bind("f a b", x), bind("g", lam("a", x)), bind("f", x)}}, "f a b = x;\ng = \\a -> x;\nf = x;\n")
	wantSource(t, api.Module{Cons: []api.Decl{{Name: "A", Arity: 2}}, Binds: []api.Bind{bind("f", con("A", x, con("A", x, x)))}}, "data A 2;\nf = A x (A x x);\n")
}

// shown is an expression, its text, and its text where an atom is asked.
type shown struct {
	e          api.Expr
	text, atom string
}

func alone(e api.Expr, text string) shown { return shown{e, text, text} }

func enclosed(e api.Expr, text string) shown { return shown{e, text, "(" + text + ")"} }

var x = v("x")

var leaves = []shown{
	alone(v("y"), "y"), alone(num(integer(3)), "3"), alone(num(integer(-3)), "#-3"), alone(con("Nil"), "Nil"), alone(op("deref"), "deref"), enclosed(choice(x), "case x of {}"),
}

// around is all that has an expression in one of its places.
func around(k shown) []shown {
	head := k.atom
	if (k.e.Kind == api.ECon || k.e.Kind == api.EOp) && len(k.e.Kids) == 0 {
		head = "(" + k.atom + ")"
	}
	return []shown{
		enclosed(con("A", k.e), "A "+k.atom), enclosed(con("A", k.e, x), "A "+k.atom+" x"), enclosed(con("A", x, k.e), "A x "+k.atom),
		enclosed(op("weak", k.e), "weak "+k.atom), enclosed(op("seq", k.e, x), "seq "+k.atom+" x"), enclosed(op("seq", x, k.e), "seq x "+k.atom),
		enclosed(op("+", k.e, x), k.atom+" + x"), enclosed(op("==.", x, k.e), "x ==. "+k.atom),
		enclosed(app(k.e, x), head+" x"), enclosed(app(x, k.e), "x "+k.atom), enclosed(app(x, k.e, x), "x "+k.atom+" x"), enclosed(app(k.e, k.e), head+" "+k.atom),
		enclosed(let(k.e, bind("a", x)), "let a = x in "+k.text), enclosed(let(x, bind("a", k.e)), "let a = "+k.text+" in x"), enclosed(let(x, bind("a b", x), bind("c", k.e)), "let a b = x; c = "+k.text+" in x"),
		enclosed(choice(k.e), "case "+k.text+" of {}"), enclosed(choice(x, conAlt("A b", k.e)), "case x of {A b -> "+k.text+"}"),
		enclosed(choice(x, numAlt(integer(0), k.e), elseAlt("a", k.e)), "case x of {0 -> "+k.text+"; a -> "+k.text+"}"),
		enclosed(lam("a", k.e), `\a -> `+k.text), enclosed(lam("a b", k.e), `\a b -> `+k.text),
	}
}

// TestP91Places puts each kind in each place of each kind, in one of each kind.
func TestP91Places(t *testing.T) {
	some := leaves
	for range 3 {
		var next []shown
		for _, k := range some {
			wantText(t, k.e, k.text)
			wantSource(t, api.Module{Binds: []api.Bind{bind("f a", k.e)}}, "f a = "+k.text+";\n")
			next = append(next, around(k)...)
		}
		some = next
	}
	for _, k := range some {
		wantText(t, k.e, k.text)
	}
	if len(some) < 40000 {
		t.Errorf("only %d", len(some))
	}
}

// Rows, lists and nests of a sound source's utmost size.
func TestP91Large(t *testing.T) {
	many := slices.Repeat([]api.Expr{x}, 4000)
	wantText(t, app(many...), strings.Repeat("x ", 3999)+"x")
	wantText(t, con("A", many...), "A"+strings.Repeat(" x", 4000))
	wantText(t, lam(strings.Repeat("x ", 4000), x), `\`+strings.Repeat("x ", 4000)+"-> x")
	wantText(t, let(x, slices.Repeat([]api.Bind{bind("f a", x)}, 800)...), "let "+strings.Repeat("f a = x; ", 799)+"f a = x in x")
	wantText(t, choice(x, slices.Repeat([]api.Alt{conAlt("A b", x)}, 800)...), "case x of {"+strings.Repeat("A b -> x; ", 799)+"A b -> x}")
	wantSource(t, api.Module{Cons: slices.Repeat([]api.Decl{{Name: "A", Arity: 7}}, 2000), Binds: slices.Repeat([]api.Bind{bind("f", x)}, 1000)}, "data"+strings.Repeat(" A 7", 2000)+";\n"+strings.Repeat("f = x;\n", 1000))
	row, inner := alone(x, "x"), alone(x, "x")
	for range 200 {
		row = enclosed(app(v("f"), row.e, x), "f "+row.atom+" x")
		inner = enclosed(let(x, bind("a", inner.e)), "let a = "+inner.text+" in x")
	}
	wantText(t, row.e, row.text)
	wantText(t, inner.e, inner.text)
}

// What layer 8 tells no source by has no text that is promised, but no call
// panics.
func TestP91Wrong(t *testing.T) {
	for _, kind := range []int{math.MinInt, -1, 0, 9, 10, 1000, math.MaxInt} {
		e := api.Expr{Kind: kind, Name: "x", Kids: []api.Expr{x}}
		show.Expr(e)
		show.Expr(app(e, e))
		show.Module(api.Module{Binds: []api.Bind{{Body: e}}})
		show.Expr(choice(x, api.Alt{Kind: kind, Names: []string{"x"}, Body: e}))
	}
	for kind := api.EVar; kind <= api.ELam; kind++ {
		for n := range 4 {
			for _, name := range []string{"", "x", "+", "seq", "\xff", "let"} {
				e := api.Expr{Kind: kind, Name: name, Kids: make([]api.Expr, n)}
				show.Expr(e)
				show.Expr(api.Expr{Kind: kind, Name: name, Kids: slices.Repeat([]api.Expr{e}, n), Binds: []api.Bind{{Body: e}}, Alts: []api.Alt{{Body: e}}, Params: []string{"", name}})
			}
		}
	}
	show.Module(api.Module{Cons: []api.Decl{{}, {Name: "", Arity: math.MinInt}}, Binds: []api.Bind{{}}})
}

// pieces is all texts of an expression.
func pieces(e api.Expr) []string {
	all := append([]string{e.Name}, e.Params...)
	for _, b := range e.Binds {
		all = append(append(append(all, b.Name), b.Params...), pieces(b.Body)...)
	}
	for _, a := range e.Alts {
		all = append(append(append(all, a.Name), a.Names...), pieces(a.Body)...)
	}
	for _, k := range e.Kids {
		all = append(all, pieces(k)...)
	}
	return all
}

// within is whether a text lies in the memory of another.
func within(s, other string) bool {
	at, begin := uintptr(unsafe.Pointer(unsafe.StringData(s))), uintptr(unsafe.Pointer(unsafe.StringData(other)))
	return s != "" && other != "" && at >= begin && at < begin+uintptr(len(other))
}

func TestP91NewMemory(t *testing.T) {
	long := string([]byte("abcdefghijklmnop"))
	var all []shown
	for _, k := range append([]shown{alone(v(long), ""), alone(con(long), ""), alone(op(long), "")}, leaves...) {
		all = append(append(all, k), around(k)...)
	}
	for _, k := range all {
		first, second := show.Expr(k.e), show.Expr(k.e)
		if first != second {
			t.Errorf("%q, and then %q", first, second)
		}
		if within(first, second) {
			t.Errorf("%q is answered twice in the same memory", first)
		}
		for _, piece := range pieces(k.e) {
			if within(first, piece) {
				t.Errorf("%q shares memory with what was handed in", first)
			}
		}
	}
}

// What is handed in is not changed, its spare room neither.
func TestP91Unchanged(t *testing.T) {
	spare := func(names ...string) []string { return append(names, "spare", "more")[:len(names)] }
	params, names := spare("a", "b"), spare("c", "d")
	kids := append([]api.Expr{con("A"), v("y")}, v("spare"))[:2]
	alts := append([]api.Alt{{Kind: api.ACon, Name: "A", Names: names, Body: app(kids...)}}, elseAlt("spare", x))[:1]
	binds := append([]api.Bind{{Name: "f", Params: params, Body: app(kids...)}}, bind("spare", x))[:1]
	e := api.Expr{Kind: api.ELet, Binds: binds, Kids: []api.Expr{{Kind: api.ECase, Kids: []api.Expr{{Kind: api.ELam, Params: params, Kids: kids[:1]}}, Alts: alts}}}
	cons := append([]api.Decl{{Name: "A", Arity: 2}}, api.Decl{Name: "Spare", Arity: 3})[:1]
	m := api.Module{Cons: cons, Binds: []api.Bind{{Name: "g", Params: params, Body: e}}}
	const text = `let f a b = (A) y in case \a b -> A of {A c d -> (A) y}`
	for range 2 {
		wantText(t, e, text)
		wantSource(t, m, "data A 2;\ng a b = "+text+";\n")
	}
	if params[:4][2] != "spare" || names[:4][2] != "spare" || kids[:3][2].Name != "spare" || alts[:2][1].Name != "spare" || binds[:2][1].Name != "spare" || cons[:2][1].Name != "Spare" {
		t.Error("spare room was changed")
	}
}
