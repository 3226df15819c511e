package vars_test

import (
	"math"
	"slices"
	"strconv"
	"strings"
	"testing"
	"unsafe"

	"treadwheel/api"
	"treadwheel/parse"
	"treadwheel/show"
	"treadwheel/vars"
)

// What expressions are.

func v(name string) api.Expr { return api.Expr{Kind: api.EVar, Name: name} }

func con(name string, kids ...api.Expr) api.Expr {
	return api.Expr{Kind: api.ECon, Name: name, Kids: kids}
}

func op(name string, kids ...api.Expr) api.Expr {
	return api.Expr{Kind: api.EOp, Name: name, Kids: kids}
}

func app(kids ...api.Expr) api.Expr { return api.Expr{Kind: api.EApp, Kids: kids} }

func num(n int64) api.Expr { return api.Expr{Kind: api.ENum, Num: api.Num{Bits: uint64(n)}} }

func let(body api.Expr, binds ...api.Bind) api.Expr {
	return api.Expr{Kind: api.ELet, Binds: binds, Kids: []api.Expr{body}}
}

func choice(asked api.Expr, alts ...api.Alt) api.Expr {
	return api.Expr{Kind: api.ECase, Kids: []api.Expr{asked}, Alts: alts}
}

func lam(params []string, body api.Expr) api.Expr {
	return api.Expr{Kind: api.ELam, Params: params, Kids: []api.Expr{body}}
}

func bind(name string, params []string, body api.Expr) api.Bind {
	return api.Bind{Name: name, Params: params, Body: body}
}

func conAlt(name string, names []string, body api.Expr) api.Alt {
	return api.Alt{Kind: api.ACon, Name: name, Names: names, Body: body}
}

func numAlt(n int64, body api.Expr) api.Alt {
	return api.Alt{Kind: api.ANum, Num: num(n).Num, Body: body}
}

func elseAlt(name string, body api.Expr) api.Alt {
	return api.Alt{Kind: api.AElse, Name: name, Body: body}
}

// all are names, one each.
func all(names ...string) []string { return names }

// read is the expression of a source.
func read(t *testing.T, s string) api.Expr {
	t.Helper()
	m, e, _ := parse.Parse("m = " + s + ";")
	if e != api.OK || len(m.Binds) != 1 {
		t.Fatalf("Parse(%q) answers %d", s, e)
	}
	return m.Binds[0].Body
}

func want(t *testing.T, e api.Expr, names ...string) {
	t.Helper()
	if got := vars.Free(e); !slices.Equal(got, names) {
		t.Errorf("Free(%.600q) = %.600q; want %.600q", show.Expr(e), got, names)
	}
}

func wantBody(t *testing.T, params []string, e api.Expr, names ...string) {
	t.Helper()
	if got := vars.Body(params, e); !slices.Equal(got, names) {
		t.Errorf("Body(%.600q, %.600q) = %.600q; want %.600q", params, show.Expr(e), got, names)
	}
}

// wantOf is of a source, whose names are told with blanks between them.
func wantOf(t *testing.T, s, names string) {
	t.Helper()
	want(t, read(t, s), strings.Fields(names)...)
}

func TestP121Names(t *testing.T) {
	for s, names := range map[string]string{
		"x": "x", "f x": "f x", "x x": "x", "f x (f y)": "f x y", "(f x) y (g x f) z": "f x y g z", "c b a b c": "c b a", "f (g (h (f g) h) z)": "f g h z",
		"1": "", "#-7": "", "0f3ff8000000000000": "", "1 x 2": "x", "1 2": "",
		"True": "", "Just u": "u", "C (D a b) b (E)": "a b", "(Just) x": "x", "Just (Just (Just x))": "x",
		"weak k v f": "k v f", "weak f f k": "f k", "seq a b": "a b", "deref w": "w", "float (trunc x)": "x", "weak": "", "(seq) a": "a",
		"1 + 2": "", "a + b": "a b", "(b * a) - (a / b)": "b a", "(x < y) == (z <. x)": "x y z",
		"main": "main", "main f main": "main f", "ff f f1 f_ F": "ff f f1 f_",
	} {
		wantOf(t, s, names)
	}
}

func TestP121Lambdas(t *testing.T) {
	for s, names := range map[string]string{
		`\x -> x`: "", `\x -> y`: "y", `\x y -> x z y`: "z", `\x -> f x (g y)`: "f g y",
		`(\x -> x) x`: "x", `x (\x -> x)`: "x", `(\x -> x y) (\y -> x y)`: "y x", `(\x -> y) x y`: "y x",
		`\x -> \y -> x y z`: "z", `\x -> (\y -> x y) y`: "y", `(\x -> \y -> x y) y x`: "y x",
		`\x -> (\x -> x) x`: "", `\x -> (\x -> x z) x y`: "z y", `\x -> (\x -> (\x -> x) x) x`: "", `(\x -> (\x -> (\x -> x) x) x) x`: "x",
		`\x y -> (\y -> x y) (\x -> x y) x y`: "", `\x -> (\x y -> x y) x y`: "y", `\x -> (\y x -> x) y x`: "y",
		`\x x -> x y`: "y", `(\x x -> x) x`: "x", `\x -> (\x x -> x) x z`: "z",
	} {
		wantOf(t, s, names)
	}
}

func TestP121Lets(t *testing.T) {
	for s, names := range map[string]string{
		"let a = 1 in a": "", "let a = a in a": "", "let a = b; b = a in a b": "", "let a = b in b": "b", "let a = x in y": "x y",
		"let a = b a; c x = x a d in c e": "b d e", "let a = z; b = y in x": "z y x", "let a = z; b = x z in y z x": "z x y",
		"(let a = 1 in a) a": "a", "a (let a = a in a)": "a", "(let a = 1; b = 2 in c) b a": "c b a",
		"let f x = x in x": "x", "let f x = x; g = x in f": "x", "let f x = g; g y = x in f": "x", "let f x y = x y; g y = x y in x y": "x y", "let f x = 1; g = x in y": "x y",
		"let f f = f in f": "", "let f g = f g; g f = g f in g f": "", "let f g = g; h = g in h": "g", "let f x = x in let g y = x y in f g": "x",
		"let a = let a = a b in a in a": "b", "let a = let b = a in b in b": "b", "let a = (let a = 1 in a) a in a": "", "let a = 1 in (let a = 2 in a) a": "", "(let a = 1 in (let a = 2 in a) a) a": "a",
		"let f x = let x = x in x in x": "x", `let f x = (\x -> x) x in f`: "", `let f = \f -> f; x = (\x -> x) x in f x`: "",
		"let a = 1; a = 2 in a": "", "(let a = 1; a = a in a) a": "a", "let a = (let b = 1; b = a in b) b in a": "b", "let f x x = x y in x": "y x",
	} {
		wantOf(t, s, names)
	}
}

func TestP121Alternatives(t *testing.T) {
	for s, names := range map[string]string{
		"case x of {}": "x", "case x of {1 -> y}": "x y", "case 1 of {1 -> b; 2 -> a; 3 -> b}": "b a", "case 1 of {True -> y}": "y",
		"case x of {Cons a b -> a y; 1 -> z; a -> a b}": "x y z b", "case 1 of {C a b -> a b}": "", "case 1 of {C a b -> c b; D a -> b a}": "c b", "case 1 of {C a -> 1; D -> a}": "a",
		"case 1 of {a -> a}": "", "case 1 of {a -> b}": "b", "case 1 of {a -> 1; b -> a}": "a", "case 1 of {a -> 1; 1 -> a}": "a", "case 1 of {a -> a; a -> a}": "",
		"case a of {a -> a}": "a", "case a of {C a -> a}": "a", "case f a of {C a f -> a f z}": "f a z", `case (\q -> q p) of {q -> q}`: "p",
		"(case 1 of {C a b -> a; c -> c}) c b a": "c b a", "a (case a of {C a -> a}) a": "a",
		"case 1 of {C a -> case a of {C a -> a b; b -> a b}}": "b", "case 1 of {C a -> (case 2 of {C a -> a; a -> a}) a}": "", "(case 1 of {a -> (case 2 of {a -> a}) a}) a": "a",
		"case case x of {y -> y z} of {z -> z y}": "x z y", `\a -> case a of {C a -> a; b -> a b; 1 -> b}`: "b", "let a = 1 in (case a of {a -> b a}) a": "b",
		"case 1 of {C a a -> a b}": "b", "case 1 of {C a a -> a; 1 -> a}": "a", `\a -> case 1 of {C a a -> a; 1 -> a b}`: "b",
	} {
		wantOf(t, s, names)
	}
}

func TestP121Order(t *testing.T) {
	for s, names := range map[string]string{
		`let z = y; x = w in v`: "y w v", `let z = v; x = w in v w u`: "v w u", `let f a = b a; g b = a b in c`: "b a c",
		`case e of {C x -> d; 1 -> c; y -> b; D -> a}`: "e d c b a", `case a of {C x -> b; 1 -> a; y -> c; D -> b}`: "a b c",
		`(\x -> b x a) x (let y = c in d) (case e of {1 -> f}) g`: "b a x c d e f g",
		`(\x -> x) (\y -> x) (\x -> x y) z`:                       "x y z", `(let x = 1 in x) y x`: "y x", `seq (weak c b (deref a)) (b + d)`: "c b a d",
		// Where it is bound, it doesn't stand free.
		`(\a -> a b) a`: "b a", `(let a = a in a c) b a c`: "c b a", `(case c of {a -> a b}) a b`: "c b a", `\a -> (\b -> a b c) b a`: "c b",
	} {
		wantOf(t, s, names)
	}
}

func TestP121Body(t *testing.T) {
	for _, x := range []struct{ params, s, names string }{
		{"", "x", "x"}, {"x", "x", ""}, {"y", "x", "x"}, {"x q", "f x y x", "f y"}, {"f", "f x y", "x y"}, {"y", "f x y", "f x"}, {"y x f", "f x y", ""}, {"x y", "z (y x) z w", "z w"},
		{"x", `\x -> x y`, "y"}, {"x", `(\x -> x) x y`, "y"}, {"x y", `(\x y -> x y) x y z`, "z"}, {"x", `(\y -> x y) y`, "y"}, {"y", `(\y -> x y) y`, "x"},
		{"x", "let x = x in x y", "y"}, {"x", "(let x = x in x) x y", "y"}, {"x", "let f x = x; g = x in f x y", "y"}, {"f", "let f x = x f in x f", "x"}, {"x f", "(let f x = x f in x f) f x z", "z"},
		{"a", "case a of {C a b -> a b; b -> a b; 1 -> a b}", "b"}, {"b", "case a of {C a b -> a b; b -> a b; 1 -> a b}", "a"}, {"a b", "case a of {C a b -> a b; b -> a b; 1 -> a b}", ""}, {"a", "(case 1 of {a -> a}) a b", "b"},
		{"x x", "x y", "y"}, {"x y x", "x y z", "z"}, {"x x", `(\x x -> x) x y`, "y"}, {"x", "1", ""}, {"x", "Just (True)", ""}, {"u v w", "weak u v w", ""},
	} {
		wantBody(t, strings.Fields(x.params), read(t, x.s), strings.Fields(x.names)...)
	}
	e := read(t, `f (\x -> x a) (let b = c in b) x`)
	wantBody(t, nil, e, "f", "a", "c", "x")
	wantBody(t, []string{}, e, "f", "a", "c", "x")
	wantBody(t, all("b", "d", "m"), e, "f", "a", "c", "x")
	wantBody(t, all("x", "f"), e, "a", "c")
}

// strange are names that no source has.
var strange = []string{"", " ", "\x00", "\xff", "x y", "x\x00", "X", "True", "let", "x ", "+", "weak", "1", "é", "e\u0301", "(", strings.Repeat("long", 5000), strings.Repeat("long", 5000) + "r"}

// binders are what binds a name around an expression, in each place that a
// binder has.
func binders(x string, e api.Expr) []api.Expr {
	return []api.Expr{
		lam(all(x), e), lam(all("k1", x), e), lam(all(x, "k1"), e), lam(all(x, x), e),
		let(e, bind(x, nil, num(1))), let(e, bind("k1", nil, num(1)), bind(x, nil, num(1))), let(num(1), bind(x, nil, e)), let(num(1), bind(x, nil, num(1)), bind("k1", nil, e)), let(num(1), bind("k1", nil, e), bind(x, nil, num(1))), let(e, bind(x, nil, num(1)), bind(x, nil, num(2))),
		let(num(1), bind("k1", all(x), e)), let(num(1), bind("k1", all("k2", x), e)), let(num(1), bind("k2", all("k1"), num(1)), bind("k1", all(x, "k2"), e)),
		choice(num(1), elseAlt(x, e)), choice(num(1), elseAlt("k1", num(1)), elseAlt(x, e)), choice(num(1), conAlt("K", all(x), e)), choice(num(1), conAlt("K", all("k1", x), e), numAlt(1, num(1))), choice(num(1), conAlt("K", all(x, x), e)),
	}
}

// beside are what has an expression where a name isn't bound, though it is
// bound beside it.
func beside(x string, e api.Expr) []api.Expr {
	return []api.Expr{
		app(lam(all(x), num(1)), e), app(e, lam(all(x), num(1))), app(let(num(1), bind(x, nil, num(1))), e), app(e, let(num(1), bind(x, nil, num(1)))), app(choice(num(1), elseAlt(x, num(1))), e),
		let(e, bind("k1", all(x), num(1))), let(num(1), bind("k1", all(x), num(1)), bind("k2", nil, e)), let(num(1), bind("k2", nil, e), bind("k1", all(x), num(1))), let(num(1), bind("k1", all(x), num(1)), bind("k2", all("k3"), e)),
		choice(e, elseAlt(x, num(1))), choice(e, conAlt("K", all(x), num(1))), choice(num(1), elseAlt(x, num(1)), elseAlt("k1", e)), choice(num(1), elseAlt(x, num(1)), numAlt(1, e)), choice(num(1), conAlt("K", all(x), num(1)), conAlt("L", all("k1"), e)), choice(num(1), elseAlt("k1", e), elseAlt(x, num(1))), choice(num(1), conAlt("K", all(x), num(1)), numAlt(1, e)), choice(num(1), conAlt("K", nil, e), conAlt("K", all(x), num(1))),
		choice(num(1), conAlt(x, nil, e)), choice(num(1), conAlt(x, all("k1"), e)), con(x, e), op(x, e),
	}
}

// TestP121Places binds each name in each place that a binder has, and beside.
func TestP121Places(t *testing.T) {
	for _, x := range append(all("x", "k"), strange...) {
		inside := app(v(x), v("y"), v(x))
		for _, e := range binders(x, inside) {
			want(t, e, "y")
			want(t, app(e, v(x)), "y", x)
			want(t, app(v(x), e), x, "y")
			wantBody(t, all(x), app(e, v(x)), "y")
			wantBody(t, all("y"), e)
			for _, outer := range binders(x, app(e, v(x), v("z"))) {
				want(t, outer, "y", "z")
				want(t, app(outer, v(x)), "y", "z", x)
				wantBody(t, all("z", x), app(outer, v(x)), "y")
			}
		}
		for _, e := range beside(x, inside) {
			want(t, e, x, "y")
			wantBody(t, all(x), e, "y")
			wantBody(t, all("y"), e, x)
			for _, outer := range binders(x, app(e, v(x))) {
				want(t, outer, "y")
			}
			for _, outer := range beside(x, app(v("z"), e)) {
				want(t, outer, "z", x, "y")
			}
		}
	}
}

// TestP121Strange has names that may be any texts.
func TestP121Strange(t *testing.T) {
	for i, x := range strange {
		want(t, v(x), x)
		want(t, app(v(x), con(x, v(x)), op(x, v(x))), x)
		want(t, con(x, con(x), op(x)))
		want(t, let(con(x, op(x)), bind("f", nil, con(x))))
		wantBody(t, all(x), v(x))
		wantBody(t, all("y"), v(x), x)
		for j, y := range strange {
			if i != j {
				want(t, app(v(x), v(y), v(x)), x, y)
				want(t, lam(all(x), app(v(y), v(x))), y)
				want(t, let(v(x), bind(x, all(y), v(y)), bind("f", nil, v(y))), y)
				want(t, choice(v(x), conAlt("A", all(x), v(y)), elseAlt(y, v(x))), x, y)
				wantBody(t, all(y), app(v(x), v(y)), x)
			}
		}
	}
	reversed := slices.Clone(strange)
	slices.Reverse(reversed)
	for _, names := range [][]string{strange, reversed} {
		var kids []api.Expr
		for _, x := range names {
			kids = append(kids, v(x))
		}
		want(t, app(append(kids, kids...)...), names...)
		wantBody(t, names[:9], app(kids...), names[9:]...)
		want(t, lam(names[3:], app(kids...)), names[:3]...)
	}
	// What has no name binds none, the empty one neither.
	for _, e := range []api.Expr{v(""), choice(num(1), numAlt(1, v(""))), choice(v(""), numAlt(1, num(1))), app(num(1), v("")), lam(all("x"), v("")), lam(nil, v("")), let(v(""), bind("x", nil, num(1))), choice(num(1), conAlt("A", nil, v(""))), choice(num(1), conAlt("", nil, v("")))} {
		want(t, e, "")
	}
}

// Expressions as large and as deep as may be.
func TestP121Large(t *testing.T) {
	const many = 20000
	var names []string
	var kids []api.Expr
	var binds []api.Bind
	var alts []api.Alt
	for i := range many {
		x := "x" + strconv.Itoa(i)
		names = append(names, x)
		kids = append(kids, v(x))
		binds = append(binds, bind(x, all("p"), app(v("p"), v("x"+strconv.Itoa(many-1-i)), v("y"+strconv.Itoa(i/2)))))
		alts = append(alts, conAlt("C", all(x), app(v(x), v("x"+strconv.Itoa(i/2)))))
	}
	free := append(all(), names[:many/2]...)
	for i, x := range free {
		free[i] = "y" + x[1:]
	}
	every := app(kids...)
	want(t, every, names...)
	wantBody(t, names[5:], every, names[:5]...)
	want(t, lam(names, every))
	want(t, app(lam(names, every), every), names...)
	want(t, let(every, binds...), free...)
	want(t, app(let(every, binds...), every), slices.Concat(free, names)...)
	want(t, choice(num(1), alts...), names[:many/2]...) // x0's alternative binds it, the next one's doesn't
	want(t, let(choice(num(1), alts...), binds...), free...)
}

func TestP121Deep(t *testing.T) {
	type form struct {
		asks bool // whether it asks for y where it doesn't bind x
		of   func(x, y string, e api.Expr) api.Expr
	}
	deep := []form{
		{false, func(x, y string, e api.Expr) api.Expr { return lam(all(x), app(v(y), e, v(x))) }},
		{false, func(x, y string, e api.Expr) api.Expr { return let(app(e, v(x)), bind(x, nil, v(y))) }},
		{false, func(x, y string, e api.Expr) api.Expr { return let(v(x), bind(x, nil, v(y)), bind("f", nil, e)) }},
		{false, func(x, y string, e api.Expr) api.Expr { return let(num(1), bind("f", all(x, "f"), app(v(y), e, v(x)))) }},
		{true, func(x, y string, e api.Expr) api.Expr {
			return choice(v(y), numAlt(1, num(1)), elseAlt(x, app(e, v(x))))
		}},
		{true, func(x, y string, e api.Expr) api.Expr { return choice(v(y), conAlt("C", all(x), e)) }},
		{false, func(x, y string, e api.Expr) api.Expr { return choice(lam(all(x), app(v(y), e))) }},
	}
	mixed := form{false, func(x, y string, e api.Expr) api.Expr {
		for _, f := range deep {
			e = f.of(x, y, e)
		}
		return e
	}}
	for _, f := range append(deep, mixed) {
		for _, levels := range []int{200, 4000} {
			last := "x" + strconv.Itoa(levels)
			same, other := app(v("x"), v("z")), app(v("x0"), v("x"+strconv.Itoa(levels-1)), v(last))
			for i := levels - 1; i >= 0; i-- {
				same = f.of("x", "x", same)
				other = f.of("x"+strconv.Itoa(i), "x"+strconv.Itoa(i/2), other)
			}
			if f.asks {
				want(t, same, "x", "z")
				want(t, other, "x0", last)
			} else {
				want(t, same, "z")
				want(t, other, last)
			}
			wantBody(t, all("x", "x0"), same, "z")
			wantBody(t, all("x", "x0"), other, last)
		}
	}
	// Parts nested as deep as may be.
	for _, of := range []func(api.Expr) api.Expr{
		func(e api.Expr) api.Expr { return app(e) }, func(e api.Expr) api.Expr { return con("C", e) }, func(e api.Expr) api.Expr { return lam(all("x"), e) }, func(e api.Expr) api.Expr { return choice(e) },
	} {
		e := app(v("x"), v("z"), v("x"))
		for range 65000 {
			e = of(e)
		}
		if got := vars.Body(all("x"), e); !slices.Equal(got, all("z")) {
			t.Error(got)
		}
	}
}

// What layer 8 tells no source by has no names that are promised, but no call
// panics.
func TestP121Wrong(t *testing.T) {
	for _, kind := range []int{math.MinInt, -1, 0, 1, 2, 3, 4, 5, 6, 7, 8, 9, 1000, math.MaxInt} {
		for n := range 3 {
			e := api.Expr{Kind: kind, Name: "x", Params: all("", "x"), Kids: slices.Repeat([]api.Expr{{}, v("x")}, n), Binds: make([]api.Bind, n), Alts: make([]api.Alt, n)}
			vars.Free(e)
			vars.Free(app(e, e))
			vars.Free(choice(e, api.Alt{Kind: kind, Name: "x", Names: all("", "x"), Body: e}))
			vars.Free(let(e, bind("x", all("x", "x"), e), api.Bind{}))
			vars.Body(slices.Repeat(all("x"), n), e)
		}
	}
	want(t, api.Expr{})
	wantBody(t, all("x"), api.Expr{})
}

// shares is whether a text lies in the memory of another.
func shares(s, other string) bool {
	at, begin := uintptr(unsafe.Pointer(unsafe.StringData(s))), uintptr(unsafe.Pointer(unsafe.StringData(other)))
	return s != "" && other != "" && at >= begin && at < begin+uintptr(len(other))
}

func TestP121NewMemory(t *testing.T) {
	long, other := string([]byte("abcdefghijklmnop")), string([]byte("qrstuvwxyz"))
	params := all(string([]byte(other)), "x")
	e := app(v(long), lam(all("x"), app(v(other), v(long))), v("x"))
	told := [][]string{vars.Free(e), vars.Free(e), vars.Body(params, e), vars.Body(params, e)}
	for i, l := range told {
		if names := [][]string{{long, other, "x"}, {long}}[i/2]; !slices.Equal(l, names) {
			t.Fatal(l)
		}
		for _, x := range l {
			if shares(x, long) || shares(x, other) {
				t.Errorf("%q shares memory with what was handed in", x)
			}
		}
		for j := range l {
			l[j] = "other"
		}
		_ = append(l, "more")
	}
	want(t, e, long, other, "x")
	wantBody(t, params, e, long)
}

// What is handed in is not changed, its spare room neither, and the same is
// answered of it again, whatever was asked before.
func TestP121Unchanged(t *testing.T) {
	spare := func(names ...string) []string { return append(names, "spare", "more")[:len(names)] }
	params, names := spare("a", "b"), spare("c", "d", "c")
	kids := append([]api.Expr{con("A", v("c")), v("a"), v("e")}, v("spare"))[:3]
	alts := append([]api.Alt{conAlt("A", names, app(kids...)), elseAlt("a", app(kids...))}, elseAlt("spare", v("q")))[:2]
	binds := append([]api.Bind{bind("f", params, app(kids...)), bind("f", nil, v("g"))}, bind("spare", nil, v("q")))[:2]
	e := let(choice(lam(params, app(kids[:2]...)), alts...), binds...)
	source := show.Expr(e)
	for range 3 {
		want(t, e, "c", "e", "g", "a")
		wantBody(t, params, e, "c", "e", "g")
		wantBody(t, names, e, "e", "g", "a")
		wantBody(t, names[:0], app(kids...), "c", "a", "e")
		want(t, api.Expr{Kind: api.ELam, Params: names, Kids: kids}, "a", "e")
	}
	if show.Expr(e) != source {
		t.Error(show.Expr(e))
	}
	if !slices.Equal(params[:4], all("a", "b", "spare", "more")) || !slices.Equal(names[:5], all("c", "d", "c", "spare", "more")) || kids[:4][3].Name != "spare" || alts[:3][2].Name != "spare" || binds[:3][2].Name != "spare" {
		t.Error("what was handed in was changed")
	}
}

func TestP121Examples(t *testing.T) {
	wantOf(t, `\x -> f x (g y)`, "f g y")
}

// TestP122Plain has expressions without binders: their names are those of all
// EVar, as the source has them.
func TestP122Plain(t *testing.T) {
	for _, s := range []string{
		"x", "f x y f", "weak (f x) (Just (g + x)) (seq y (trunc f))", "Just", "1 + x", "(a b) (c (d a)) b e", "case f x of {True -> y; 1 -> case g y of {}; Nothing -> h x}", "case 1 of {True -> b; 1 -> a}",
		strings.Repeat("a b c ", 500) + "d", strings.Repeat("f (g ", 90) + "x" + strings.Repeat(")", 90),
	} {
		var names []string
		for _, x := range strings.FieldsFunc(s, func(r rune) bool { return strings.ContainsRune(" ()+{};->", r) }) {
			if x[0] >= 'a' && !slices.Contains(all("weak", "seq", "trunc", "case", "of"), x) && !slices.Contains(names, x) {
				names = append(names, x)
			}
		}
		e := read(t, s)
		want(t, e, names...)
		for i, x := range names {
			wantBody(t, all(x), e, slices.Concat(names[:i], names[i+1:])...)
		}
		wantBody(t, names, e)
	}
}

// TestP122Binders puts what binds a name that isn't free around expressions, and
// inside.
func TestP122Binders(t *testing.T) {
	for _, s := range []string{"x", "1", "f x (g y)", `\a -> a b (\b -> b c)`, "let a = b a; c x = x a d in c e", "case x of {Cons a b -> a y; 1 -> z; a -> a b}", "weak k1x (seq a b) (a + f)"} {
		e := read(t, s)
		names := vars.Free(e)
		for _, x := range append(all("q", "new", "k", "Cons", "weak"), strange...) {
			for _, outer := range binders(x, e) {
				want(t, outer, names...)
				want(t, app(v("f"), outer), vars.Free(app(v("f"), e))...)
				wantBody(t, all("f", "x", "b"), outer, vars.Body(all("f", "x", "b"), e)...)
				for _, more := range binders("other", outer) {
					want(t, more, names...)
				}
			}
			wantBody(t, all(x), e, names...)
			wantBody(t, all(x, "q", x), e, names...)
		}
	}
}
