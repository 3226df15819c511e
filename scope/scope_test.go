package scope_test

import (
	"math"
	"slices"
	"strconv"
	"strings"
	"testing"
	"unsafe"

	"treadwheel/api"
	"treadwheel/parse"
	"treadwheel/scope"
	"treadwheel/show"
)

// What expressions are.

func v(name string) api.Expr { return api.Expr{Kind: api.EVar, Name: name} }

func con(name string, kids ...api.Expr) api.Expr {
	return api.Expr{Kind: api.ECon, Name: name, Kids: kids}
}

func op(name string, kids ...api.Expr) api.Expr {
	return api.Expr{Kind: api.EOp, Name: name, Kids: kids}
}

func app(kids ...api.Expr) api.Expr { return api.Expr{Kind: api.EApp, Kids: kids} }

func num(n int64) api.Expr { return api.Expr{Kind: api.ENum, Num: api.Num{Bits: uint64(n)}} }

func let(body api.Expr, binds ...api.Bind) api.Expr {
	return api.Expr{Kind: api.ELet, Binds: binds, Kids: []api.Expr{body}}
}

func choice(asked api.Expr, alts ...api.Alt) api.Expr {
	return api.Expr{Kind: api.ECase, Kids: []api.Expr{asked}, Alts: alts}
}

func lam(params string, body api.Expr) api.Expr {
	return api.Expr{Kind: api.ELam, Params: strings.Fields(params), Kids: []api.Expr{body}}
}

// bind is of a name and parameters.
func bind(names string, body api.Expr) api.Bind {
	all := strings.Fields(names)
	return api.Bind{Name: all[0], Params: all[1:], Body: body}
}

func conAlt(names string, body api.Expr) api.Alt {
	all := strings.Fields(names)
	return api.Alt{Kind: api.ACon, Name: all[0], Names: all[1:], Body: body}
}

func numAlt(n int64, body api.Expr) api.Alt {
	return api.Alt{Kind: api.ANum, Num: num(n).Num, Body: body}
}

func elseAlt(name string, body api.Expr) api.Alt {
	return api.Alt{Kind: api.AElse, Name: name, Body: body}
}

// module is of binds.
func module(binds ...api.Bind) api.Module { return api.Module{Binds: binds} }

func want(t *testing.T, m api.Module, e api.Errno, name string) {
	t.Helper()
	if f, s := scope.Check(m); f != e || s != name {
		t.Errorf("Check(%.600q) = %d, %.60q; want %d, %.60q", show.Module(m), f, s, e, name)
	}
}

// wantOf is of a source.
func wantOf(t *testing.T, s string, e api.Errno, name string) {
	t.Helper()
	m, f, _ := parse.Parse(s)
	if f != api.OK {
		t.Fatalf("Parse(%q) answers %d", s, f)
	}
	want(t, m, e, name)
}

func wantSound(t *testing.T, s string) {
	t.Helper()
	wantOf(t, s, api.OK, "")
}

func wantNone(t *testing.T, s, name string) {
	t.Helper()
	wantOf(t, s, api.ErrNone, name)
}

func wantTwice(t *testing.T, s, name string) {
	t.Helper()
	wantOf(t, s, api.ErrTwice, name)
}

var own = []api.Decl{{Name: "False", Arity: 0}, {Name: "True", Arity: 0}, {Name: "Nothing", Arity: 0}, {Name: "Just", Arity: 1}}

func TestP101Cons(t *testing.T) {
	for _, cons := range [][]api.Decl{
		nil, {}, {{Name: "Nil"}}, {{Name: "Cons", Arity: 2}, {Name: "Nil"}}, {{Name: "B", Arity: 24}, {Name: "A", Arity: 1}, {Name: "C", Arity: 3}},
		{{Name: "A", Arity: 1}, {Name: "A", Arity: 2}, {Name: "A", Arity: 1}}, {{Name: "Just", Arity: 3}, {Name: "False", Arity: 2}}, // twice: no matter here
		{{}, {Name: "", Arity: -1}, {Name: "x", Arity: math.MinInt}, {Name: "\xff\x00 (", Arity: math.MaxInt}, {Name: strings.Repeat("long", 1000), Arity: 25}},
		slices.Repeat([]api.Decl{{Name: "A", Arity: 7}}, 2000),
	} {
		for _, binds := range [][]api.Bind{nil, {bind("main", num(1))}, {bind("f x x", v("q")), bind("f", con("Z"))}} {
			if l := scope.Cons(api.Module{Cons: cons, Binds: binds}); !slices.Equal(l, slices.Concat(own, cons)) {
				t.Errorf("Cons of %v: %v", cons, l)
			}
		}
	}
	m, _, _ := parse.Parse("data Nil 0 Cons 2; main = Nil; data; data Z 24;")
	if l := scope.Cons(m); !slices.Equal(l, slices.Concat(own, []api.Decl{{Name: "Nil"}, {Name: "Cons", Arity: 2}, {Name: "Z", Arity: 24}})) {
		t.Error(l)
	}
}

func TestP101Constructors(t *testing.T) {
	for _, c := range own {
		wantTwice(t, "data "+c.Name+" 0; main = 1;", c.Name)
		wantTwice(t, "data "+c.Name+" 1; main = 1;", c.Name)
		wantTwice(t, "main = q; data A 0 B 1; data "+c.Name+" 1 A 0;", c.Name)
		wantSound(t, "main = "+c.Name+";")
		wantSound(t, "main = case 1 of {"+c.Name+" -> 1};")
	}
	wantTwice(t, "data A 0 A 0; main = 1;", "A")
	wantTwice(t, "data A 0; data A 1; main = 1;", "A")
	wantTwice(t, "data A 0 B 0 C 0 B 0 A 0 C 0; main = 1;", "B")
	wantTwice(t, "data A 0 B 0 C 0; data C 1 B 2; main = 1;", "C")
	wantSound(t, "data A 0 AA 0 A_ 0 B 1 B1 1 Tru 0 Truee 0 TRUE 0; main = AA A_ B1 (Tru TRUE);")
	wantSound(t, "main = C; data C 3;")
	wantSound(t, "data; main = 1;")
}

func TestP101Globals(t *testing.T) {
	wantTwice(t, "main = 1; main = 1;", "main")
	wantTwice(t, "f = 1; main = 1; f x = 1;", "f")
	wantTwice(t, "f = 1; g = 1; h = 1; h = 1; g = 1; f = 1;", "h")
	wantTwice(t, "f = 1; main = 1; g = 1; g = 1; main = 1; f = 1;", "g")
	wantSound(t, "f = 1; ff = 1; f1 = 1; f_ = 1; main = 1;")
	wantSound(t, "main = g; f = main; g = f;")
	wantSound(t, "main = main;")
	wantSound(t, "f f = f; main main = main;")
}

func TestP101Main(t *testing.T) {
	want(t, api.Module{}, api.ErrName, "main")
	want(t, api.Module{Cons: []api.Decl{}, Binds: []api.Bind{}}, api.ErrName, "main")
	for _, s := range []string{"", "data A 0;", "f = 1;", "mai = 1; mainn = 1; main_ = 1; mAin = 1;", "f main = main;", "f = let main = 1 in main;", `f = \main -> main;`, "f = case 1 of {main -> main};", "f x x = q;", "f = main;"} {
		wantOf(t, s, api.ErrName, "main")
	}
	for _, s := range []string{"main = 1;", "main x = x;", "f = 1; main = 1;", "main = 1; f = 1;", "f = 1; main x y = 1; g = 1;"} {
		wantSound(t, s)
	}
	want(t, api.Module{Cons: []api.Decl{{Name: "main"}}, Binds: []api.Bind{bind("f", num(1))}}, api.ErrName, "main")
}

func TestP101Parameters(t *testing.T) {
	wantTwice(t, "main x x = 1;", "x")
	wantTwice(t, "main x y z y x = 1;", "y")
	wantTwice(t, "main x x = q;", "x")
	wantTwice(t, "main = 1; f x y x = Z;", "x")
	wantTwice(t, `main = \x x -> 1;`, "x")
	wantTwice(t, `main = \a b c c b -> q;`, "c")
	wantTwice(t, "main = let f x x = q in Z;", "x")
	wantTwice(t, "main = let f = 1; g x y z y x = 1 in 1;", "y")
	wantTwice(t, "main = case 1 of {True x x -> q};", "x")
	wantTwice(t, "main = case 1 of {a -> 1; 1 -> 1; Just b c d c b -> 1};", "c")
	wantSound(t, `main = let x x = x; y x = x in \x -> case x of {Just x y -> x; x -> \x y -> x};`)
	wantSound(t, "f x y = x y; g x y = y x; main x y = f x y;")
	wantSound(t, "f = 1; main f main = f main;")
}

func TestP101Variables(t *testing.T) {
	for _, x := range []struct{ body, name string }{
		{"q", "q"}, {"f q x", "q"}, {"q r", "q"}, {"x q r", "q"}, {"x + q", "q"}, {"q + r", "q"}, {"seq q r", "q"}, {"seq x q", "q"}, {"weak x f q", "q"}, {"Just q", "q"}, {"Just x q r", "q"}, {"f (f (f q))", "q"},
		{"let a = q in r", "q"}, {"let a = b; b = a in c", "c"}, {"let a = b in let b = a in a", "b"}, {"let a b = b; c = b in d", "b"}, {"let a b = a in b", "b"}, {"let a b = let c = b in c in c", "c"}, {"(let a = 1 in a) a", "a"}, {"f a (let a = 1 in a)", "a"}, {"let a = let b = 1 in b in b", "b"},
		{"case q of {a -> r}", "q"}, {"case a of {a -> a}", "a"}, {"case x of {a -> a; b -> a}", "a"}, {"case x of {Just a -> a; Just b -> a}", "a"}, {"case x of {1 -> a; a -> a}", "a"}, {"case x of {a -> a; 1 -> a}", "a"}, {"(case x of {a -> a}) a", "a"}, {"case (case x of {a -> 1}) of {b -> a}", "a"}, {"case x of {Just -> Just}", ""}, {"case x of {Just a -> b; Just b -> c}", "b"},
		{`\a -> b`, "b"}, {`(\a -> a) a`, "a"}, {`f a (\a -> a)`, "a"}, {`\a -> (\b -> a) b`, "b"}, {`\a b c -> a b c d`, "d"},
		{"y", "y"}, {"z", "z"}, {"xx", "xx"}, {"mai", "mai"},
	} {
		s := "f x = " + x.body + "; main z = 1; g y = 1;"
		if x.name == "" {
			wantSound(t, s)
		} else {
			wantNone(t, s, x.name)
		}
	}
	for _, body := range []string{
		"x", "f", "main", "g", "f x main g", "1", "x + f", "seq x f", "let a = b; b = a in a b x f", "let a a = a in a", "let a b = a b x in a", "let x = x in x", "case x of {a -> a x; Just b c -> b c x; 1 -> x}", `\a b -> a b x f`, `\a -> \b -> a b x`, "case x of {}", "case x of {f -> f; main -> main; Just x -> x}",
	} {
		wantSound(t, "f x = "+body+"; main = 1; g y = 1;")
	}
}

// What is bound within, by the same name too, changes nothing beside it.
func TestP101Beside(t *testing.T) {
	within := []string{`(\x -> x)`, `(\y x -> x y)`, "(let x = x in x)", "(let y x = x in y)", "(case 1 of {x -> x})", "(case 1 of {Just x -> x})", "(case 1 of {Just x y -> x y; x -> x; 1 -> 1})", `(\f main -> f main)`, "(let f = main; main = f in f)"}
	for _, a := range within {
		for _, b := range within {
			wantSound(t, "f x = "+a+" x f "+b+" x main f; main = f;")
			wantSound(t, "f = let x = "+a+" x; z = "+b+" x f in x z main; main = f;")
			wantSound(t, "f x = case "+a+" x of {Just y z -> "+b+" x y z; x -> "+a+" x; 1 -> x f main}; main = f;")
			wantNone(t, "f = "+a+" "+b+" x; main = f;", "x")
			wantNone(t, `f = \z -> z `+a+" "+b+" y x; main = f;", "y")
		}
	}
}

func TestP101Lets(t *testing.T) {
	wantTwice(t, "main = let a = 1; a = 1 in 1;", "a")
	wantTwice(t, "main = let a = 1; b = 1; c = 1; b = 1; a = 1 in 1;", "b")
	wantTwice(t, "main = let a x x = q; b = r; a = 1 in s;", "a") // ahead of what its binds have
	wantTwice(t, "main = let a = let b = 1; b = 1 in 1; a = 1 in 1;", "a")
	wantTwice(t, "main = let a = let b = 1; b = 1 in 1 in q;", "b")
	wantNone(t, "main = let a = q; b x x = 1 in r;", "q")
	wantTwice(t, "main = let a = 1; b x x = q in r;", "x")
	wantNone(t, "main = let a = 1; b x y = q in r;", "q")
	wantNone(t, "main = let a = 1; b x y = 1 in r;", "r")
	wantSound(t, "main = let a = 1 in let a = 1 in let main = a in main;")
}

func TestP101OwnConstructors(t *testing.T) {
	wantNone(t, "main = Z;", "Z")
	wantNone(t, "main = Z Y q;", "Z") // ahead of its kids
	wantNone(t, "main = Z q;", "Z")
	wantNone(t, "main = Just Z Y;", "Z")
	wantNone(t, "main = (Z) q;", "Z")
	wantNone(t, "main = 1 + Z;", "Z")
	wantNone(t, "data A 0; main = A AA;", "AA")
	wantNone(t, "main = case Z of {Y -> 1};", "Z")
	wantNone(t, "main = case 1 of {Y a a -> q};", "Y") // ahead of its names
	wantNone(t, "main = case 1 of {Just a b -> 1; Y -> 1};", "Y")
	wantNone(t, "main = case 1 of {Just a b -> 1; 1 -> Z; Y -> 1};", "Z")
	wantNone(t, "main = case 1 of {Just a b -> Z; Y -> 1};", "Z")
	wantNone(t, `main = let a = \b -> Z in Y;`, "Z")
	wantSound(t, "data A 0 B 1; main = A B (Just B) (case B of {A -> A; B -> B; Just -> True});")
}

// As many as are asked are layer 11's matter.
func TestP101NotAsked(t *testing.T) {
	many := "a1"
	for i := 2; i <= 40; i++ {
		many += " a" + strconv.Itoa(i)
	}
	for _, s := range []string{
		"main = Just;", "main = Just 1 2;", "main = True 1;", "data A 2; main = A;", "main = weak;", "main = seq 1 2 3;", "main = deref float trunc;",
		"main = case 1 of {Just -> 1; True a b -> 1; Just a b c -> a};", "main = case 1 of {1 -> 1; 1 -> 1; a -> 1; b -> 1; Just -> 1; Just -> 1};",
		"main x y = 1;", "main " + many + " = " + many + ";", `main = \` + many + " -> " + many + ";", "main = case 1 of {Just " + many + " -> " + many + "};", "main = 1 0f3ff8000000000000 #-1;",
	} {
		wantSound(t, s)
	}
}

// piece is a piece of a source; where it may be faulty, the one that is faulty
// and the one that isn't, the fault, and when that comes.
type piece struct {
	when      int
	bad, good string
	e         api.Errno
	name      string
}

func text(s string) piece { return piece{good: s} }

func twice(when int, name, good string) piece { return piece{when, name, good, api.ErrTwice, name} }

func none(when int, name, good string) piece { return piece{when, name, good, api.ErrNone, name} }

// faulty is a source with each fault that the chapter names, in each place.
var faulty = []piece{
	text("f p "), twice(50, "p", "q"), text(" = g "), none(51, "u1", "p"), text(" ("), none(52, "U2", "A"), text(" "), none(53, "u3", "q"), text(" "), none(54, "U4", "B"), text(") ("),
	none(55, "u5", "p"), text(" + "), none(56, "u6", "f"), text(") (seq "), none(57, "u7", "main2"), text(" "), none(58, "u8", "f"), text(") "), none(59, "u9", "p"), text(";"),
	text("data A 1 "), twice(1, "Just", "B"), text(" 0 C 1 "), twice(2, "C", "D"), text(" 2;"),
	text("g p = let a r "), twice(62, "r", "s"), text(" = a r b "), none(63, "u10", "c"), text("; b = "), none(64, "u11", "r2"), text(" a; "), twice(60, "a", "c"), text(" = 1; r2 = 1; "), twice(61, "b", "d"), text(" r "), twice(65, "r", "s"), text(" = "), none(66, "u12", "r"), text(" p in a b "), none(67, "u13", "p"), text(";"),
	text("h p = case g "), none(70, "u14", "p"), text(" of {"), none(71, "U15", "A"), text(" s "), twice(72, "s", "t"), text(" -> s "), none(73, "u16", "p"), text("; 1 -> "), none(74, "u17", "p"), text("; w -> w "), none(75, "u18", "w"), text("; "), none(76, "U19", "B"), text(" s r "), twice(77, "r", "t"), text(" -> "), none(78, "u20", "r"), text("};"),
	twice(10, "f", "f2"), text(" = "), none(80, "u21", "f"), text(";"),
	text(`main2 p = \k p `), twice(81, "k", "l"), text(" -> k p "), none(82, "u22", "k"), text(" ("), none(83, "U23", "Nothing"), text(` p) (\k -> `), none(84, "u24", "k"), text(") "), none(85, "u25", "k"), text(";"),
	{20, "other", "main", api.ErrName, "main"}, text(" = "), none(90, "u26", "1"), text(";"),
	twice(11, "g", "g2"), text(" p "), twice(91, "p", "q"), text(" = "), none(92, "u27", "q"), text(";"),
}

// wantFirst is of the source in which these pieces are faulty: what comes first
// of them is told.
func wantFirst(t *testing.T, bad func(piece) bool) {
	t.Helper()
	s := ""
	first := piece{when: math.MaxInt}
	for _, x := range faulty {
		if x.when == 0 || !bad(x) {
			s += x.good
			continue
		}
		s += x.bad
		if x.when < first.when {
			first = x
		}
	}
	wantOf(t, s, first.e, first.name)
}

func TestP101Order(t *testing.T) {
	wantFirst(t, func(piece) bool { return false })
	var all []piece
	for _, x := range faulty {
		if x.when > 0 {
			all = append(all, x)
		}
	}
	slices.SortFunc(all, func(a, b piece) int { return a.when - b.when })
	for i, x := range all {
		if i > 0 && all[i-1].when == x.when {
			t.Fatal(x)
		}
		wantFirst(t, func(y piece) bool { return y.when == x.when })
		wantFirst(t, func(y piece) bool { return y.when >= x.when })
		for _, z := range all[:i] {
			wantFirst(t, func(y piece) bool { return y.when == x.when || y.when == z.when })
		}
	}
}

// strange are names that no source has.
var strange = []string{"", " ", "\x00", "\xff", "x y", "x\x00", "X", "True", "let", "main ", "Main", "+", "1", "é", "e\u0301", "(", strings.Repeat("long", 5000), strings.Repeat("long", 5000) + "r"}

// TestP101Strange has names that may be any texts, each in each place.
func TestP101Strange(t *testing.T) {
	main := bind("main", num(1))
	one := func(name string, body api.Expr) api.Bind { return api.Bind{Name: name, Body: body} }
	for _, x := range strange {
		names := []string{x}
		bound := []api.Expr{
			let(v(x), one(x, v(x))), {Kind: api.ELam, Params: names, Kids: []api.Expr{v(x)}}, choice(num(1), elseAlt(x, v(x))), choice(num(1), api.Alt{Kind: api.ACon, Name: "Just", Names: names, Body: v(x)}),
			let(num(1), api.Bind{Name: "f", Params: names, Body: v(x)}), let(num(1), one("f", v("f")), one(x, v("f"))), op(x), op(x, num(1)),
		}
		for _, e := range bound {
			want(t, module(main, bind("f", e)), api.OK, "")
			want(t, module(main, bind("f", app(e, v(x)))), api.ErrNone, x)
			want(t, module(main, one(x, app(e, v(x)))), api.OK, "")
			want(t, module(main, api.Bind{Name: "f", Params: names, Body: app(e, v(x))}), api.OK, "")
		}
		want(t, module(main, one(x, num(1)), bind("f", num(1)), one(x, num(1))), api.ErrTwice, x)
		want(t, module(main, api.Bind{Name: "f", Params: []string{x, "y", x}}), api.ErrTwice, x)
		want(t, module(main, bind("f", let(num(1), one(x, num(1)), one(x, num(1))))), api.ErrTwice, x)
		want(t, module(main, bind("f", api.Expr{Kind: api.ELam, Params: []string{x, x}, Kids: []api.Expr{num(1)}})), api.ErrTwice, x)
		want(t, module(main, bind("f", choice(num(1), api.Alt{Kind: api.ACon, Name: "Just", Names: []string{x, x}, Body: num(1)}))), api.ErrTwice, x)
		want(t, module(one(x, num(1))), api.ErrName, "main")
		if x != "True" {
			sound := api.Module{Cons: []api.Decl{{Name: x, Arity: -5}}, Binds: []api.Bind{main, bind("f", con(x, con(x))), bind("g", choice(num(1), api.Alt{Kind: api.ACon, Name: x, Body: con(x)}))}}
			want(t, sound, api.OK, "")
			sound.Cons = append(sound.Cons, api.Decl{Name: x, Arity: 7})
			want(t, sound, api.ErrTwice, x)
			want(t, module(main, bind("f", con(x, v("q")))), api.ErrNone, x)
			want(t, module(main, bind("f", choice(num(1), api.Alt{Kind: api.ACon, Name: x, Names: []string{"a", "a"}}))), api.ErrNone, x)
		}
		for _, y := range strange {
			if x != y {
				want(t, module(main, api.Bind{Name: "f", Params: []string{x, y}, Body: app(v(x), v(y))}, one(x, v(x)), one(y, app(v(x), v(y)))), api.OK, "")
				want(t, module(main, api.Bind{Name: x, Params: names, Body: v(y)}), api.ErrNone, y)
			}
		}
	}
	// What has no name binds none, the empty one neither.
	for _, e := range []api.Expr{v(""), choice(num(1), numAlt(1, v(""))), choice(v(""), numAlt(1, num(1))), app(num(1), v("")), lam("x", v("")), let(v(""), bind("x", num(1))), choice(num(1), conAlt("Just x", v("")))} {
		want(t, module(main, bind("f", e)), api.ErrNone, "")
	}
}

// Names and constructors are none of each other's.
func TestP101Apart(t *testing.T) {
	main := bind("main", num(1))
	cons := []api.Decl{{Name: "f"}, {Name: "main"}, {Name: "x", Arity: 1}}
	want(t, api.Module{Cons: cons, Binds: []api.Bind{main, bind("f x", app(v("x"), con("x"), con("f"), con("main")))}}, api.OK, "")
	want(t, api.Module{Cons: cons, Binds: []api.Bind{main, bind("g", v("f"))}}, api.ErrNone, "f")
	want(t, api.Module{Cons: cons, Binds: []api.Bind{main, bind("True Just", app(v("Just"), v("True"), con("True"), con("Just")))}}, api.OK, "")
	want(t, module(main, bind("g", v("True"))), api.ErrNone, "True")
	want(t, module(main, bind("g x", con("x"))), api.ErrNone, "x")
	want(t, module(main, bind("g", con("g"))), api.ErrNone, "g")
	want(t, module(main, bind("g", let(con("y"), bind("y", num(1))))), api.ErrNone, "y")
	want(t, module(main, bind("g", choice(num(1), conAlt("g", num(1))))), api.ErrNone, "g")
	want(t, module(main, bind("g", choice(num(1), elseAlt("True", v("True")), elseAlt("y", v("True"))))), api.ErrNone, "True")
	want(t, api.Module{Cons: cons, Binds: []api.Bind{main, bind("g", choice(num(1), conAlt("x x", v("x")), conAlt("f x f", app(v("x"), v("f")))))}}, api.OK, "")
	want(t, api.Module{Cons: cons, Binds: []api.Bind{main, bind("g", choice(num(1), conAlt("x y", v("x"))))}}, api.ErrNone, "x")
}

// Modules of a source's utmost size, and depth.
func TestP101Large(t *testing.T) {
	var cons []api.Decl
	var binds, locals []api.Bind
	for i := range 800 {
		n := strconv.Itoa(i)
		cons = append(cons, api.Decl{Name: "C" + n})
		binds = append(binds, bind("f"+n+" x", app(v("x"), v("f"+strconv.Itoa(799-i)), con("C"+n))))
		locals = append(locals, bind("a"+n+" x", app(v("x"), v("a"+strconv.Itoa(799-i)))))
	}
	m := api.Module{Cons: cons, Binds: append(slices.Clone(binds), bind("main", let(v("a799"), locals...)))}
	want(t, m, api.OK, "")
	want(t, api.Module{Cons: append(slices.Clone(cons), cons[0]), Binds: m.Binds}, api.ErrTwice, "C0")
	want(t, api.Module{Cons: cons, Binds: append(slices.Clone(m.Binds), binds[799])}, api.ErrTwice, "f799")
	want(t, api.Module{Cons: cons[:799], Binds: m.Binds}, api.ErrNone, "C799")
	want(t, api.Module{Cons: cons, Binds: m.Binds[1:]}, api.ErrNone, "f0")
	want(t, api.Module{Cons: cons, Binds: binds}, api.ErrName, "main")
	m.Binds[800] = bind("main", let(v("a0"), append(locals, locals[5])...))
	want(t, m, api.ErrTwice, "a5")

	deep := v("x0")
	for i := 199; i >= 0; i-- {
		n, outer := "x"+strconv.Itoa(i), v("x"+strconv.Itoa(i/2))
		deep = []api.Expr{lam(n+" y", app(outer, deep)), let(deep, bind(n, outer)), choice(v("main"), elseAlt(n, deep)), choice(v("main"), conAlt("Just "+n, deep))}[i%4]
	}
	want(t, module(bind("main", deep)), api.OK, "")
	want(t, module(bind("main", app(deep, v("x199")))), api.ErrNone, "x199")
	inner := app(v("x0"), v("x199"), v("x200"))
	for i := 199; i >= 0; i-- {
		inner = lam("x"+strconv.Itoa(i), inner)
	}
	want(t, module(bind("main", inner)), api.ErrNone, "x200")
	want(t, module(bind("main x200", inner)), api.OK, "")
	params := strings.Repeat("a ", 2000)
	want(t, module(bind("main "+params, deep)), api.ErrTwice, "a")
}

// What layer 8 tells no source by has no fault that is promised, but no call
// panics.
func TestP101Wrong(t *testing.T) {
	x := v("main")
	for _, kind := range []int{math.MinInt, -1, 0, 1, 2, 3, 4, 5, 6, 7, 8, 9, 1000, math.MaxInt} {
		for n := range 3 {
			e := api.Expr{Kind: kind, Name: "x", Params: []string{"", "x"}, Kids: slices.Repeat([]api.Expr{{}, x}, n), Binds: make([]api.Bind, n), Alts: make([]api.Alt, n)}
			scope.Check(module(bind("main", e)))
			scope.Check(module(bind("main", app(e, e))))
			scope.Check(module(bind("main", choice(x, api.Alt{Kind: kind, Names: []string{"x"}, Body: e}))))
			scope.Check(api.Module{Binds: []api.Bind{{Body: e}}})
		}
	}
	scope.Check(api.Module{Cons: make([]api.Decl, 2), Binds: make([]api.Bind, 2)})
}

// shares is whether a text lies in the memory of another.
func shares(s, other string) bool {
	at, begin := uintptr(unsafe.Pointer(unsafe.StringData(s))), uintptr(unsafe.Pointer(unsafe.StringData(other)))
	return s != "" && other != "" && at >= begin && at < begin+uintptr(len(other))
}

func TestP101NewMemory(t *testing.T) {
	long := string([]byte("abcdefghijklmnop"))
	main := bind("main", num(1))
	m := api.Module{Cons: []api.Decl{{Name: long, Arity: 1}, {Name: "A", Arity: 2}}, Binds: []api.Bind{main}}
	first, second := scope.Cons(m), scope.Cons(m)
	for _, d := range slices.Concat(first, second) {
		if shares(d.Name, long) {
			t.Errorf("%q shares memory with what was handed in", d.Name)
		}
	}
	for i := range first {
		first[i] = api.Decl{Name: "other", Arity: 9}
	}
	_ = append(first, api.Decl{Name: "more"})
	if all := slices.Concat(own, m.Cons); !slices.Equal(second, all) || !slices.Equal(scope.Cons(m), all) || m.Cons[0].Name != long {
		t.Error(second, scope.Cons(m), m)
	}
	want(t, m, api.OK, "")
	for _, m := range []api.Module{
		{Cons: []api.Decl{{Name: long}, {Name: long}}}, module(main, bind(long, num(1)), bind(long, num(1))), module(main, bind("f", v(long))), module(main, bind("f", con(long))), module(main, api.Bind{Name: "f", Params: []string{long, long}}),
		module(main, bind("f", choice(num(1), api.Alt{Kind: api.ACon, Name: long}))),
	} {
		for range 2 {
			if e, name := scope.Check(m); e == api.OK || name != long || shares(name, long) {
				t.Errorf("Check(%q) = %d, %q", show.Module(m), e, name)
			}
		}
	}
}

// What is handed in is not changed, its spare room neither, and the same is
// answered of it again.
func TestP101Unchanged(t *testing.T) {
	spare := func(names ...string) []string { return append(names, "spare", "more")[:len(names)] }
	params, names := spare("a", "b"), spare("c", "d")
	kids := append([]api.Expr{con("A"), v("a")}, v("spare"))[:2]
	alts := append([]api.Alt{{Kind: api.ACon, Name: "A", Names: names, Body: app(kids...)}}, elseAlt("spare", v("q")))[:1]
	binds := append([]api.Bind{{Name: "f", Params: params, Body: app(kids...)}}, bind("spare", v("q")))[:1]
	e := api.Expr{Kind: api.ELet, Binds: binds, Kids: []api.Expr{{Kind: api.ECase, Kids: []api.Expr{{Kind: api.ELam, Params: params, Kids: kids[:1]}}, Alts: alts}}}
	cons := append([]api.Decl{{Name: "A", Arity: 2}}, api.Decl{Name: "Spare", Arity: 3})[:1]
	globals := append([]api.Bind{{Name: "main", Params: params, Body: e}}, bind("spare", v("q")))[:1]
	m := api.Module{Cons: cons, Binds: globals}
	source := show.Module(m)
	for range 3 {
		want(t, m, api.OK, "")
		want(t, api.Module{Binds: globals}, api.ErrNone, "A")
		if l := scope.Cons(m); !slices.Equal(l, slices.Concat(own, cons)) {
			t.Error(l)
		}
	}
	if show.Module(m) != source {
		t.Error(show.Module(m))
	}
	if params[:4][2] != "spare" || names[:4][2] != "spare" || kids[:3][2].Name != "spare" || alts[:2][1].Name != "spare" || binds[:2][1].Name != "spare" || cons[:2][1].Name != "Spare" || globals[:2][1].Name != "spare" {
		t.Error("spare room was changed")
	}
}

func TestP101Examples(t *testing.T) {
	wantNone(t, `main = \x -> y;`, "y")
	wantSound(t, `main = \x -> x;`)
}

func TestP102More(t *testing.T) {
	for _, s := range []string{
		"main = 1;", "main = main;", "f x y = x y f; main = f;", `data A 2; f = \x -> A x f; main x = case x of {A a b -> f a b; y -> y}; g = let f f = f; g = f in g;`,
	} {
		m, _, _ := parse.Parse(s)
		want(t, m, api.OK, "")
		for _, other := range m.Binds {
			for at := range len(m.Binds) + 1 {
				for _, name := range []string{"new", "x", "a", "y", "Just", "A", "", "mai", "ff"} {
					wantMore(t, m, at, api.Bind{Name: name, Params: other.Params, Body: other.Body}, api.OK, "")
				}
				for _, b := range m.Binds {
					wantMore(t, m, at, api.Bind{Name: b.Name, Params: other.Params, Body: other.Body}, api.ErrTwice, b.Name)
				}
			}
		}
	}
	// The other one's parameters are needed where its body asks for them.
	m, _, _ := parse.Parse("f x = x; main = f;")
	wantMore(t, m, 2, api.Bind{Name: "new", Body: m.Binds[0].Body}, api.ErrNone, "x")
	wantMore(t, m, 2, api.Bind{Name: "x", Body: m.Binds[0].Body}, api.OK, "")
	wantMore(t, m, 2, api.Bind{Name: "new", Body: m.Binds[1].Body}, api.OK, "")
}
