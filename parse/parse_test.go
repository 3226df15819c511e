package parse_test

import (
	"math"
	"slices"
	"strconv"
	"strings"
	"testing"
	"unsafe"

	"treadwheel/api"
	"treadwheel/parse"
)

// What expressions are.

func v(name string) api.Expr { return api.Expr{Kind: api.EVar, Name: name} }

func con(name string, kids ...api.Expr) api.Expr {
	return api.Expr{Kind: api.ECon, Name: name, Kids: kids}
}

func op(name string, kids ...api.Expr) api.Expr {
	return api.Expr{Kind: api.EOp, Name: name, Kids: kids}
}

func app(kids ...api.Expr) api.Expr { return api.Expr{Kind: api.EApp, Kids: kids} }

func integer(n int64) api.Num { return api.Num{Bits: uint64(n)} }

func flt(f float64) api.Num { return api.Num{Float: true, Bits: math.Float64bits(f)} }

func num(n int64) api.Expr { return api.Expr{Kind: api.ENum, Num: integer(n)} }

func let(body api.Expr, binds ...api.Bind) api.Expr {
	return api.Expr{Kind: api.ELet, Binds: binds, Kids: []api.Expr{body}}
}

func choice(asked api.Expr, alts ...api.Alt) api.Expr {
	return api.Expr{Kind: api.ECase, Kids: []api.Expr{asked}, Alts: alts}
}

func lam(params string, body api.Expr) api.Expr {
	return api.Expr{Kind: api.ELam, Params: strings.Fields(params), Kids: []api.Expr{body}}
}

// bind is of a name and parameters.
func bind(names string, body api.Expr) api.Bind {
	all := strings.Fields(names)
	return api.Bind{Name: all[0], Params: all[1:], Body: body}
}

func conAlt(names string, body api.Expr) api.Alt {
	all := strings.Fields(names)
	return api.Alt{Kind: api.ACon, Name: all[0], Names: all[1:], Body: body}
}

func numAlt(n api.Num, body api.Expr) api.Alt {
	return api.Alt{Kind: api.ANum, Num: n, Body: body}
}

func elseAlt(name string, body api.Expr) api.Alt {
	return api.Alt{Kind: api.AElse, Name: name, Body: body}
}

func number(n api.Num) string {
	if n.Float {
		return "0f" + strconv.FormatUint(n.Bits, 16)
	}
	return strconv.FormatInt(int64(n.Bits), 10)
}

// dump is all that a module holds, the same for a nil list and an empty one.
func dump(m api.Module) string {
	var b strings.Builder
	for _, c := range m.Cons {
		b.WriteString(c.Name + "/" + strconv.Itoa(c.Arity) + " ")
	}
	dumpBinds(&b, m.Binds)
	return b.String()
}

func dumpBinds(b *strings.Builder, binds []api.Bind) {
	for _, x := range binds {
		b.WriteString("[" + x.Name + "(" + strings.Join(x.Params, ",") + ")=")
		dumpExpr(b, x.Body)
		b.WriteString("]")
	}
}

func dumpExpr(b *strings.Builder, x api.Expr) {
	b.WriteString("<" + strconv.Itoa(x.Kind) + ":" + x.Name + ":" + number(x.Num) + ":" + strings.Join(x.Params, ",") + ":")
	dumpBinds(b, x.Binds)
	for _, k := range x.Kids {
		dumpExpr(b, k)
	}
	for _, a := range x.Alts {
		b.WriteString("|" + strconv.Itoa(a.Kind) + ":" + a.Name + ":" + number(a.Num) + ":" + strings.Join(a.Names, ",") + ":")
		dumpExpr(b, a.Body)
	}
	b.WriteString(">")
}

func wantModule(t *testing.T, s string, want api.Module) {
	t.Helper()
	m, e, line := parse.Parse(s)
	if dump(m) != dump(want) || e != api.OK || line != 0 {
		t.Errorf("Parse(%.300q) = %.600s, %d, %d; want %.600s", s, dump(m), e, line, dump(want))
	}
}

// wantExpr is of a source that is one expression.
func wantExpr(t *testing.T, s string, want api.Expr) {
	t.Helper()
	wantModule(t, "f = "+s+";", api.Module{Binds: []api.Bind{bind("f", want)}})
}

func wantError(t *testing.T, s string, e api.Errno, line int) {
	t.Helper()
	m, f, at := parse.Parse(s)
	if f != e || at != line || len(m.Cons)+len(m.Binds) != 0 {
		t.Errorf("Parse(%.60q) = %.60s, %d, %d; want %d, %d", s, dump(m), f, at, e, line)
	}
}

func TestP81Modules(t *testing.T) {
	x := v("x")
	for s, want := range map[string]api.Module{
		"":                                  {},
		" \n-- f = \n\t":                    {},
		"data;":                             {},
		"data;data ; data\n;":               {},
		"data Nil 0;":                       {Cons: []api.Decl{{Name: "Nil", Arity: 0}}},
		"data A 24 B #24 C 1 D #0;":         {Cons: []api.Decl{{Name: "A", Arity: 24}, {Name: "B", Arity: 24}, {Name: "C", Arity: 1}, {Name: "D", Arity: 0}}},
		"data A 1 A 2; data A 1;":           {Cons: []api.Decl{{Name: "A", Arity: 1}, {Name: "A", Arity: 2}, {Name: "A", Arity: 1}}}, // twice: no matter here
		"f = x;":                            {Binds: []api.Bind{bind("f", x)}},
		"f x = g (x + 1);":                  {Binds: []api.Bind{bind("f x", app(v("g"), op("+", x, num(1))))}},
		"f x x f = x; f = x;":               {Binds: []api.Bind{bind("f x x f", x), bind("f", x)}},
		"b=x;data B 2;a y=x;data;data A 1;": {Cons: []api.Decl{{Name: "B", Arity: 2}, {Name: "A", Arity: 1}}, Binds: []api.Bind{bind("b", x), bind("a y", x)}},
	} {
		wantModule(t, s, want)
	}
}

func TestP81Rows(t *testing.T) {
	f, g, x, y := v("f"), v("g"), v("x"), v("y")
	for s, want := range map[string]api.Expr{
		"x": x, "(x)": x, "((x))": x, "1": num(1), "#-1": num(-1), "(0)": num(0), "9223372036854775807": num(math.MaxInt64), "#-9223372036854775808": num(math.MinInt64),
		"0f3ff8000000000000": {Kind: api.ENum, Num: flt(1.5)}, "#0f8000000000000000": {Kind: api.ENum, Num: flt(math.Copysign(0, -1))}, "0f0000000000000000": {Kind: api.ENum, Num: flt(0)},
		"Nil": con("Nil"), "(Nil)": con("Nil"), "weak": op("weak"), "(seq)": op("seq"), "deref": op("deref"), "float": op("float"), "trunc": op("trunc"),
		"f x": app(f, x), "f x y": app(f, x, y), "(f x) y": app(app(f, x), y), "f (x y)": app(f, app(x, y)), "(f) x": app(f, x), "(f x)": app(f, x), "((f x) y)": app(app(f, x), y), "f (x) (y)": app(f, x, y),
		"1 x": app(num(1), x), "f 1 #-2 0f0000000000000000": app(f, num(1), num(-2), api.Expr{Kind: api.ENum, Num: flt(0)}),
		"Cons x y": con("Cons", x, y), "(Cons x) y": app(con("Cons", x), y), "(Cons) x y": app(con("Cons"), x, y), "((Cons)) x": app(con("Cons"), x), "Cons (x y)": con("Cons", app(x, y)), "Cons Cons Nil": con("Cons", con("Cons"), con("Nil")), "Cons 25": con("Cons", num(25)), "(Cons x)": con("Cons", x),
		"weak x y": op("weak", x, y), "(weak x) y": app(op("weak", x), y), "(weak) x y": app(op("weak"), x, y), "seq trunc float": op("seq", op("trunc"), op("float")), "weak Nil": op("weak", con("Nil")), "Nil weak": con("Nil", op("weak")), "f Nil weak": app(f, con("Nil"), op("weak")), "deref x y 1": op("deref", x, y, num(1)),
		"x + y": op("+", x, y), "x+y": op("+", x, y), "(x + y)": op("+", x, y), "f x - g y": op("-", app(f, x), app(g, y)), "(x + y) * 1": op("*", op("+", x, y), num(1)), "x +(y + 1)": op("+", x, op("+", y, num(1))), "(x+y) x": app(op("+", x, y), x),
		"Nil == Nil x": op("==", con("Nil"), con("Nil", x)), "weak x < y": op("<", op("weak", x), y), "x - -- y\n 1": op("-", x, num(1)), "x-1": op("-", x, num(1)), "x #-1": app(x, num(-1)), "x-#-1": op("-", x, num(-1)),
	} {
		wantExpr(t, s, want)
	}
	for _, sign := range []string{"+", "-", "*", "/", "%", "==", "<", "+.", "-.", "*.", "/.", "==.", "<."} {
		wantExpr(t, "x "+sign+" y", op(sign, x, y))
		wantExpr(t, "f (x "+sign+" y) "+sign+" f x", op(sign, app(f, op(sign, x, y)), app(f, x)))
	}
	wantExpr(t, "f"+strings.Repeat(" x", 4000), app(append([]api.Expr{f}, slices.Repeat([]api.Expr{x}, 4000)...)...))
}

func TestP81Expressions(t *testing.T) {
	f, g, x, y := v("f"), v("g"), v("x"), v("y")
	for s, want := range map[string]api.Expr{
		"let x = 1 in x": let(x, bind("x", num(1))), "let f x = x y; x = f in f x": let(app(f, x), bind("f x", app(x, y)), bind("x", f)), "let f x y x = Nil; f = x in 1": let(num(1), bind("f x y x", con("Nil")), bind("f", x)),
		"let f = let g = 1; x = 2 in 3 in 4":   let(num(4), bind("f", let(num(3), bind("g", num(1)), bind("x", num(2))))),
		"let f = 1 in let g = 2 in x + y":      let(let(op("+", x, y), bind("g", num(2))), bind("f", num(1))),
		"let f = (let g = 1 in g); x = y in x": let(x, bind("f", let(g, bind("g", num(1)))), bind("x", y)),
		"case x of {}":                         choice(x), "case f x + y of { }": choice(op("+", app(f, x), y)), "(case (x) of {})": choice(x),
		"case x of {y -> 1}": choice(x, elseAlt("y", num(1))), "case x of {Nil -> 1}": choice(x, conAlt("Nil", num(1))), "case x of {0 -> 1}": choice(x, numAlt(integer(0), num(1))),
		"case x of {Cons x y -> x y; #-3 -> y; 0f3ff8000000000000 -> 2; y -> x; Nil -> 1; 25 -> 2}": choice(x, conAlt("Cons x y", app(x, y)), numAlt(integer(-3), y), numAlt(flt(1.5), num(2)), elseAlt("y", x), conAlt("Nil", num(1)), numAlt(integer(25), num(2))),
		"case case x of {} of {y -> case y of {1 -> 2; x -> 3}; 4 -> 5}":                            choice(choice(x), elseAlt("y", choice(y, numAlt(integer(1), num(2)), elseAlt("x", num(3)))), numAlt(integer(4), num(5))),
		"case x of {Cons x x x -> 1; Cons -> 2; x -> 3; x -> 4}":                                    choice(x, conAlt("Cons x x x", num(1)), conAlt("Cons", num(2)), elseAlt("x", num(3)), elseAlt("x", num(4))),
		`\x -> x`: lam("x", x), `\x y x -> f x`: lam("x y x", app(f, x)), `\x -> \y -> x y`: lam("x", lam("y", app(x, y))), `(\x -> x) y`: app(lam("x", x), y), `f (\x->x+1)`: app(f, lam("x", op("+", x, num(1)))), `\x -> case x of {y -> \x -> let f = x in y}`: lam("x", choice(x, elseAlt("y", lam("x", let(y, bind("f", x)))))),
		"(let f = 1 in f) + (case x of {})": op("+", let(f, bind("f", num(1))), choice(x)), "Cons (let f = 1 in f) (\\x -> x)": con("Cons", let(f, bind("f", num(1))), lam("x", x)), "let f = \\x -> x; g = 1 in case f of {x -> let y = x in y; 1 -> 2}": let(choice(f, elseAlt("x", let(y, bind("y", x))), numAlt(integer(1), num(2))), bind("f", lam("x", x)), bind("g", num(1))),
		"(((let x = 1 in x)))": let(x, bind("x", num(1))), "case x of {A -> (1); B -> ((x)) y}": choice(x, conAlt("A", num(1)), conAlt("B", app(x, y))),
	} {
		wantExpr(t, s, want)
	}
	// What a let within a let's bind ends with is that let's own body.
	wantExpr(t, "let f = let g = 1 in g; x = y in x", let(x, bind("f", let(g, bind("g", num(1)))), bind("x", y)))
	wantExpr(t, "let f = let g = 1; x = y in g in x", let(x, bind("f", let(g, bind("g", num(1)), bind("x", y)))))
}

// Each of these has its fault on line 2, or wants more behind it.
func TestP81Wrong(t *testing.T) {
	for _, s := range []string{
		// A module's parts.
		"\nF = x;", "\n1 = x;", "\n+ = x;", "\nweak = x;", "\n(f) = x;", "\n= x;", "\n;", "f = x;\n= z;", "f = x;\n;", "\nlet", "\nin", "\ncase", "\nof", "\n\\", "\n{", "\n}", "\n)", "\n->",
		"data\ndata;", "data\nf = x;", "data\nnil 0;", "data\n0;", "data Nil\nNil 0;", "data Nil\n;", "data Nil\nx;", "data Nil\nweak;", "data Nil\n+", "data Nil 0\n0;", "data Nil 0\nf = x;", "data Nil 0\n=", "data Nil 0\n{", "data Nil 0\ndata Nil 0;",
		// A bind's.
		"f\n1 = x;", "f\nNil = x;", "f\n(x) = x;", "f\nweak = x;", "f\n;", "f x\n-> x;", "f x\n== x;", "f x\n+ x;", "f =\n;", "f =\n= x;", "f = x\n= y;", "f = x\n}", "f = x\n)", "f = x\ndata Nil 0;", "f =\ndata;",
		// Rows.
		"f =\n+ x;", "f =\n- 1;", "f = x +\n;", "f = x +\n+ y;", "f = x + y\n+ z;", "f = x + y\n== z;", "f = (x + y\n- z);", "f = x +\nlet a = 1 in a;", "f = x +\n\\y -> y;", "f = x +\ncase x of {};", "f = x\nlet a = 1 in a;", "f = x\n\\y -> y;", "f = x\ncase x of {};", "f = Nil\nlet", "f = x\nin y;", "f = x\nof", "f = x\n->", "f = (x)\n)", "f =\n);", "f = (\n);", "f = (x\n;", "f = (x\n}", "f = (let x = 1 in x\n;", "f =\n{x};", "f =\n}", "f = x\n{",
		// Lets.
		"f = let\nin x;", "f = let\n;", "f = let x = 1;\nin x;", "f = let x = 1\n);", "f = let x = 1\n= 2 in x;", "f = let x = 1 in\n;", "f = let x = 1 in\nin x;", "f = let x = 1; y = 2\n}", "f = let\nNil = 1 in x;", "f = let\ndata Nil 0 in x;", "f = let x\nin x;", "f = let x =\nin x;", "f = let x = 1;\n; y = 2 in x;", "f = let x = 1;\ndata Nil 0; in x;", "f = let x = 1;\n2 in x;", "f = let\n1 in x;",
		// Cases.
		"f = case\nof {};", "f = case\n;", "f = case x\n{};", "f = case x\n;", "f = case x of\nA -> 1;", "f = case x of\n(", "f = case x of {\n;", "f = case x of {\n;}", "f = case x of {A -> 1;\n};", "f = case x of {A -> 1;\n; B -> 2};", "f = case x of {A -> 1\n);", "f = case x of {A -> B\n-> 2};", "f = case x of {A\n= 1};", "f = case x of {A\n1 -> 2};", "f = case x of {A\n25 -> 2};", "f = case x of {A x\nB -> 2};", "f = case x of {A\n(x) -> 2};", "f = case x of {1\nx -> 2};", "f = case x of {1\n1 -> 2};", "f = case x of {x\ny -> 2};", "f = case x of {x\nA -> 2};", "f = case x of {\n(A) -> 1};", "f = case x of {\nweak -> 1};", "f = case x of {\n+ -> 1};", "f = case x of {\n-> 1};", "f = case x of {A\n};", "f = case x of {A ->\n};", "f = case x of {A ->\n; B -> 1};", "f = case x of {A ->\n-> 1};", "f = case x of {}\nx;", "f = case x of {}\n+ x;", "f = case x of {}\n{};", "f = case x of {}\n}", "f = case x of {\nlet", "f = case x of {A -> 1}\nof",
		// Lambdas.
		"f = \\\n-> x;", "f = \\\n;", "f = \\\n1 -> x;", "f = \\\nNil -> x;", "f = \\x\n= x;", "f = \\x\n;", "f = \\x\n1 -> x;", "f = \\x ->\n;", "f = \\x ->\n-> x;", "f = \\x\n\\y -> x;", "f = \\\n(x) -> x;", "f = \\\nweak -> x;", "f = \\x -> x\n-> x;",
	} {
		wantError(t, s, api.ErrForm, 2)
		// What is ahead of it is sound, and what is behind it plays no part.
		first := strings.Split(s, "\n")[0]
		if first != "" && !strings.HasSuffix(first, "f = x;") {
			wantError(t, first, api.ErrEnd, 1)
			wantError(t, first+" \n\n-- \n", api.ErrEnd, 1)
		}
		for _, more := range []string{"\n", "\n;", "\n= = data Nil 99 (", " -- \n " + strings.Repeat("\n(", 300)} {
			wantError(t, s+more, api.ErrForm, 2)
		}
		wantError(t, "\n\nf = x;\n"+s, api.ErrForm, 5)
		wantError(t, s+"\n_", api.ErrForm, 2+strings.Count(s, "\n"))
	}
}

func TestP81Range(t *testing.T) {
	for _, text := range []string{"25", "#25", "26", "100", "256", "9223372036854775807", "#-1", "#-24", "#-9223372036854775808", "0f0000000000000000", "0f3ff0000000000000", "0f0000000000000001", "#0f0000000000000018", "0f7ff8000000000000", "0fffffffffffffffff"} {
		wantError(t, "data\nNil\n"+text+"\n;", api.ErrRange, 3)
		wantError(t, "data\nNil\n"+text, api.ErrRange, 3)
		wantError(t, "data Nil 0;\nf = x; data Cons 2\nBox "+text+" = (", api.ErrRange, 3)
		wantError(t, "data Nil "+text+"\n Nil 25", api.ErrRange, 1)
		// Not behind a constructor's name of a declaration.
		wantError(t, "data\n"+text, api.ErrForm, 2)
		wantError(t, "data Nil 3\n"+text, api.ErrForm, 2)
		wantError(t, "\n"+text, api.ErrForm, 2)
		wantError(t, "f = case x of { Nil\n"+text+" -> 1};", api.ErrForm, 2)
		m, e, line := parse.Parse("f = Nil " + text + "; g = case x of {" + text + " -> x; Nil -> " + text + "};")
		if e != api.OK || line != 0 || len(m.Binds) != 2 {
			t.Errorf("%s: %d, %d, %s", text, e, line, dump(m))
		}
	}
	for n := range 25 {
		for _, mark := range []string{"", "#"} {
			text := mark + strconv.Itoa(n)
			wantModule(t, "data A "+text+" B "+text+";", api.Module{Cons: []api.Decl{{Name: "A", Arity: n}, {Name: "B", Arity: n}}})
		}
	}
	// The fault that is told is the first one's.
	wantError(t, "data Nil\n25 =;", api.ErrRange, 2)
	wantError(t, "data =\nNil 25;", api.ErrForm, 1)
}

// plainNests are such as what stands in them is one deeper, with what is behind
// it.
var plainNests = [][2]string{
	{"(", ")"}, {"x (", ")"}, {"Nil x (", ") y"}, {"weak (", ")"}, {"x + (", ")"}, {"x y + z (", ")"}, {"(", ") + x"},
	{"let x = ", " in x"}, {"let x y z = ", "; y = x in x"}, {"case ", " of {}"}, {"case ", " of {Nil -> x; y -> z}"}, {`\x -> `, ""}, {`\x y z -> `, ""},
}

// nests are all of them; what stands in the others has an expression as deep as
// itself ahead of it.
var nests = slices.Concat(plainNests, [][2]string{
	{"let y = x; x = ", " in x"}, {"let x = y in ", ""}, {"let x = y; y = x in ", ""},
	{"case x of {Nil -> ", "}"}, {"case x of {Cons x y -> ", "; y -> x}"}, {"case x of {y -> x; 1 -> ", "}"}, {"case x of {y -> ", "}"},
})

// nested is an expression with so many around it.
func nested(around int, nest [2]string, inner string) string {
	return strings.Repeat(nest[0], around) + inner + strings.Repeat(nest[1], around)
}

func TestP81Deep(t *testing.T) {
	for _, nest := range nests {
		for _, inner := range []string{"x", "Nil", "1", "weak", "x y + z", "Nil x y"} {
			if m, e, line := parse.Parse("f = " + nested(199, nest, inner) + ";"); e != api.OK || line != 0 || len(m.Binds) != 1 {
				t.Errorf("199 of %q around %q: %d, %d", nest, inner, e, line)
			}
		}
		// One less deep than may be, an expression may begin, but none in it.
		begin := "f = " + strings.Repeat(nest[0], 199)
		wantError(t, begin+"\n(\n(", api.ErrBig, 3)
		wantError(t, begin+"\n\\x ->", api.ErrEnd, 2)
		wantError(t, begin+"\n\\x ->\nx", api.ErrBig, 3)
		wantError(t, begin+"\nlet x =\n1", api.ErrBig, 3)
		wantError(t, begin+"\nlet x = in\n1", api.ErrForm, 2)
		wantError(t, begin+"\ncase\nx", api.ErrBig, 3)
		wantError(t, begin+"\ncase\nof", api.ErrForm, 3)
	}
	wantError(t, "f = "+strings.Repeat("let x = y in ", 199)+"let x = \ny in y;", api.ErrBig, 2)
	wantError(t, "f = "+strings.Repeat("case x of {y -> ", 199)+"case \nx of {};", api.ErrBig, 2)
	wantError(t, "f = "+strings.Repeat("case x of {y -> ", 200), api.ErrBig, 1)
}

func TestP81DeepBegins(t *testing.T) {
	for _, nest := range plainNests {
		begin := "f = " + strings.Repeat(nest[0], 200)
		for _, s := range []string{"x", "Nil", "1", "weak", "(", "let", "case", `\`} {
			wantError(t, begin+"\n"+s, api.ErrBig, 2)
			wantError(t, begin+"\n"+s+"\n= = )", api.ErrBig, 2)
			wantError(t, begin+"\n"+s+"\n"+strings.Repeat("(", 300), api.ErrBig, 2)
			wantError(t, "f = "+nested(200, nest, "\n"+s)+";", api.ErrBig, 2)
			wantError(t, begin+nest[0]+s, api.ErrBig, 1)
		}
		for _, s := range []string{";", ")", "+", "in", "of", "data", "{", "}", "=", "->"} {
			wantError(t, begin+"\n"+s, api.ErrForm, 2)
		}
		wantError(t, begin, api.ErrEnd, 1)
		wantError(t, begin+"\n-- x", api.ErrEnd, 1)
		wantError(t, begin+"\n_", api.ErrForm, 2)
	}
	for _, a := range nests {
		for _, b := range plainNests {
			begin := "f = " + strings.Repeat(a[0], 120)
			wantError(t, begin+strings.Repeat(b[0], 79)+"\nx", api.ErrEnd, 2)
			wantError(t, begin+strings.Repeat(b[0], 80)+"\nx", api.ErrBig, 2)
		}
	}
}

// How deep is told of each by what it stands in, not by what was ahead of it.
func TestP81DeepEach(t *testing.T) {
	wantExpr(t, "x"+strings.Repeat(" (x)", 1300), app(slices.Repeat([]api.Expr{v("x")}, 1301)...))
	wantError(t, "f = "+strings.Repeat("(x) ", 1000)+"(", api.ErrEnd, 1)
	for _, nest := range nests {
		one, _, _ := parse.Parse("f = " + nested(60, nest, "x") + ";")
		x, inner := one.Binds[0].Body, "("+nested(60, nest, "x")+")"
		wantExpr(t, inner+" "+inner+" + "+inner+inner, op("+", app(x, x), app(x, x)))
		wantExpr(t, "let a = "+inner+"; b = "+inner+" in "+inner, let(x, bind("a", x), bind("b", x)))
		wantExpr(t, "case "+inner+" of {A -> "+inner+"; b -> "+inner+"}", choice(x, conAlt("A", x), elseAlt("b", x)))
	}
	deep, x := nested(199, nests[0], "x"), v("x")
	wantModule(t, "f = "+deep+";g = "+deep+";h = "+deep+";", api.Module{Binds: []api.Bind{bind("f", x), bind("g", x), bind("h", x)}})
	wantExpr(t, "("+nested(198, nests[0], "x")+") ("+nested(198, nests[0], "y")+") + "+nested(199, nests[0], "z"), op("+", app(x, v("y")), v("z")))
	wantError(t, "f = "+deep+" (\n"+deep+");", api.ErrBig, 2)
}

// Layer 7's errors go ahead of all others, wherever they stand.
func TestP81Lex(t *testing.T) {
	for _, x := range []struct {
		s    string
		e    api.Errno
		line int
	}{
		{"_", api.ErrForm, 1}, {"f = x;\n_", api.ErrForm, 2}, {"= = =\n\n.", api.ErrForm, 3}, {"data Nil 25;\nabcdefghijklmnopq", api.ErrLong, 2}, {"f =\n\n9223372036854775808", api.ErrRange, 3}, {"data Nil\n9223372036854775808;", api.ErrRange, 2}, {"data Nil\n007;", api.ErrForm, 2}, {"data Nil 25;\n007", api.ErrForm, 2},
		{"f = " + strings.Repeat("(", 201) + "x\nABCDEFGHIJKLMNOPQ", api.ErrLong, 2}, {"f\n#", api.ErrForm, 2}, {"\xff", api.ErrForm, 1}, {"f = \u03bb;", api.ErrForm, 1}, {"f = 'x';", api.ErrForm, 1},
	} {
		wantError(t, x.s, x.e, x.line)
	}
	full := strings.Repeat("f=x;", 1024)
	if m, e, line := parse.Parse(full); len(m.Binds) != 1024 || e != api.OK || line != 0 {
		t.Error(len(m.Binds), e, line)
	}
	wantError(t, full+"\n\nf=x;", api.ErrFull, 3)
	wantError(t, strings.Repeat(";", 4096)+"\n;", api.ErrFull, 2)
	wantError(t, strings.Repeat(";", 4096)+"\n", api.ErrForm, 1)
	wantError(t, strings.Repeat("(", 100000), api.ErrFull, 1)
	wantError(t, strings.Repeat("f=(\n", 1024), api.ErrForm, 2)
	wantError(t, strings.Repeat("x\n", 4096), api.ErrEnd, 4096)
	wantError(t, "data "+strings.Repeat("A 1\n", 2047)+"A", api.ErrEnd, 2048)
}

func TestP81Ends(t *testing.T) {
	s := "data\nNil\n0\n;\nf\nx\n=\nlet\ng\n=\ncase\n(\nx\n)\nof\n{\nA\nb\n->\nb\n;\n1\n->\nx\n}\nin\n\\\na\n->\nNil\na\n+\nweak\na\n;"
	lines := strings.Split(s, "\n")
	for i := 1; i <= len(lines); i++ {
		begin := strings.Join(lines[:i], "\n")
		if i == 4 || i == len(lines) {
			if m, e, line := parse.Parse(begin); e != api.OK || line != 0 || len(m.Cons) != 1 {
				t.Errorf("Parse(%q) answers %d, %d", begin, e, line)
			}
			continue
		}
		for _, behind := range []string{"", " ", "\n\n", " -- x\n\n--"} {
			wantError(t, begin+behind, api.ErrEnd, i)
			wantError(t, "\n--\n"+begin+behind, api.ErrEnd, i+2)
		}
	}
}

// list is a list of an answer: where it begins, and where its room ends.
type list struct{ from, to uintptr }

func listOf[T any](s []T) list {
	var one T
	from := uintptr(unsafe.Pointer(unsafe.SliceData(s)))
	return list{from, from + uintptr(cap(s))*unsafe.Sizeof(one)}
}

// look tells all lists and all texts of a module.
func look(m api.Module) (lists []list, texts []string) {
	lists = append(lists, listOf(m.Cons))
	for _, c := range m.Cons {
		texts = append(texts, c.Name)
	}
	names := func(s []string) {
		lists = append(lists, listOf(s))
		texts = append(texts, s...)
	}
	var expr func(x api.Expr)
	binds := func(bs []api.Bind) {
		lists = append(lists, listOf(bs))
		for _, b := range bs {
			texts = append(texts, b.Name)
			names(b.Params)
			expr(b.Body)
		}
	}
	expr = func(x api.Expr) {
		texts = append(texts, x.Name)
		names(x.Params)
		lists = append(lists, listOf(x.Kids), listOf(x.Alts))
		for _, k := range x.Kids {
			expr(k)
		}
		binds(x.Binds)
		for _, a := range x.Alts {
			texts = append(texts, a.Name)
			names(a.Names)
			expr(a.Body)
		}
	}
	binds(m.Binds)
	return lists, texts
}

func TestP81NewMemory(t *testing.T) {
	s := string([]byte("data Nil 0 Cons 2; data A 1; f x y = let g a = Cons a (Nil); h = \\u v w -> f u v w in (g h) (weak h 1) (Cons 1) + (case x of {Cons a b c -> (f) a b c; 3 -> (deref) y; z -> Cons z Nil 3 4});"))
	first, _, _ := parse.Parse(s)
	second, _, _ := parse.Parse(s)
	want := dump(first)
	lists, texts := look(first)
	more, _ := look(second)
	lists = slices.DeleteFunc(append(lists, more...), func(l list) bool { return l.from == l.to })
	if len(lists) < 40 {
		t.Errorf("only %d lists", len(lists))
	}
	slices.SortFunc(lists, func(a, b list) int { return int(int64(a.from) - int64(b.from)) })
	for i := range lists[1:] {
		if lists[i].to > lists[i+1].from {
			t.Errorf("two lists share: %v, %v", lists[i], lists[i+1])
		}
	}
	begin := uintptr(unsafe.Pointer(unsafe.StringData(s)))
	for _, x := range texts {
		if at := uintptr(unsafe.Pointer(unsafe.StringData(x))); x != "" && at >= begin && at < begin+uintptr(len(s)) {
			t.Errorf("%q is a piece of the source", x)
		}
	}
	second.Binds[0].Body.Binds[0].Name = "other"
	second.Cons[0].Arity = 7
	second.Binds[0].Params[0] = "other"
	third, _, _ := parse.Parse(s)
	if dump(first) != want || dump(third) != want {
		t.Error(dump(first), dump(third))
	}
}

// Fields that an expression's kind has no use for are zero.
func TestP81Fields(t *testing.T) {
	m, _, _ := parse.Parse("f = let g = x; h = Nil 1 in case g of {A b -> \\y -> f x; 2 -> weak; z -> g + h};")
	var expr func(x api.Expr)
	expr = func(x api.Expr) {
		k := x.Kind
		if (x.Name != "") != (k == api.EVar || k == api.ECon || k == api.EOp) || k != api.ENum && x.Num != (api.Num{}) || k != api.ELam && len(x.Params) > 0 || k != api.ELet && len(x.Binds) > 0 || k != api.ECase && len(x.Alts) > 0 || (k == api.EVar || k == api.ENum) && len(x.Kids) > 0 {
			t.Errorf("%+v", x)
		}
		for _, b := range x.Binds {
			expr(b.Body)
		}
		for _, a := range x.Alts {
			if (a.Name != "") == (a.Kind == api.ANum) || a.Kind != api.ANum && a.Num != (api.Num{}) || a.Kind != api.ACon && len(a.Names) > 0 {
				t.Errorf("%+v", a)
			}
			expr(a.Body)
		}
		for _, k := range x.Kids {
			expr(k)
		}
	}
	expr(m.Binds[0].Body)
}
