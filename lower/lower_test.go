package lower_test

import (
	"math"
	"reflect"
	"slices"
	"strconv"
	"strings"
	"testing"
	"treadwheel/arity"
	"unsafe"

	"treadwheel/api"

	"treadwheel/lower"
	"treadwheel/num"
	"treadwheel/parse"
	"treadwheel/scope"
	"treadwheel/show"
)

// What expressions are.

func v(name string) api.Expr { return api.Expr{Kind: api.EVar, Name: name} }

func con(name string, kids ...api.Expr) api.Expr {
	return api.Expr{Kind: api.ECon, Name: name, Kids: kids}
}

func op(name string, kids ...api.Expr) api.Expr {
	return api.Expr{Kind: api.EOp, Name: name, Kids: kids}
}

func app(kids ...api.Expr) api.Expr { return api.Expr{Kind: api.EApp, Kids: kids} }

func number(n api.Num) api.Expr { return api.Expr{Kind: api.ENum, Num: n} }

func integer(n int64) api.Expr { return number(num.Int(n)) }

func let(body api.Expr, binds ...api.Bind) api.Expr {
	return api.Expr{Kind: api.ELet, Binds: binds, Kids: []api.Expr{body}}
}

func choice(asked api.Expr, alts ...api.Alt) api.Expr {
	return api.Expr{Kind: api.ECase, Kids: []api.Expr{asked}, Alts: alts}
}

func lam(params []string, body api.Expr) api.Expr {
	return api.Expr{Kind: api.ELam, Params: params, Kids: []api.Expr{body}}
}

func bind(name string, params []string, body api.Expr) api.Bind {
	return api.Bind{Name: name, Params: params, Body: body}
}

func conAlt(name string, names []string, body api.Expr) api.Alt {
	return api.Alt{Kind: api.ACon, Name: name, Names: names, Body: body}
}

func numAlt(n int64, body api.Expr) api.Alt {
	return api.Alt{Kind: api.ANum, Num: num.Int(n), Body: body}
}

func elseAlt(name string, body api.Expr) api.Alt {
	return api.Alt{Kind: api.AElse, Name: name, Body: body}
}

// all are names, one each.
func all(names ...string) []string { return names }

// module is of binds, and a main behind them.
func module(binds ...api.Bind) api.Module {
	return api.Module{Binds: append(slices.Clone(binds), bind("main", nil, integer(1)))}
}

// How a program is written in these tests: its globals, its codes, its nodes,
// and the number of main ahead of them where that is not the last bind's.

func atomText(a api.Atom) string {
	if a.Global {
		return "g" + strconv.Itoa(a.N)
	}
	return "s" + strconv.Itoa(a.N)
}

func globalText(g api.Global) string {
	if g.Code == -1 {
		return num.Print(g.Num)
	}
	return "c" + strconv.Itoa(g.Code)
}

func codeText(c api.Code) string {
	name := c.Name
	if name == "" {
		name = "-"
	}
	return numbers(name, c.Free, c.Args, c.Node)
}

// numbers are a word's, behind it.
func numbers(word string, list ...int) string {
	for _, n := range list {
		word += " " + strconv.Itoa(n)
	}
	return word
}

func cloText(c api.Clo) string {
	s := " " + strconv.Itoa(c.Code) + ":"
	for i, x := range c.Caps {
		if i > 0 {
			s += ","
		}
		s += strconv.Itoa(x)
	}
	return s
}

func branchText(b api.Branch) string {
	switch b.Kind {
	case api.ACon:
		return numbers(" con", b.N, b.Arity, b.Node)
	case api.ANum:
		return numbers(" num", b.N, b.Node)
	}
	return numbers(" else", b.Node)
}

func nodeText(n api.Node) string {
	s := map[int]string{api.NApp: "app", api.NCon: "con", api.NOp: "op", api.NWeak: "weak", api.NSee: "see", api.NLet: "let", api.NCase: "case"}[n.Op]
	switch n.Op {
	case api.NApp:
		s += " " + atomText(n.F)
	case api.NCon, api.NOp:
		s = numbers(s, n.N)
	case api.NLet, api.NCase:
		s = numbers(s, n.Kid)
	}
	for _, a := range n.Args {
		s += " " + atomText(a)
	}
	for _, c := range n.Clos {
		s += cloText(c)
	}
	for _, b := range n.Branches {
		s += branchText(b)
	}
	return s
}

func texts[T any](list []T, text func(T) string) string {
	var all []string
	for _, x := range list {
		all = append(all, text(x))
	}
	return strings.Join(all, "; ")
}

func programText(p api.Program) string {
	return strings.ReplaceAll(texts(p.Globals, globalText), ";", "") + " | " + texts(p.Codes, codeText) + " | " + texts(p.Nodes, nodeText)
}

// named is a node without what the chapter doesn't name of its Op.
func named(n api.Node) api.Node {
	switch n.Op {
	case api.NApp:
		return api.Node{Op: n.Op, F: n.F, Args: n.Args}
	case api.NCon, api.NOp:
		return api.Node{Op: n.Op, N: n.N, Args: n.Args}
	case api.NWeak, api.NSee:
		return api.Node{Op: n.Op, Args: n.Args}
	case api.NLet:
		return api.Node{Op: n.Op, Kid: n.Kid, Clos: n.Clos}
	case api.NCase:
		return api.Node{Op: n.Op, Kid: n.Kid, Branches: n.Branches}
	}
	return api.Node{}
}

// namedBranch is likewise a branch.
func namedBranch(b api.Branch) api.Branch {
	switch b.Kind {
	case api.ACon:
		return b
	case api.ANum:
		return api.Branch{Kind: b.Kind, N: b.N, Node: b.Node}
	}
	return api.Branch{Kind: api.AElse, Node: b.Node}
}

// lowered is a module's program, which is held against all that is to be of any.
func lowered(t *testing.T, m api.Module) api.Program {
	t.Helper()
	p, e, name := lower.Lower(m)
	if e != api.OK || name != "" {
		t.Fatalf("Lower(%.600q) answers %d, %q", show.Module(m), e, name)
	}
	if cons := scope.Cons(m); !slices.Equal(p.Cons, cons) {
		t.Errorf("Lower(%.600q): constructors %v; want %v", show.Module(m), p.Cons, cons)
	}
	if at := slices.IndexFunc(m.Binds, func(b api.Bind) bool { return b.Name == "main" }); p.Main != at {
		t.Errorf("Lower(%.600q): main %d; want %d", show.Module(m), p.Main, at)
	}
	for i, n := range p.Nodes {
		if !reflect.DeepEqual(n, named(n)) || slices.ContainsFunc(n.Branches, func(b api.Branch) bool { return b != namedBranch(b) }) {
			t.Errorf("Lower(%.600q): node %d is %+v", show.Module(m), i, n)
		}
	}
	for i, g := range p.Globals {
		if g.Code != -1 && g.Num != (api.Num{}) || (g.Code == -1) != (i >= len(m.Binds)) {
			t.Errorf("Lower(%.600q): global %d is %+v", show.Module(m), i, g)
		}
	}
	return p
}

func read(t *testing.T, s string) api.Module {
	t.Helper()
	m, e, _ := parse.Parse(s)
	if e != api.OK {
		t.Fatalf("Parse(%q) answers %d", s, e)
	}
	return m
}

func want(t *testing.T, m api.Module, program string) {
	t.Helper()
	if got := programText(lowered(t, m)); got != program {
		t.Errorf("Lower(%q):\n got %s\nwant %s", show.Module(m), got, program)
	}
	wantWalked(t, m)
}

func wantOf(t *testing.T, s, program string) {
	t.Helper()
	want(t, read(t, s), program)
}

func TestP131Example(t *testing.T) {
	wantOf(t, "main = 1 + 1;", "c0 1 | main 0 0 4 | app g1; app g1; op 0 s0 s1; case 1 else 2; case 0 else 3")
}

func TestP131Names(t *testing.T) {
	for s, program := range map[string]string{
		"main = main;":                                                         "c0 | main 0 0 0 | app g0",
		"main = f; f = main;":                                                  "c0 c1 | main 0 0 0; f 0 0 1 | app g1; app g0",
		"f x y = y; main = f;":                                                 "c0 c1 | f 0 2 0; main 0 0 1 | app s1; app g0",
		"f x y z = f; main = f; g x = main;":                                   "c0 c1 c2 | f 0 3 0; main 0 0 1; g 0 1 2 | app g0; app g0; app g1",
		"f f = f; main = f;":                                                   "c0 c1 | f 0 1 0; main 0 0 1 | app s0; app g0",
		"f main = main f; main = main;":                                        "c0 c1 | f 0 1 0; main 0 0 1 | app s0 g0; app g1",
		`main = \x x1 -> x1;`:                                                  "c0 | main 0 0 2; - 0 2 0 | app s1; app s0; let 1 1:",
		`f x = \x -> x; main = f;`:                                             "c0 c1 | f 0 1 2; main 0 0 3; - 0 1 0 | app s0; app s1; let 1 2:; app g0",
		`f x = \y -> x; main = f;`:                                             "c0 c1 | f 0 1 2; main 0 0 3; - 1 1 0 | app s0; app s1; let 1 2:0; app g0",
		`f x = \y -> y; main = f;`:                                             "c0 c1 | f 0 1 2; main 0 0 3; - 0 1 0 | app s0; app s1; let 1 2:; app g0",
		`f x = case x of {x -> x}; main = f;`:                                  "c0 c1 | f 0 1 2; main 0 0 3 | app s0; app s1; case 0 else 1; app g0",
		`f x = case x of {x -> case x of {x -> x}}; main = f;`:                 "c0 c1 | f 0 1 4; main 0 0 5 | app s0; app s1; app s2; case 1 else 2; case 0 else 3; app g0",
		`f x = case (case x of {x -> x}) of {y -> x}; main = f;`:               "c0 c1 | f 0 1 4; main 0 0 5 | app s0; app s1; case 0 else 1; app s0; case 2 else 3; app g0",
		`f x = case x of {x -> x; x -> x; y -> x}; main = f;`:                  "c0 c1 | f 0 1 4; main 0 0 5 | app s0; app s1; app s1; app s0; case 0 else 1 else 2 else 3; app g0",
		`f x = case x of {Just x -> x; y -> x}; main = f;`:                     "c0 c1 | f 0 1 3; main 0 0 4 | app s0; app s1; app s0; case 0 con 3 1 1 else 2; app g0",
		`f a = let a = a in a; main = f;`:                                      "c0 c1 | f 0 1 2; main 0 0 3; a 1 0 0 | app s0; app s1; let 1 2:1; app g0",
		`f a = let f = a in f a; main = f;`:                                    "c0 c1 | f 0 1 2; main 0 0 3; f 1 0 0 | app s0; app s1 s0; let 1 2:0; app g0",
		`f a = let b a = a in b a; main = f;`:                                  "c0 c1 | f 0 1 2; main 0 0 3; b 0 1 0 | app s0; app s1 s0; let 1 2:; app g0",
		`f a = let a a = a in a a; main = f;`:                                  "c0 c1 | f 0 1 2; main 0 0 3; a 0 1 0 | app s0; app s1 s1; let 1 2:; app g0",
		`f a = let a = 1 in case a of {a -> let a = a in a}; main = f;`:        "c0 c1 1 | f 0 1 6; main 0 0 7; a 0 0 0; a 1 0 2 | app g2; app s1; app s0; app s3; let 3 3:3; case 1 else 4; let 5 2:; app g0",
		`f a = (let a = 1 in a) (let b = 2 in a) (\a -> a) a; main = 3;`:       "c0 c1 1 2 3 | f 0 1 8; main 0 0 9; - 0 0 2; a 0 0 0; - 1 0 5; b 0 0 3; - 0 1 6 | app g2; app s0; let 1 3:; app g3; app s0; let 4 5:; app s0; app s1 s2 s3 s0; let 7 2: 4:0 6:; app g4",
		`f a = case a of {Just a -> 1; 1 -> a; b -> a}; main = f;`:             "c0 c1 1 | f 0 1 4; main 0 0 5 | app s0; app g2; app s0; app s0; case 0 con 3 1 1 num 2 2 else 3; app g0",
		`f x = seq (case x of {x -> x}) (x (case x of {x -> x})); main = f;`:   "c0 c1 | f 0 1 8; main 0 0 9; - 1 0 5 | app s0; app s1; case 0 else 1; app s0; app s1; case 3 else 4; app s0 s2; let 6 2:0; case 2 else 7; app g0",
		`main = let main = main in main; f = main;`:                            "c0 c1 | main 0 0 2; f 0 0 3; main 1 0 0 | app s0; app s0; let 1 2:0; app g0",
		`f x = let f = x in let x = f in \y -> x f y main; main = f; g x = x;`: "c0 c1 c2 | f 0 1 6; main 0 0 7; g 0 1 8; f 1 0 0; x 1 0 1; - 2 1 2 | app s0; app s0; app s0 s1 s2 g1; app s3; let 3 5:2,1; let 4 4:1; let 5 3:0; app g0; app s0",
	} {
		wantOf(t, s, program)
	}
}

func TestP131Numbers(t *testing.T) {
	for s, program := range map[string]string{
		"main = 7;":                         "c0 7 | main 0 0 0 | app g1",
		"f = 1; main = 2; g = 1;":           "c0 c1 c2 1 2 | f 0 0 0; main 0 0 1; g 0 0 2 | app g3; app g4; app g3",
		"main = 2 1 2 3 1;":                 "c0 2 1 3 | main 0 0 0 | app g1 g2 g1 g3 g2",
		"f x = x; main = f 3 f 2; g = 2 3;": "c0 c1 c2 3 2 | f 0 1 0; main 0 0 1; g 0 0 2 | app s0; app g0 g3 g0 g4; app g4 g3",
		// From the left, a closure's within it.
		"main = main 1 (main 2) 3 (main 4 (main 5)) 6;":           "c0 1 2 3 4 5 6 | main 0 0 5; - 0 0 0; - 0 0 3; - 0 0 1 | app g0 g2; app g0 g5; app g0 g4 s0; let 2 3:; app g0 g1 s0 g3 s1 g6; let 4 1: 2:",
		"main = Just (Just 3) + 2;":                               "c0 3 2 | main 0 0 6; - 0 0 0 | con 3 g1; con 3 s0; let 1 1:; app g2; op 0 s0 s1; case 3 else 4; case 2 else 5",
		"main = weak 3 (main 1) 2;":                               "c0 3 1 2 | main 0 0 2; - 0 0 0 | app g0 g2; weak g1 s0 g3; let 1 1:",
		"main = let a = 3; b = 2 in 1;":                           "c0 3 2 1 | main 0 0 3; a 0 0 0; b 0 0 1 | app g1; app g2; app g3; let 2 1: 2:",
		"main = case 5 of {4 -> 3; 2 -> 5; 1 -> 2};":              "c0 5 4 3 2 1 | main 0 0 4 | app g1; app g3; app g1; app g4; case 0 num 2 1 num 4 2 num 5 3",
		"main = case 5 of {a -> 3; Just a -> 2; 3 -> 4; 1 -> 1};": "c0 5 3 2 4 1 | main 0 0 5 | app g1; app g2; app g3; app g4; app g5; case 0 else 1 con 3 1 2 num 2 3 num 5 4",
		// Those of one value, but of other kinds or bits, are others.
		"main = 0 0f0000000000000000 0f8000000000000000 #-9223372036854775808 #0 #9223372036854775807;": "c0 0 0f0000000000000000 0f8000000000000000 -9223372036854775808 9223372036854775807 | main 0 0 0 | app g1 g2 g3 g4 g1 g5",
		"main = case 1 of {0f3ff0000000000000 -> 1; 4607182418800017408 -> 0f3ff0000000000000};":        "c0 1 0f3ff0000000000000 4607182418800017408 | main 0 0 3 | app g1; app g1; app g2; case 0 num 2 1 num 3 2",
		"main = 0f7ff8000000000000 0f7ff8000000000000 1;":                                               "c0 0f7ff8000000000000 1 | main 0 0 0 | app g1 g1 g2",
	} {
		wantOf(t, s, program)
	}
	// Not any float's text is told by a source: these too are two numbers.
	p := wantWalked(t, api.Module{Binds: []api.Bind{bind("main", nil, app(number(api.Num{Float: true, Bits: 0x7ff8000000000000}), number(api.Num{Float: true, Bits: 0xfff8000000000001}), number(api.Num{Float: true, Bits: 0x7ff8000000000000})))}})
	if len(p.Globals) != 3 || !slices.Equal(p.Nodes[0].Args, []api.Atom{{Global: true, N: 2}, {Global: true, N: 1}}) {
		t.Error(programText(p))
	}
}

func TestP131Atoms(t *testing.T) {
	for s, program := range map[string]string{
		"f x = f x 1 x; main = f;":                        "c0 c1 1 | f 0 1 0; main 0 0 1 | app g0 s0 g2 s0; app g0",
		"f x y = y x y f; main = f;":                      "c0 c1 | f 0 2 0; main 0 0 1 | app s1 s0 s1 g0; app g0",
		"main = 1 2;":                                     "c0 1 2 | main 0 0 0 | app g1 g2",
		"main = (main main) main;":                        "c0 | main 0 0 2; - 0 0 0 | app g0 g0; app s0 g0; let 1 1:",
		`main = (\x -> x) 1;`:                             "c0 1 | main 0 0 2; - 0 1 0 | app s0; app s0 g1; let 1 1:",
		`main = main (\x -> \y -> x);`:                    "c0 | main 0 0 4; - 0 1 2; - 1 1 0 | app s0; app s1; let 1 2:0; app g0 s0; let 3 1:",
		`main = (\x -> x) (\x y -> y) main (\x -> main);`: "c0 | main 0 0 4; - 0 1 0; - 0 2 1; - 0 1 2 | app s0; app s1; app g0; app s0 s1 g0 s2; let 3 1: 2: 3:",
		"main = (Just 1) 2;":                              "c0 1 2 | main 0 0 2; - 0 0 0 | con 3 g1; app s0 g2; let 1 1:",
		"main = (True) False Nothing;":                    "c0 | main 0 0 4; - 0 0 0; - 0 0 1; - 0 0 2 | con 1; con 0; con 2; app s0 s1 s2; let 3 1: 2: 3:",
		`f x y = x (f y) (\z -> z y) 3 (x 4); main = 4;`:  "c0 c1 3 4 | f 0 2 4; main 0 0 5; - 1 0 0; - 1 1 1; - 1 0 2 | app g0 s0; app s1 s0; app s0 g3; app s0 s2 s3 g2 s4; let 3 2:1 3:1 4:0; app g3",
		// Their closures are made in the slots ahead of all new ones.
		`f x = x (x x) (x (x x)) x; main = f;`: "c0 c1 | f 0 1 5; main 0 0 6; - 1 0 0; - 1 0 3; - 1 0 1 | app s0 s0; app s0 s0; app s0 s1; let 2 4:0; app s0 s1 s2 s0; let 4 2:0 3:0; app g0",
		`f x = f (let y = x in y) (case x of {}) (seq x f) (weak x x x) (deref x) (x + 1); main = f;`: "c0 c1 1 | f 0 1 18; main 0 0 19; - 1 0 2; y 1 0 0; - 1 0 4; - 1 0 7; - 1 0 8; - 1 0 11; - 1 0 16 | " +
			"app s0; app s1; let 1 3:0; app s0; case 3; app s0; app g0; case 5 else 6; weak s0 s0 s0; app s0; see s1; case 9 else 10; app s0; app g2; op 0 s1 s2; case 13 else 14; case 12 else 15; app g0 s1 s2 s3 s4 s5 s6; let 17 2:0 4:0 5:0 6:0 7:0 8:0; app g0",
	} {
		wantOf(t, s, program)
	}
}

func TestP131Constructors(t *testing.T) {
	for s, program := range map[string]string{
		"main = False;":                                "c0 | main 0 0 0 | con 0",
		"main = True;":                                 "c0 | main 0 0 0 | con 1",
		"main = Nothing;":                              "c0 | main 0 0 0 | con 2",
		"main = Just main;":                            "c0 | main 0 0 0 | con 3 g0",
		"main = Just 5;":                               "c0 5 | main 0 0 0 | con 3 g1",
		"data P 2 Q 0; main = P Q 1;":                  "c0 1 | main 0 0 2; - 0 0 0 | con 5; con 4 s0 g1; let 1 1:",
		"main = B A; data A 0; data B 1 C 0;":          "c0 | main 0 0 2; - 0 0 0 | con 4; con 5 s0; let 1 1:",
		"main = Just (Just (Just 1));":                 "c0 1 | main 0 0 4; - 0 0 2; - 0 0 0 | con 3 g1; con 3 s0; let 1 2:; con 3 s0; let 3 1:",
		`main = Just (\x -> Just x);`:                  "c0 | main 0 0 2; - 0 1 0 | con 3 s0; con 3 s0; let 1 1:",
		"data T 3; f x y = T y (T x y x) x; main = f;": "c0 c1 | f 0 2 2; main 0 0 3; - 2 0 0 | con 4 s0 s1 s0; con 4 s1 s2 s0; let 1 2:0,1; app g0",
		"data T 3; f x y = T (y x) f (x y); main = f;": "c0 c1 | f 0 2 3; main 0 0 4; - 2 0 0; - 2 0 1 | app s0 s1; app s0 s1; con 4 s2 g0 s3; let 2 2:1,0 3:0,1; app g0",
	} {
		wantOf(t, s, program)
	}
}

func TestP131Operations(t *testing.T) {
	for s, program := range map[string]string{
		"f x y z = weak z f x; main = f;":             "c0 c1 | f 0 3 0; main 0 0 1 | weak s2 g0 s0; app g0",
		"f k = weak k (k 1) 2; main = f;":             "c0 c1 1 2 | f 0 1 2; main 0 0 3; - 1 0 0 | app s0 g2; weak s0 s1 g3; let 1 2:0; app g0",
		`main = weak (\x -> x) (True) main;`:          "c0 | main 0 0 3; - 0 1 0; - 0 0 1 | app s0; con 1; weak s0 s1 g0; let 2 1: 2:",
		"f x y = seq x y; main = f;":                  "c0 c1 | f 0 2 2; main 0 0 3 | app s0; app s1; case 0 else 1; app g0",
		"f x y = seq (x y) (y x); main = f;":          "c0 c1 | f 0 2 2; main 0 0 3 | app s0 s1; app s1 s0; case 0 else 1; app g0",
		`f x = seq x (\y -> x y); main = f;`:          "c0 c1 | f 0 1 4; main 0 0 5; - 1 1 1 | app s0; app s0 s1; app s2; let 2 2:0; case 0 else 3; app g0",
		"f x = seq (Just x) 2; main = f;":             "c0 c1 2 | f 0 1 2; main 0 0 3 | con 3 s0; app g2; case 0 else 1; app g0",
		"f x = seq (seq x 1) (seq 2 x); main = f;":    "c0 c1 1 2 | f 0 1 6; main 0 0 7 | app s0; app g2; case 0 else 1; app g3; app s0; case 3 else 4; case 2 else 5; app g0",
		"f x = deref x; main = f;":                    "c0 c1 | f 0 1 2; main 0 0 3 | app s0; see s1; case 0 else 1; app g0",
		"f x y = deref (x y); main = f;":              "c0 c1 | f 0 2 2; main 0 0 3 | app s0 s1; see s2; case 0 else 1; app g0",
		"main = deref (weak 1 2 3);":                  "c0 1 2 3 | main 0 0 2 | weak g1 g2 g3; see s0; case 0 else 1",
		"f x = float x; main = f;":                    "c0 c1 | f 0 1 2; main 0 0 3 | app s0; op 13 s1; case 0 else 1; app g0",
		"f x = trunc x; main = f;":                    "c0 c1 | f 0 1 2; main 0 0 3 | app s0; op 14 s1; case 0 else 1; app g0",
		"main = trunc (float 1);":                     "c0 1 | main 0 0 4 | app g1; op 13 s0; case 0 else 1; op 14 s0; case 2 else 3",
		"main = deref (trunc (float 1));":             "c0 1 | main 0 0 6 | app g1; op 13 s0; case 0 else 1; op 14 s0; case 2 else 3; see s0; case 4 else 5",
		"f x y = (x - y) * (y / x); main = f;":        "c0 c1 | f 0 2 12; main 0 0 13 | app s0; app s1; op 1 s2 s3; case 1 else 2; case 0 else 3; app s1; app s0; op 3 s3 s4; case 6 else 7; case 5 else 8; op 2 s2 s3; case 9 else 10; case 4 else 11; app g0",
		"f x y = x y % y x; main = f;":                "c0 c1 | f 0 2 4; main 0 0 5 | app s0 s1; app s1 s0; op 4 s2 s3; case 1 else 2; case 0 else 3; app g0",
		"f x = f x + (case x of {y -> y}); main = f;": "c0 c1 | f 0 1 6; main 0 0 7 | app g0 s0; app s0; app s2; case 1 else 2; op 0 s1 s2; case 3 else 4; case 0 else 5; app g0",
		`f x = (\y -> y) + (\y -> x); main = f;`:      "c0 c1 | f 0 1 8; main 0 0 9; - 0 1 0; - 1 1 3 | app s0; app s1; let 1 2:; app s0; app s2; let 4 3:0; op 0 s1 s2; case 5 else 6; case 2 else 7; app g0",
		"f x = f (1 + x) + f (x x); main = f;":        "c0 c1 1 | f 0 1 12; main 0 0 13; - 1 0 4; - 1 0 7 | app g2; app s0; op 0 s1 s2; case 1 else 2; case 0 else 3; app g0 s1; let 5 2:0; app s0 s0; app g0 s2; let 8 3:0; op 0 s1 s2; case 9 else 10; case 6 else 11; app g0",
	} {
		wantOf(t, s, program)
	}
	for n, sign := range signs {
		wantOf(t, "f x y = y "+sign+" x; main = f;", "c0 c1 | f 0 2 4; main 0 0 5 | app s1; app s0; op "+strconv.Itoa(n)+" s2 s3; case 1 else 2; case 0 else 3; app g0")
	}
}

func TestP131Lets(t *testing.T) {
	for s, program := range map[string]string{
		"main = let a = 1 in a;":                                        "c0 1 | main 0 0 2; a 0 0 0 | app g1; app s0; let 1 1:",
		"main = let a = a in a;":                                        "c0 | main 0 0 2; a 1 0 0 | app s0; app s0; let 1 1:0",
		"main = let a = b; b = a in a b;":                               "c0 | main 0 0 3; a 1 0 0; b 1 0 1 | app s0; app s0; app s0 s1; let 2 1:1 2:0",
		"main = let a = 1; b x = a x; c = b c in c a b;":                "c0 1 | main 0 0 4; a 0 0 0; b 1 1 1; c 2 0 2 | app g1; app s0 s1; app s0 s1; app s2 s0 s1; let 3 1: 2:0 3:1,2",
		"main = let f x = x in f;":                                      "c0 | main 0 0 2; f 0 1 0 | app s0; app s0; let 1 1:",
		`main = let f = \x -> x in f;`:                                  "c0 | main 0 0 4; f 0 0 2; - 0 1 0 | app s0; app s0; let 1 2:; app s0; let 3 1:",
		"main = let f x y = y f x main in f;":                           "c0 | main 0 0 2; f 1 2 0 | app s2 s0 s1 g0; app s0; let 1 1:0",
		"main = let a = Just a in Just a;":                              "c0 | main 0 0 2; a 1 0 0 | con 3 s0; con 3 s0; let 1 1:0",
		"main = let a = let b = a in b in a;":                           "c0 | main 0 0 4; a 1 0 2; b 1 0 0 | app s0; app s1; let 1 2:0; app s0; let 3 1:0",
		"f x y = let a = y; b = x a in let c = b y in c a x; main = f;": "c0 c1 | f 0 2 5; main 0 0 6; a 1 0 0; b 2 0 1; c 2 0 2 | app s0; app s0 s1; app s0 s1; app s4 s2 s0; let 3 4:3,1; let 4 2:1 3:0,2; app g0",
		"f x = let a = x in f (a x) a; main = f;":                       "c0 c1 | f 0 1 4; main 0 0 5; a 1 0 0; - 2 0 1 | app s0; app s0 s1; app g0 s2 s1; let 2 3:1,0; let 3 2:0; app g0",
		"f x = let a = 1; b = 2 in case x of {y -> y b}; main = f;":     "c0 c1 1 2 | f 0 1 5; main 0 0 6; a 0 0 0; b 0 0 1 | app g2; app g3; app s0; app s3 s2; case 2 else 3; let 4 2: 3:; app g0",
		"f x = x + (let a = x in a); main = f;":                         "c0 c1 | f 0 1 6; main 0 0 7; a 1 0 1 | app s0; app s0; app s2; let 2 2:0; op 0 s1 s2; case 3 else 4; case 0 else 5; app g0",
		"f x = seq x (let a = x a in a); main = f;":                     "c0 c1 | f 0 1 4; main 0 0 5; a 2 0 1 | app s0; app s0 s1; app s2; let 2 2:0,2; case 0 else 3; app g0",
	} {
		wantOf(t, s, program)
	}
}

func TestP131Cases(t *testing.T) {
	for s, program := range map[string]string{
		"main = case main of {};":                                                        "c0 | main 0 0 1 | app g0; case 0",
		"f x = case f x of {}; main = f;":                                                "c0 c1 | f 0 1 1; main 0 0 2 | app g0 s0; case 0; app g0",
		"f x = case x of {y -> y x}; main = f;":                                          "c0 c1 | f 0 1 2; main 0 0 3 | app s0; app s1 s0; case 0 else 1; app g0",
		"data P 2; f x = case x of {P a b -> b a; 3 -> x; y -> y x}; main = f;":          "c0 c1 3 | f 0 1 4; main 0 0 5 | app s0; app s2 s1; app s0; app s1 s0; case 0 con 4 2 1 num 2 2 else 3; app g0",
		"f x = case x of {False -> 1; True -> 2; Nothing -> 3; Just y -> y}; main = f;":  "c0 c1 1 2 3 | f 0 1 5; main 0 0 6 | app s0; app g2; app g3; app g4; app s1; case 0 con 0 0 1 con 1 0 2 con 2 0 3 con 3 1 4; app g0",
		"main = case main of {y -> 1; y -> 1; True -> y; True -> 2}; y = 3;":             "c0 c1 1 2 3 | main 0 0 5; y 0 0 6 | app g0; app g2; app g2; app g1; app g3; case 0 else 1 else 2 con 1 0 3 con 1 0 4; app g4",
		"f x = case x of {Just y -> case y of {Just z -> x y z; z -> z}}; main = f;":     "c0 c1 | f 0 1 5; main 0 0 6 | app s0; app s1; app s0 s1 s2; app s2; case 1 con 3 1 2 else 3; case 0 con 3 1 4; app g0",
		"f x = case (case x of {y -> y}) of {y -> y x}; main = f;":                       "c0 c1 | f 0 1 4; main 0 0 5 | app s0; app s1; case 0 else 1; app s1 s0; case 2 else 3; app g0",
		`f x = case x of {Just y -> \z -> z y x; 1 -> f (x x); z -> f (z x)}; main = f;`: "c0 c1 1 | f 0 1 10; main 0 0 11; - 2 1 1; - 1 0 4; - 2 0 7 | app s0; app s2 s0 s1; app s2; let 2 2:1,0; app s0 s0; app g0 s1; let 5 3:0; app s0 s1; app g0 s2; let 8 4:1,0; case 0 con 3 1 3 num 2 6 else 9; app g0",
	} {
		wantOf(t, s, program)
	}
}

func TestP131Lambdas(t *testing.T) {
	for s, program := range map[string]string{
		`main = \x y -> y x;`:                          "c0 | main 0 0 2; - 0 2 0 | app s1 s0; app s0; let 1 1:",
		`main = \x -> \y -> x;`:                        "c0 | main 0 0 4; - 0 1 2; - 1 1 0 | app s0; app s1; let 1 2:0; app s0; let 3 1:",
		`f x = \y -> \z -> x y z; main = f;`:           "c0 c1 | f 0 1 4; main 0 0 5; - 1 1 2; - 2 1 0 | app s0 s1 s2; app s2; let 1 3:0,1; app s1; let 3 2:0; app g0",
		`f a b c = \x -> c x a g c; g = f; main = 1;`:  "c0 c1 c2 1 | f 0 3 2; g 0 0 3; main 0 0 4; - 2 1 0 | app s0 s2 s1 g1 s0; app s3; let 1 3:2,0; app g0; app g3",
		`f a b c d = \c -> d (\a -> a c b); main = f;`: "c0 c1 | f 0 4 4; main 0 0 5; - 2 1 2; - 2 1 0 | app s2 s0 s1; app s0 s3; let 1 3:2,1; app s4; let 3 2:3,1; app g0",
		`f x = seq x (\y -> x); main = f;`:             "c0 c1 | f 0 1 4; main 0 0 5; - 1 1 1 | app s0; app s0; app s2; let 2 2:0; case 0 else 3; app g0",
		`f x = x + (\y -> x); main = f;`:               "c0 c1 | f 0 1 6; main 0 0 7; - 1 1 1 | app s0; app s0; app s2; let 2 2:0; op 0 s1 s2; case 3 else 4; case 0 else 5; app g0",
	} {
		wantOf(t, s, program)
	}
}

// All binds have their codes ahead of any other's, and their nodes bind by bind.
func TestP131Codes(t *testing.T) {
	for s, program := range map[string]string{
		`g = \x -> main x; main = \y -> g y; h z = \a -> z;`:                               "c0 c1 c2 | g 0 0 2; main 0 0 5; h 0 1 8; - 0 1 0; - 0 1 3; - 1 1 6 | app g1 s0; app s0; let 1 3:; app g0 s0; app s0; let 4 4:; app s0; app s1; let 7 5:0",
		`main = let main x = x; f = main in f; f x x1 x2 = let main = f in f main; g = 4;`: "c0 c1 c2 4 | main 0 0 3; f 0 3 6; g 0 0 7; main 0 1 0; f 1 0 1; main 0 0 4 | app s0; app s0; app s1; let 2 3: 4:0; app g1; app g1 s3; let 5 5:; app g3",
	} {
		wantOf(t, s, program)
	}
	// As many parameters, and as many arguments, as may be.
	var binds []api.Bind
	for i := range 24 {
		var params []string
		var kids []api.Expr
		for k := range i + 1 {
			params = append(params, "p"+strconv.Itoa(k))
			kids = append(kids, v(params[k]))
		}
		slices.Reverse(kids)
		name := "f" + strconv.Itoa(i)
		binds = append(binds, bind(name, params, app(append([]api.Expr{v(name)}, kids...)...)))
	}
	p := wantWalked(t, module(binds...))
	for i, c := range p.Codes[:24] {
		n := p.Nodes[c.Node]
		if c != (api.Code{Name: "f" + strconv.Itoa(i), Args: i + 1, Node: i}) || n.F != (api.Atom{Global: true, N: i}) || len(n.Args) != i+1 {
			t.Errorf("code %d: %v, %+v", i, c, n)
		}
		for k, a := range n.Args {
			if a != (api.Atom{N: i - k}) {
				t.Errorf("code %d: %+v", i, n)
			}
		}
	}
}

// wantFault is of a module that layer 11 finds a fault in.
func wantFault(t *testing.T, m api.Module, e api.Errno, name string) {
	t.Helper()
	p, f, s := lower.Lower(m)
	if f != e || s != name || e == api.OK {
		t.Errorf("Lower(%.600q) answers %d, %q; want %d, %q", show.Module(m), f, s, e, name)
	}
	if len(p.Cons)+len(p.Codes)+len(p.Nodes)+len(p.Globals) != 0 || p.Main != 0 {
		t.Errorf("Lower(%.600q) answers %+v beside a fault", show.Module(m), p)
	}
}

func TestP131Faults(t *testing.T) {
	long := ""
	for i := range 25 {
		long += " p" + strconv.Itoa(i)
	}
	for s, f := range map[string]struct {
		e    api.Errno
		name string
	}{
		"":                                          {api.ErrName, "main"},
		"f = 1;":                                    {api.ErrName, "main"},
		"data A 0;":                                 {api.ErrName, "main"},
		"data A 0 A 0; main = q;":                   {api.ErrTwice, "A"},
		"data Just 1; main = 1;":                    {api.ErrTwice, "Just"},
		"main = 1; main = 2;":                       {api.ErrTwice, "main"},
		"main = q;":                                 {api.ErrNone, "q"},
		"f x = 1; main = x;":                        {api.ErrNone, "x"},
		"main = Q;":                                 {api.ErrNone, "Q"},
		"main = case 1 of {Q -> 1};":                {api.ErrNone, "Q"},
		"f x x = 1; main = 1;":                      {api.ErrTwice, "x"},
		`main = \x x -> 1;`:                         {api.ErrTwice, "x"},
		"main = let a = 1; a = 2 in a;":             {api.ErrTwice, "a"},
		"main = case 1 of {Just a a -> 1};":         {api.ErrTwice, "a"},
		"main x = 1;":                               {api.ErrArity, "main"},
		"main = Just;":                              {api.ErrArity, "Just"},
		"main = Just 1 2;":                          {api.ErrArity, "Just"},
		"main = True 1;":                            {api.ErrArity, "True"},
		"data A 2; main = A (A 1 2);":               {api.ErrArity, "A"},
		"main = case 1 of {Just -> 1};":             {api.ErrArity, "Just"},
		"main = weak 1 2;":                          {api.ErrArity, "weak"},
		"main = seq;":                               {api.ErrArity, "seq"},
		"main = 1 + deref;":                         {api.ErrArity, "deref"},
		"main = float 1 2;":                         {api.ErrArity, "float"},
		"main = trunc;":                             {api.ErrArity, "trunc"},
		"f" + long + " = 1; main = f;":              {api.ErrBig, "f"},
		`main = \` + long[1:] + " -> 1;":            {api.ErrBig, "p0"},
		"main = 1" + strings.Repeat(" 1", 25) + ";": {api.ErrBig, ""},
		"main x = q;":                               {api.ErrNone, "q"}, // layer 10's ahead of layer 11's
		"main = Just; main = q;":                    {api.ErrTwice, "main"},
	} {
		m := read(t, s)
		wantFault(t, m, f.e, f.name)
		if e, name := arity.Check(m); e != f.e || name != f.name {
			t.Errorf("Check(%q) = %d, %q", s, e, name)
		}
	}
	// At the bounds there is none.
	want(t, read(t, "main = 1"+strings.Repeat(" 1", 24)+";"), "c0 1 | main 0 0 0 | app g1"+strings.Repeat(" g1", 24))
	wantWalked(t, read(t, "f"+strings.TrimSuffix(long, " p24")+" = p23; main = f;"))
	wantWalked(t, read(t, `main = \`+strings.TrimSuffix(long[1:], " p24")+" -> p23;"))
}

// strange are names that no source has.
var strange = []string{"", " ", "\x00", "\xff", "x y", "X", "True", "let", "main", "+", "weak", "1", "é", "e\u0301", "(", strings.Repeat("long", 5000), strings.Repeat("long", 5000) + "r"}

// Names may be any texts. A slot that bears none isn't told by the empty one.
func TestP131Strange(t *testing.T) {
	for _, x := range strange {
		name := strings.ReplaceAll(codeText(api.Code{Name: x}), " 0 0 0", "")
		one := []struct {
			e       api.Expr
			program string
		}{
			{op("+", integer(1), v(x)), "c0 c1 1 | f 0 1 4; main 0 0 5 | app g2; app s0; op 0 s1 s2; case 1 else 2; case 0 else 3; app g2"},
			{op("seq", integer(1), app(v(x), v("f"))), "c0 c1 1 | f 0 1 2; main 0 0 3 | app g2; app s0 g0; case 0 else 1; app g2"},
			{op("seq", integer(1), lam(all("y"), app(v(x), v("y")))), "c0 c1 1 | f 0 1 4; main 0 0 5; - 1 1 1 | app g2; app s0 s1; app s2; let 2 2:0; case 0 else 3; app g2"},
			{app(v("f"), lam(all("y"), v(x)), app(v(x), v(x))), "c0 c1 1 | f 0 1 3; main 0 0 4; - 1 1 0; - 1 0 1 | app s0; app s0 s0; app g0 s1 s2; let 2 2:0 3:0; app g2"},
			{choice(v(x), elseAlt(x, v(x)), conAlt("Just", all(x), v(x))), "c0 c1 1 | f 0 1 3; main 0 0 4 | app s0; app s1; app s1; case 0 else 1 con 3 1 2; app g2"},
			{let(v(x), bind(x, nil, v(x))), "c0 c1 1 | f 0 1 2; main 0 0 3; " + name + " 1 0 0 | app s0; app s1; let 1 2:1; app g2"},
			{let(v(x), bind("y", all(x), v(x))), "c0 c1 1 | f 0 1 2; main 0 0 3; y 0 1 0 | app s0; app s0; let 1 2:; app g2"},
		}
		for _, y := range one {
			wantProgram(t, module(bind("f", all(x), y.e)), y.program)
		}
		if x != "main" {
			wantProgram(t, module(bind(x, all("x"), v(x))), "c0 c1 1 | "+name+" 0 1 0; main 0 0 1 | app g0; app g2")
			wantProgram(t, module(bind(x, nil, op("+", integer(2), v(x)))), "c0 c1 2 1 | "+name+" 0 0 4; main 0 0 5 | app g2; app g0; op 0 s0 s1; case 1 else 2; case 0 else 3; app g3")
			wantProgram(t, module(bind(x, nil, app(v("main"), lam(all("z"), v(x)), integer(1), v(x)))), "c0 c1 1 | "+name+" 0 0 2; main 0 0 3; - 0 1 0 | app g0; app g1 s0 g2 g0; let 1 2:; app g2")
		}
	}
	m := module(bind("f", strange[:9], app(v(strange[2]), v(strange[8]), v(strange[0]))))
	wantProgram(t, m, "c0 c1 1 | f 0 9 0; main 0 0 1 | app s2 s8 s0; app g2")
	// Constructors' names too, and their arities any numbers.
	m = api.Module{Cons: []api.Decl{{Name: "", Arity: 1}, {Name: "x", Arity: 30}, {Name: "y", Arity: -1}, {Name: "z", Arity: math.MaxInt}, {Name: "w", Arity: math.MinInt}}, Binds: module(bind("x", all("y"), con("", con("x", slices.Repeat([]api.Expr{v("y")}, 30)...)))).Binds}
	want(t, m, "c0 c1 1 | x 0 1 2; main 0 0 3; - 1 0 0 | con 5"+strings.Repeat(" s0", 30)+"; con 4 s1; let 1 2:0; app g2")
	wantFault(t, api.Module{Cons: m.Cons, Binds: module(bind("f", nil, con("y"))).Binds}, api.ErrArity, "y")
	wantFault(t, api.Module{Cons: m.Cons, Binds: module(bind("f", nil, con("w"))).Binds}, api.ErrArity, "w")
	m.Binds = module(bind("f", nil, choice(integer(1), conAlt("", all(""), app(v(""), v("f")))))).Binds
	want(t, m, "c0 c1 1 | f 0 0 2; main 0 0 3 | app g2; app s0 g0; case 0 con 4 1 1; app g2")
}

// wantProgram is of a module whose binds may have the empty name.
func wantProgram(t *testing.T, m api.Module, program string) {
	t.Helper()
	if got := programText(lowered(t, m)); got != program {
		t.Errorf("Lower(%.600q):\n got %.600s\nwant %.600s", show.Module(m), got, program)
	}
}

// largeLet is a let with as many binds, and a case with twice as many alternatives
// within it.
func largeLet(many int) api.Module {
	var binds []api.Bind
	var alts []api.Alt
	for i := range many {
		x, y := "x"+strconv.Itoa(i), "x"+strconv.Itoa(many-1-i)
		binds = append(binds, bind(x, all("p"), app(v("p"), v(x), v(y), integer(int64(i/2)))))
		alts = append(alts, elseAlt(x, app(v(x), v(y), v("f"))), numAlt(int64(i), v(y)))
	}
	return module(bind("f", nil, let(choice(v("x7"), alts...), binds...)))
}

// Modules as large and as deep as may be.
func TestP131Large(t *testing.T) {
	const many = 5000
	m := largeLet(many)
	p := lowered(t, m)
	n := p.Nodes[p.Codes[0].Node]
	if len(n.Clos) != many || !slices.Equal(n.Clos[5].Caps, []int{5, many - 6}) || len(p.Globals) != 2+many || len(p.Codes) != 2+many {
		t.Error(len(n.Clos), len(p.Globals), len(p.Codes))
	}
	branches := p.Nodes[n.Kid].Branches
	if last := p.Nodes[branches[2*many-2].Node]; len(branches) != 2*many || last.F != (api.Atom{N: many}) || !slices.Equal(last.Args, []api.Atom{{N: 0}, {Global: true}}) {
		t.Error(len(branches), last)
	}
	wantWalked(t, largeLet(many/10))

	// As many globals.
	p = wantWalked(t, module(m.Binds[0].Body.Binds...))
	if len(p.Codes) != many+1 || len(p.Globals) != many+1+many/2 || p.Codes[many-1] != (api.Code{Name: "x4999", Args: 1, Node: many - 1}) {
		t.Error(len(p.Codes), len(p.Globals))
	}
}

func TestP131Deep(t *testing.T) {
	plain := []func(api.Expr) api.Expr{ // no closure is within another
		func(e api.Expr) api.Expr { return op("+", v("x"), e) }, func(e api.Expr) api.Expr { return op("<.", e, v("x")) }, func(e api.Expr) api.Expr { return op("seq", v("x"), e) }, func(e api.Expr) api.Expr { return op("deref", e) },
		func(e api.Expr) api.Expr { return choice(v("x"), numAlt(1, v("x")), elseAlt("x", e)) }, func(e api.Expr) api.Expr { return choice(e, elseAlt("y", v("x"))) }, func(e api.Expr) api.Expr { return choice(v("x"), conAlt("Just", all("y"), e)) },
	}
	for i, of := range plain {
		const levels = 60000
		e := v("x")
		for range levels {
			e = of(e)
		}
		p, f, _ := lower.Lower(module(bind("f", all("x"), e)))
		if f != api.OK || len(p.Codes) != 2 || p.Codes[0].Node != len(p.Nodes)-2 || len(p.Nodes) < 2*levels {
			t.Errorf("%d: %d, %d codes, %d nodes", i, f, len(p.Codes), len(p.Nodes))
		}
	}
	closed := []func(string, api.Expr) api.Expr{
		func(x string, e api.Expr) api.Expr { return lam(all(x), app(v(x), e)) }, func(x string, e api.Expr) api.Expr { return app(v("x"), e, v("x0")) }, func(x string, e api.Expr) api.Expr { return con("Just", e) },
		func(x string, e api.Expr) api.Expr { return let(v(x), bind(x, nil, e)) }, func(x string, e api.Expr) api.Expr { return let(e, bind(x, all("y"), app(v("x0"), v(x)))) }, func(x string, e api.Expr) api.Expr { return op("weak", e, v("x"), v("x")) },
	}
	for i := range closed {
		for _, levels := range []int{199, 1500} {
			e := app(v("x"), v("x1"))
			for n := range levels {
				e = closed[(i+n/3*(n%2))%len(closed)]("x"+strconv.Itoa((n+1)%7), e)
			}
			wantWalked(t, module(bind("f", all("x", "x0", "x1"), e)))
		}
	}
	// 200 deep, as a source may be.
	s := strings.Repeat("(", 198) + "x" + strings.Repeat(" x)", 198)
	wantWalked(t, read(t, "f x = "+s+"; main = f;"))
	wantWalked(t, read(t, "f x = "+strings.Repeat(`\x -> `, 199)+"x; main = f;"))
	wantWalked(t, read(t, "f x = "+strings.Repeat("let y = x; x y = x y in ", 199)+"x y; main = f;"))
}

// What layer 8 tells no source by has no program that is promised, but no call
// panics.
func TestP131Wrong(t *testing.T) {
	some := []api.Expr{{}, v("x"), op("q"), op(""), op("=="), {Kind: api.EApp}, {Kind: api.ELet}, {Kind: api.ECase}, {Kind: api.ELam}, {Kind: api.ELam, Params: all("x")}, {Kind: api.ECon, Name: "Just"}}
	for _, kind := range []int{math.MinInt, -1, 0, 1, 2, 3, 4, 5, 6, 7, 8, 9, 1000, math.MaxInt} {
		for _, x := range some {
			for n := range 4 {
				for _, name := range []string{"", "x", "main", "Just", "True", "weak", "seq", "+", "q"} {
					e := api.Expr{Kind: kind, Name: name, Params: all("x", "y")[:n/2], Kids: slices.Repeat([]api.Expr{x}, n), Binds: slices.Repeat([]api.Bind{{Body: x}}, n/2), Alts: slices.Repeat([]api.Alt{{Kind: kind, Name: name, Body: x}}, n)}
					lower.Lower(module(bind("f", all("x"), e)))
					lower.Lower(module(bind("f", all("x"), app(e, e, e))))
					lower.Lower(module(bind("f", all("x"), choice(e, api.Alt{Kind: kind, Name: name, Names: all("x")[:n/3], Body: e}))))
					lower.Lower(module(bind("f", all("x"), let(e, bind("x", all("y"), e), bind("g", nil, e)))))
					lower.Lower(api.Module{Binds: []api.Bind{{Name: name, Body: e}}})
				}
			}
		}
	}
	wantFault(t, api.Module{}, api.ErrName, "main")
	wantFault(t, api.Module{Cons: make([]api.Decl, 2), Binds: make([]api.Bind, 2)}, api.ErrTwice, "")
}

// shares is whether a text lies in the memory of another.
func shares(s, other string) bool {
	at, begin := uintptr(unsafe.Pointer(unsafe.StringData(s))), uintptr(unsafe.Pointer(unsafe.StringData(other)))
	return s != "" && other != "" && at >= begin && at < begin+uintptr(len(other))
}

func TestP131NewMemory(t *testing.T) {
	long, other, upper := string([]byte("abcdefghijklmnop")), string([]byte("qrstuvwxyz")), string([]byte("Upper"))
	m := api.Module{Cons: []api.Decl{{Name: upper, Arity: 1}}, Binds: module(bind(long, all(other), let(con(upper, v(long)), bind(other, all("x"), app(v(other), v("x"), v("x")))))).Binds}
	first := lowered(t, m)
	told := programText(first)
	for _, s := range []string{long, other, upper} {
		for _, c := range first.Codes {
			if shares(c.Name, s) {
				t.Errorf("%q shares memory with what was handed in", c.Name)
			}
		}
		for _, d := range first.Cons {
			if shares(d.Name, s) {
				t.Errorf("%q shares memory with what was handed in", d.Name)
			}
		}
	}
	// Whatever becomes of an answer, another is the same.
	for i := range first.Nodes {
		n := &first.Nodes[i]
		for k := range n.Args {
			n.Args[k] = api.Atom{Global: true, N: 99}
		}
		for k := range n.Clos {
			n.Clos[k].Caps = append(n.Clos[k].Caps[:0], 99)
		}
		n.Op = 99
	}
	first.Codes[0], first.Globals[0], first.Cons[0] = api.Code{}, api.Global{}, api.Decl{}
	if again := programText(lowered(t, m)); again != told {
		t.Errorf("%s; want %s", again, told)
	}
	for _, s := range []string{"main = q;", "main = let x = Q in 1;"} {
		m := read(t, s)
		for range 2 {
			if _, _, name := lower.Lower(m); shares(name, m.Binds[0].Body.Name) {
				t.Errorf("%q shares memory with what was handed in", name)
			}
		}
	}
}

// No two lists of an answer share any memory, spare room neither: what is put
// behind one changes no other.
func TestP131Lists(t *testing.T) {
	m := read(t, "data P 2; f x y = let a = x y; b c = a c (P y x) 1 in case a of {P c d -> weak c d (b c); 3 -> x + y; z -> deref (x z (y z) z)}; main = f 1 2 (f 3);")
	told := programText(lowered(t, m))
	p := lowered(t, m)
	for _, n := range p.Nodes {
		_ = append(n.Args, api.Atom{N: 99}, api.Atom{N: 99}, api.Atom{N: 99})
		_ = append(n.Clos, api.Clo{Code: 99}, api.Clo{Code: 99}, api.Clo{Code: 99})
		_ = append(n.Branches, api.Branch{Node: 99}, api.Branch{Node: 99}, api.Branch{Node: 99})
		for _, c := range n.Clos {
			_ = append(c.Caps, 99, 99, 99)
		}
	}
	_ = append(p.Nodes, api.Node{Op: 99})
	_ = append(p.Codes, api.Code{Node: 99})
	_ = append(p.Globals, api.Global{Code: 99})
	_ = append(p.Cons, api.Decl{Name: "Q"})
	if got := programText(p); got != told {
		t.Errorf("%s; want %s", got, told)
	}
	at := map[*api.Atom]bool{}
	caps := map[*int]bool{}
	for _, n := range p.Nodes {
		for i := range n.Args {
			if at[&n.Args[i]] {
				t.Error("two lists of atoms share memory")
			}
			at[&n.Args[i]] = true
		}
		for _, c := range n.Clos {
			for i := range c.Caps {
				if caps[&c.Caps[i]] {
					t.Error("two lists of slots share memory")
				}
				caps[&c.Caps[i]] = true
			}
		}
	}
}

// What is handed in is not changed, its spare room neither, and the same is
// answered of it again, whatever was asked between.
func TestP131Unchanged(t *testing.T) {
	spare := func(names ...string) []string { return append(names, "spare", "more")[:len(names)] }
	params, names, bound := spare("a", "b"), spare("c", "d"), spare("x")
	kids := append([]api.Expr{con("A", v("a"), v("b")), v("a"), integer(5)}, v("spare"))[:3]
	alts := append([]api.Alt{conAlt("A", names, app(kids...)), elseAlt("a", app(kids...)), numAlt(7, v("b"))}, elseAlt("spare", v("q")))[:3]
	binds := append([]api.Bind{bind("g", params, app(kids...)), bind("h", bound, v("g"))}, bind("spare", nil, v("q")))[:2]
	e := let(choice(lam(bound, app(kids...)), alts...), binds...)
	cons := append([]api.Decl{{Name: "A", Arity: 2}}, api.Decl{Name: "Spare", Arity: 3})[:1]
	globals := append([]api.Bind{bind("f", params, e), bind("main", nil, integer(1))}, bind("spare", nil, v("q")))[:2]
	m := api.Module{Cons: cons, Binds: globals}
	source := show.Module(m)
	told := programText(wantWalked(t, m))
	for range 3 {
		if got := programText(lowered(t, m)); got != told {
			t.Errorf("%s; want %s", got, told)
		}
		wantFault(t, api.Module{Binds: globals}, api.ErrNone, "A")
		wantOf(t, "main = 2;", "c0 2 | main 0 0 0 | app g1")
	}
	if show.Module(m) != source {
		t.Error(show.Module(m))
	}
	if params[:4][2] != "spare" || names[:4][2] != "spare" || bound[:3][1] != "spare" || kids[:4][3].Name != "spare" || alts[:4][3].Name != "spare" || binds[:3][2].Name != "spare" || cons[:2][1].Name != "Spare" || globals[:3][2].Name != "spare" {
		t.Error("spare room was changed")
	}
}
