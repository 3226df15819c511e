package arity_test

import (
	"math"
	"slices"
	"strconv"
	"strings"
	"testing"
	"unsafe"

	"treadwheel/api"
	"treadwheel/arity"
	"treadwheel/lex"
	"treadwheel/parse"
	"treadwheel/scope"
	"treadwheel/show"
)

// What expressions are.

func v(name string) api.Expr { return api.Expr{Kind: api.EVar, Name: name} }

func con(name string, kids ...api.Expr) api.Expr {
	return api.Expr{Kind: api.ECon, Name: name, Kids: kids}
}

func op(name string, kids ...api.Expr) api.Expr {
	return api.Expr{Kind: api.EOp, Name: name, Kids: kids}
}

func app(kids ...api.Expr) api.Expr { return api.Expr{Kind: api.EApp, Kids: kids} }

func num(n int64) api.Expr { return api.Expr{Kind: api.ENum, Num: api.Num{Bits: uint64(n)}} }

// nums are as many numbers.
func nums(n int) []api.Expr { return slices.Repeat([]api.Expr{num(1)}, n) }

func let(body api.Expr, binds ...api.Bind) api.Expr {
	return api.Expr{Kind: api.ELet, Binds: binds, Kids: []api.Expr{body}}
}

func choice(asked api.Expr, alts ...api.Alt) api.Expr {
	return api.Expr{Kind: api.ECase, Kids: []api.Expr{asked}, Alts: alts}
}

func lam(params []string, body api.Expr) api.Expr {
	return api.Expr{Kind: api.ELam, Params: params, Kids: []api.Expr{body}}
}

func bind(name string, params []string, body api.Expr) api.Bind {
	return api.Bind{Name: name, Params: params, Body: body}
}

func conAlt(name string, names []string, body api.Expr) api.Alt {
	return api.Alt{Kind: api.ACon, Name: name, Names: names, Body: body}
}

func numAlt(n int64, body api.Expr) api.Alt {
	return api.Alt{Kind: api.ANum, Num: num(n).Num, Body: body}
}

func elseAlt(name string, body api.Expr) api.Alt {
	return api.Alt{Kind: api.AElse, Name: name, Body: body}
}

// module is of binds, and a main ahead of them.
func module(binds ...api.Bind) api.Module {
	return api.Module{Binds: append([]api.Bind{bind("main", nil, num(1))}, binds...)}
}

// names are as many, each another one.
func names(n int) []string {
	var all []string
	for i := range n {
		all = append(all, "p"+strconv.Itoa(i))
	}
	return all
}

// row is as many names with a blank ahead of each.
func row(n int) string {
	s := ""
	for _, x := range names(n) {
		s += " " + x
	}
	return s
}

func want(t *testing.T, m api.Module, e api.Errno, name string) {
	t.Helper()
	if f, s := arity.Check(m); f != e || s != name {
		t.Errorf("Check(%.600q) = %d, %.60q; want %d, %.60q", show.Module(m), f, s, e, name)
	}
}

// wantOf is of a source.
func wantOf(t *testing.T, s string, e api.Errno, name string) {
	t.Helper()
	m, f, _ := parse.Parse(s)
	if f != api.OK {
		t.Fatalf("Parse(%q) answers %d", s, f)
	}
	want(t, m, e, name)
}

func wantSound(t *testing.T, s string) {
	t.Helper()
	wantOf(t, s, api.OK, "")
}

func wantArity(t *testing.T, s, name string) {
	t.Helper()
	wantOf(t, s, api.ErrArity, name)
}

func wantBig(t *testing.T, s, name string) {
	t.Helper()
	wantOf(t, s, api.ErrBig, name)
}

var takes = map[string]int{
	"+": 2, "-": 2, "*": 2, "/": 2, "%": 2, "==": 2, "<": 2, "+.": 2, "-.": 2, "*.": 2, "/.": 2, "==.": 2, "<.": 2,
	"weak": 3, "seq": 2, "deref": 1, "float": 1, "trunc": 1,
}

func TestP111Takes(t *testing.T) {
	for name, n := range takes {
		if got := arity.Takes(name); got != n {
			t.Errorf("Takes(%q) = %d, want %d", name, got, n)
		}
		// Of what is nearly one, none.
		for _, x := range []string{name + " ", " " + name, name + name, name + "x", name + ".", name + "=", name + "\x00", "#" + name, strings.ToUpper(name), strings.ToUpper(name[:1]) + name[1:], name[1:], name[:len(name)-1], name + ";"} {
			if got := arity.Takes(x); got != takes[x] {
				t.Errorf("Takes(%q) = %d, want %d", x, got, takes[x])
			}
		}
	}
	for _, name := range []string{"", "=", "->", "(", ")", "{", "}", ";", `\`, "--", "let", "in", "case", "of", "data", "main", "f", "x", "True", "Just", "Weak", "1", "#-1", "0f3ff8000000000000", "<=", ">", "!=", "%.", "=.", ".", "+..", "\xff", "\x00", "é", strings.Repeat("seq", 5000)} {
		if got := arity.Takes(name); got != 0 {
			t.Errorf("Takes(%q) = %d, want 0", name, got)
		}
	}
}

// TestP111TakesTexts asks all texts of some bytes: those are signs that layer 7
// tells as one.
func TestP111TakesTexts(t *testing.T) {
	const some = "+-*/%=<.>!#a1 (\\;"
	texts := []string{""}
	for i := range 256 {
		texts = append(texts, string([]byte{byte(i)}))
	}
	for i := range some {
		for j := range some {
			texts = append(texts, some[i:i+1]+some[j:j+1])
			for k := range some {
				texts = append(texts, some[i:i+1]+some[j:j+1]+some[k:k+1])
			}
		}
	}
	count := 0
	for _, x := range texts {
		n := 0
		if l, e, _ := lex.Lex(x); e == api.OK && len(l) == 1 && l[0].Kind == api.TOp && l[0].Text == x {
			n = 2
			count++
		}
		if got := arity.Takes(x); got != n {
			t.Errorf("Takes(%q) = %d, want %d", x, got, n)
		}
	}
	if count != 13 {
		t.Errorf("%d signs", count)
	}
}

// What layer 10 finds is told ahead of all.
func TestP111Scope(t *testing.T) {
	want(t, api.Module{}, api.ErrName, "main")
	const bad = "f = Just; main x = True 1; g" // what comes ahead in the module, too
	for _, x := range []struct {
		s, name string
		e       api.Errno
	}{
		{bad + " = q;", "q", api.ErrNone}, {bad + row(25) + " = q;", "q", api.ErrNone}, {bad + " = Z;", "Z", api.ErrNone}, {bad + " = Just q 1;", "q", api.ErrNone}, {bad + " = case 1 of {Z -> 1};", "Z", api.ErrNone},
		{bad + " x x = 1;", "x", api.ErrTwice}, {bad + " = 1; g = 1;", "g", api.ErrTwice}, {bad + " = let a = 1; a = 1 in 1;", "a", api.ErrTwice}, {bad + " = case 1 of {True x x -> 1};", "x", api.ErrTwice}, {bad + ` = \x x -> 1;`, "x", api.ErrTwice},
		{bad + " = 1; data A 1 A 2;", "A", api.ErrTwice}, {bad + " = 1; data Just 2;", "Just", api.ErrTwice}, {bad + " = 1; main = 1;", "main", api.ErrTwice},
		{"f = Just; g" + row(25) + " = 1;", "main", api.ErrName},
		{"main x = x; f" + row(24) + " p0 = 1;", "p0", api.ErrTwice}, {`main x = \` + row(24) + " p0 -> x;", "p0", api.ErrTwice},
	} {
		wantOf(t, x.s, x.e, x.name)
		m, _, _ := parse.Parse(x.s)
		if e, name := scope.Check(m); e != x.e || name != x.name {
			t.Error(x.s, e, name)
		}
	}
}

func TestP111Main(t *testing.T) {
	for _, s := range []string{"main x = 1;", "main x y = x y;", "main main = main;", "f = 1; main x = 1; g = 1;", "main x = Just;", "f = Just; main x = 1;", "f" + row(25) + " = 1; main x = 1;", "main" + row(24) + " = 1;", "main" + row(25) + " = 1;"} {
		wantArity(t, s, "main")
	}
	for _, s := range []string{"main = 1;", "f = 1; main = f;", "f x = 1; main = f;", "mai x = 1; main = 1; mainn x y = main;", "main = let main x = x in main;", `main = \x -> x;`, `f main = main; main = \main -> main;`, "main = let main" + row(24) + " = 1 in 1;"} {
		wantSound(t, s)
	}
	wantBig(t, "main = let main"+row(25)+" = 1 in 1;", "main")
}

func TestP111Binds(t *testing.T) {
	for n := range 41 {
		for _, x := range []struct{ s, name string }{
			{"f" + row(n) + " = 1; main = 1;", "f"}, {"main = 1; g" + row(n) + " = 1; h = 1;", "g"}, {"main = let a" + row(n) + " = 1 in 1;", "a"}, {"main = let a = 1; b x = 1; c" + row(n) + " = 1 in 1;", "c"},
			{"f p0 = let p1" + row(n) + " = p0 in p1; main = 1;", "p1"},
		} {
			if n > 24 {
				wantBig(t, x.s, x.name)
			} else {
				wantSound(t, x.s)
			}
		}
	}
	wantBig(t, "f = 1; g"+row(25)+" = Just; h"+row(30)+" = 1; main = 1;", "g")   // ahead of its body
	wantArity(t, "f = True 1; g"+row(25)+" = Just; main = 1;", "True")           // bind by bind
	wantBig(t, "main = let a"+row(25)+" = Just; b"+row(26)+" = 1 in Just;", "a") // likewise of a let
	wantArity(t, "main = let a = True 1; b"+row(26)+" = Just in Nothing 1;", "True")
	wantArity(t, "main = let a = 1; b"+row(24)+" = Just in Nothing 1;", "Just")
	wantArity(t, "main = let a = 1; b"+row(24)+" = 1 in Nothing 1;", "Nothing")
	wantArity(t, "main = let a = let b = Just in True 1 in Nothing 1;", "Just")
}

func TestP111Constructors(t *testing.T) {
	for name, n := range map[string]int{"False": 0, "True": 0, "Nothing": 0, "Just": 1, "A": 0, "B": 1, "C": 2, "D": 24, "E": 23} {
		for kids := range 30 {
			s := "data A 0 B 1 C 2; f = " + name + strings.Repeat(" 1", kids) + "; data D 24 E 23; main = 1;"
			if kids == n {
				wantSound(t, s)
			} else {
				wantArity(t, s, name)
			}
		}
	}
	wantArity(t, "main = Just;", "Just")
	wantArity(t, "main = Just Just;", "Just")
	wantArity(t, "main = Just (Just);", "Just")
	wantArity(t, "main = (Just) 1;", "Just")
	wantArity(t, "main = Just (True 1);", "True")
	wantArity(t, "main = Just (True 1) (False 1);", "Just") // ahead of its kids
	wantArity(t, "data C 2; main = C (True 1) (False 1);", "True")
	wantArity(t, "data C 2; main = C 1 (False 1);", "False")
	wantSound(t, "data C 2; main = C (Just (C 1 True)) (C Nothing (Just 1));")
	wantSound(t, "main = (True) 1;")
}

func TestP111Operations(t *testing.T) {
	for _, name := range []string{"weak", "seq", "deref", "float", "trunc"} {
		for kids := range 30 {
			for _, s := range []string{"main = " + name + strings.Repeat(" 1", kids) + ";", `f x = case x of {1 -> \y -> ` + name + strings.Repeat(" y", kids) + "}; main = f 1;"} {
				if kids == takes[name] {
					wantSound(t, s)
				} else {
					wantArity(t, s, name)
				}
			}
		}
	}
	for _, sign := range []string{"+", "-", "*", "/", "%", "==", "<", "+.", "-.", "*.", "/.", "==.", "<."} {
		wantSound(t, "main = 1 "+sign+" 1;")
		wantSound(t, "main = (1 "+sign+" 1) "+sign+" (Just 1);")
		wantArity(t, "main = Just "+sign+" True 1;", "Just")
		wantArity(t, "main = 1 "+sign+" True 1;", "True")
		wantArity(t, "main = (1 "+sign+" Just) "+sign+" True 1;", "Just")
	}
	wantArity(t, "main = weak (Just) (True 1);", "weak") // ahead of its kids
	wantArity(t, "main = weak 1 (Just) (True 1);", "Just")
	wantArity(t, "main = seq (seq 1 (deref)) (float);", "deref")
	wantArity(t, "main = (seq) 1 2;", "seq")
	wantArity(t, "main = seq 1 (deref 1 2);", "deref")
}

func TestP111Applications(t *testing.T) {
	for kids := 2; kids < 40; kids++ {
		s := strings.Repeat(" f", kids)
		for _, x := range []string{"f =" + s + "; main = 1;", "f = Just (" + s + "); main = 1;", "main = 1; f = 1 + " + s + ";", "main = 1; f = (" + s + ") 1;"} {
			if kids > 25 {
				wantBig(t, x, "")
			} else {
				wantSound(t, x)
			}
		}
	}
	wantBig(t, "main = 1 (Just)"+strings.Repeat(" 1", 24)+";", "") // ahead of its kids
	wantArity(t, "main = 1 (Just)"+strings.Repeat(" 1", 23)+";", "Just")
	wantArity(t, "main = (Just)"+strings.Repeat(" (True 1)", 24)+";", "Just")
	wantArity(t, "main = 1 1 (True 1) (Just);", "True")
	wantArity(t, "main = 1"+strings.Repeat(" 1", 23)+" (True 1);", "True")
}

func TestP111Alternatives(t *testing.T) {
	for name, n := range map[string]int{"False": 0, "True": 0, "Nothing": 0, "Just": 1, "A": 0, "B": 1, "C": 2, "D": 24, "E": 23} {
		for asked := range 30 {
			s := "data A 0 B 1 C 2; data D 24 E 23; main = case 1 of {x -> x; " + name + row(asked) + " -> 1; y -> 1};"
			if asked == n {
				wantSound(t, s)
			} else {
				wantArity(t, s, name)
			}
		}
	}
	wantArity(t, "main = case Just of {True x -> 1};", "Just") // the kid is ahead
	wantArity(t, "main = case 1 of {True x -> Just; Just -> False 1};", "True")
	wantArity(t, "main = case 1 of {Just x -> Just; True x -> False 1};", "Just")
	wantArity(t, "main = case 1 of {Just x -> Just x; True x -> False 1};", "True")
	wantArity(t, "main = case 1 of {1 -> False 1; True x -> 1};", "False")
	wantArity(t, "main = case 1 of {x -> False 1; True x -> 1};", "False")
	wantArity(t, "main = case 1 of {x -> 1; 1 -> 1; True -> 1; Nothing -> Just};", "Just")
	wantSound(t, "main = case Nothing of {Just x -> Just x; Nothing -> Nothing; Just x -> 1; 1 -> 1; 1 -> 2; x -> 1; y -> 1; True -> 1};")
	wantSound(t, "main = case 1 of {};")
}

func TestP111Lambdas(t *testing.T) {
	for n := 1; n < 40; n++ {
		for _, s := range []string{`main = \` + row(n) + " -> 1;", `f p1 = case p1 of {1 -> let p2 = \` + row(n) + " -> p1 in p2}; main = 1;"} {
			if n > 24 {
				wantBig(t, s, "p0")
			} else {
				wantSound(t, s)
			}
		}
	}
	wantBig(t, `main = \first second`+row(23)+` -> \`+row(25)+" -> Just;", "first") // ahead of its kid
	wantBig(t, `main = \first second`+row(22)+` -> \`+row(25)+" -> Just;", "p0")
	wantArity(t, `main = \first second`+row(22)+" -> Just;", "Just")
	// In two lambdas there may be more.
	wantSound(t, `main = \`+row(24)+` -> \`+row(24)+" -> p0;")
	wantSound(t, "f"+row(24)+` = \`+row(24)+" -> p0; main = f;")
}

// piece is a piece of a source; where it may be faulty, the one that is faulty
// and the one that isn't, the fault, and when that comes.
type piece struct {
	when      int
	bad, good string
	e         api.Errno
	name      string
}

func text(s string) piece { return piece{good: s} }

func none(when int, name, good string) piece { return piece{when, name, good, api.ErrNone, name} }

func wrong(when int, name, bad, good string) piece { return piece{when, bad, good, api.ErrArity, name} }

func big(when int, name, bad string) piece { return piece{when, bad, "", api.ErrBig, name} }

// own is a constructor without kids that no other piece has.
func own(when int) piece {
	name := "C" + strconv.Itoa(when)
	return wrong(when, name, "("+name+" 1)", "("+name+")")
}

// owns declares what own may tell.
func owns() string {
	s := ""
	for when := 30; when <= 70; when++ {
		s += " C" + strconv.Itoa(when) + " 0"
	}
	return s
}

// faulty is a source with each fault that the chapter names, in each place, and
// with some of layer 10's. No two are the same, but those of applications.
var faulty = []piece{
	text("data A 2 B 2" + owns()), {1, " Just 1", " D 1", api.ErrTwice, "Just"}, text(";"),
	text("f" + row(24)), big(20, "f", " z"), text(" = A (weak (seq "), none(3, "u1", "p1"), text(" "), wrong(24, "deref", "(deref)", "(deref 1)"), wrong(23, "seq", " 5", ""), text(") 2 "), wrong(25, "float", "float", "(float p2)"), wrong(22, "weak", " 4", ""), text(") "), wrong(26, "trunc", "(trunc 1 2)", "(trunc 1)"), wrong(21, "A", " 5", ""), text(";"),
	text("g x = x "), own(31), text(" (let a" + row(24)), big(32, "a", " z"), text(" = "), own(33), text("; b = "), own(34), text("; c y" + row(23)), big(35, "c", " z"), text(" = "), own(36), text(" in "), own(37), text(") ("), own(38), text(" + "), own(39), text(")" + strings.Repeat(" x", 21)), big(30, "", " x"), text(";"),
	text("h x = case "), own(40), text(" of {B k"), wrong(41, "B", "", " l"), text(" -> "), own(42), text("; 1 -> "), own(43), text("; w -> "), own(44), text("; C45"), wrong(45, "C45", " x", ""), text(" -> "), own(46), text("};"),
	text("main"), wrong(10, "main", " x", ""), text(` = (\m1` + row(23)), big(50, "m1", " z"), text(" -> "), own(51), text(` f) (\m2 -> `), own(52), text(") "), none(4, "u2", "h"), text(";"),
	text("f2" + row(24)), big(60, "f2", " z"), text(" = f3" + strings.Repeat(" 1", 23) + " "), own(62), big(61, "", " 1"), text("; f3 "), {5, "x x", "x y", api.ErrTwice, "x"}, text(" = "), own(70), text(";"),
}

// wantFirst is of the source in which these pieces are faulty: what comes first
// of them is told.
func wantFirst(t *testing.T, bad func(piece) bool) {
	t.Helper()
	s := ""
	first := piece{when: math.MaxInt}
	for _, x := range faulty {
		if x.when == 0 || !bad(x) {
			s += x.good
			continue
		}
		s += x.bad
		if x.when < first.when {
			first = x
		}
	}
	wantOf(t, s, first.e, first.name)
}

func TestP111Order(t *testing.T) {
	wantFirst(t, func(piece) bool { return false })
	var all []piece
	for _, x := range faulty {
		if x.when > 0 {
			all = append(all, x)
		}
	}
	slices.SortFunc(all, func(a, b piece) int { return a.when - b.when })
	for i, x := range all {
		if i > 0 && all[i-1].when == x.when {
			t.Fatal(x)
		}
		wantFirst(t, func(y piece) bool { return y.when == x.when })
		wantFirst(t, func(y piece) bool { return y.when >= x.when })
		for _, z := range all[:i] {
			wantFirst(t, func(y piece) bool { return y.when == x.when || y.when == z.when })
		}
	}
}

// strange are names that no source has.
var strange = []string{"", " ", "\x00", "\xff", "x y", "x\x00", "X", "let", "main ", "Main", "+", "weak", "1", "é", "e\u0301", "(", strings.Repeat("long", 5000), strings.Repeat("long", 5000) + "r"}

// TestP111Strange has names that may be any texts, each in each place.
func TestP111Strange(t *testing.T) {
	for _, x := range strange {
		few, many := append(names(23), x), append([]string{x}, names(24)...)
		want(t, module(bind(x, few, v(x))), api.OK, "")
		want(t, module(bind(x, many, v(x))), api.ErrBig, x)
		want(t, module(bind("f", nil, let(num(1), bind(x, few, v(x))))), api.OK, "")
		want(t, module(bind("f", nil, let(num(1), bind(x, many, v(x))))), api.ErrBig, x)
		want(t, module(bind("f", nil, lam(few, v(x)))), api.OK, "")
		want(t, module(bind("f", nil, lam(many, v(x)))), api.ErrBig, x)
		for _, n := range []int{0, 1, 3, 24, 25, 40} {
			m := module(bind("f", nil, con(x, nums(n)...)), bind("g", nil, choice(num(1), conAlt(x, names(n), num(1)))), bind("h", nil, v("f")))
			m.Cons = []api.Decl{{Name: "A", Arity: 7}, {Name: x, Arity: n}, {Name: "B", Arity: 7}}
			want(t, m, api.OK, "")
			for _, other := range []int{n - 1, n + 1, -n - 1, math.MinInt, math.MaxInt, n + 1<<32} {
				m.Cons[1].Arity = other
				m.Binds[1].Body = num(1)
				want(t, m, api.ErrArity, x)
				m.Binds[1].Body = con(x, nums(n)...)
				want(t, m, api.ErrArity, x)
			}
		}
		want(t, module(bind("f", []string{x}, num(1))), api.OK, "")
		want(t, api.Module{Binds: []api.Bind{bind("main", []string{x}, num(1))}}, api.ErrArity, "main")
	}
}

// TestP111Arities has constructors whose arities may be any numbers: as such
// they are no fault.
func TestP111Arities(t *testing.T) {
	for _, n := range []int{math.MinInt, -1, 25, 26, 1000, math.MaxInt} {
		m := module(bind("f", nil, v("main")))
		m.Cons = []api.Decl{{Name: "A", Arity: n}}
		want(t, m, api.OK, "")
		for _, kids := range []int{0, 1, 24, 25, 26, 1000} {
			e, name := api.ErrArity, "A"
			if kids == n {
				e, name = api.OK, ""
			}
			m.Binds[1].Body = con("A", nums(kids)...)
			want(t, m, e, name)
			m.Binds[1].Body = choice(num(1), conAlt("A", names(kids), num(1)))
			want(t, m, e, name)
		}
	}
	// Its name is nobody else's, whatever else has it.
	m := module(bind("A", nil, con("A", num(1), v("A"))), bind("weak", names(2), con("weak")), bind("Just", names(3), con("Just", op("+", v("Just"), v("weak")))))
	m.Cons = []api.Decl{{Name: "A", Arity: 2}, {Name: "weak"}, {Name: "+", Arity: 5}, {Name: "main", Arity: 1}}
	want(t, m, api.OK, "")
	m = module(bind("f", nil, choice(num(1), elseAlt("A", v("A")), numAlt(1, v("main")), conAlt("A", names(2), v("p1")))))
	m.Cons = []api.Decl{{Name: "A", Arity: 2}, {Name: "", Arity: 3}, {Name: "main", Arity: 1}, {Name: "+", Arity: 5}, {Name: "weak"}}
	want(t, m, api.OK, "")
	m.Binds[0].Body = con("main", num(1))
	want(t, m, api.OK, "")
	m.Binds[0].Body = con("+", nums(2)...)
	want(t, m, api.ErrArity, "+")
	m.Binds[0].Body = op("weak", nums(2)...)
	want(t, m, api.ErrArity, "weak")
}

// Modules of a source's utmost size, and deeper ones.
func TestP111Large(t *testing.T) {
	var cons []api.Decl
	var binds, locals []api.Bind
	for i := range 800 {
		n := strconv.Itoa(i)
		cons = append(cons, api.Decl{Name: "C" + n, Arity: i % 30})
		binds = append(binds, bind("f"+n, names(i%25), con("C"+n, nums(i%30)...)))
		locals = append(locals, bind("a"+n, names(i%25), v("a"+strconv.Itoa(799-i))))
	}
	binds = append(binds, bind("main", nil, let(v("a799"), locals...)))
	m := api.Module{Cons: cons, Binds: binds}
	want(t, m, api.OK, "")
	locals[799].Params = names(25)
	want(t, m, api.ErrBig, "a799")
	cons[799].Arity++
	want(t, m, api.ErrArity, "C799")
	binds[400].Params = names(1000)
	want(t, m, api.ErrBig, "f400")
	binds[800].Params = names(1)
	want(t, m, api.ErrArity, "main")

	deep := []func(api.Expr) api.Expr{
		func(e api.Expr) api.Expr { return con("Just", e) },
		func(e api.Expr) api.Expr { return op("-", num(1), e) },
		func(e api.Expr) api.Expr { return op("trunc", e) },
		func(e api.Expr) api.Expr { return app(num(1), e) },
		func(e api.Expr) api.Expr { return choice(e) },
		func(e api.Expr) api.Expr { return choice(num(1), numAlt(1, e)) },
		func(e api.Expr) api.Expr { return lam(names(1), e) },
		func(e api.Expr) api.Expr { return let(e, bind("a", nil, num(1))) },
		func(e api.Expr) api.Expr { return let(num(1), bind("a", names(2), e)) },
		func(e api.Expr) api.Expr { return choice(num(1), elseAlt("a", e)) },
		func(e api.Expr) api.Expr { return choice(num(1), conAlt("Just", names(1), e)) },
	}
	for _, of := range append(deep, func(e api.Expr) api.Expr {
		for _, f := range deep {
			e = f(e)
		}
		return e
	}) {
		good, bad := num(1), con("True", con("Just"))
		for range 3000 {
			good, bad = of(good), of(bad)
		}
		want(t, module(bind("f", nil, good)), api.OK, "")
		want(t, module(bind("f", nil, bad)), api.ErrArity, "True")
		want(t, module(bind("f", nil, good), bind("g", nil, bad), bind("h", nil, op("seq"))), api.ErrArity, "True")
	}
}

// What layer 8 tells no source by has no fault that is promised, but no call
// panics.
func TestP111Wrong(t *testing.T) {
	x := v("main")
	for _, kind := range []int{math.MinInt, -1, 0, 1, 2, 3, 4, 5, 6, 7, 8, 9, 1000, math.MaxInt} {
		for _, n := range []int{0, 1, 2, 13, 30} {
			for _, name := range []string{"", "main", "Just", "weak", "+", "q"} {
				for _, bound := range [][]string{nil, names(1), names(25)} {
					e := api.Expr{Kind: kind, Name: name, Params: bound, Kids: slices.Repeat([]api.Expr{{}, x}, n), Binds: slices.Repeat([]api.Bind{{Params: bound}}, min(n, 1)), Alts: make([]api.Alt, n)}
					arity.Check(module(bind("f", nil, e)))
					arity.Check(module(bind("f", nil, app(e, e))))
					arity.Check(module(bind("f", nil, choice(x, api.Alt{Kind: kind, Name: name, Names: bound, Body: e}))))
					arity.Check(api.Module{Binds: []api.Bind{{Name: name, Params: bound, Body: e}}})
				}
			}
		}
	}
	arity.Check(api.Module{Cons: make([]api.Decl, 2), Binds: make([]api.Bind, 2)})
	arity.Check(module(bind("f", nil, lam(nil, num(1)))))
}

// shares is whether a text lies in the memory of another.
func shares(s, other string) bool {
	at, begin := uintptr(unsafe.Pointer(unsafe.StringData(s))), uintptr(unsafe.Pointer(unsafe.StringData(other)))
	return s != "" && other != "" && at >= begin && at < begin+uintptr(len(other))
}

func TestP111NewMemory(t *testing.T) {
	long := string([]byte("abcdefghijklmnop"))
	many := append([]string{long}, names(24)...)
	for _, m := range []api.Module{
		module(bind(long, names(25), num(1))), module(bind("f", nil, let(num(1), bind(long, names(25), num(1))))), module(bind("f", nil, lam(many, num(1)))), module(bind("f", nil, v(long))),
		{Cons: []api.Decl{{Name: long, Arity: 2}}, Binds: module(bind("f", nil, con(long))).Binds}, {Cons: []api.Decl{{Name: long, Arity: 2}}, Binds: module(bind("f", nil, choice(num(1), conAlt(long, nil, num(1))))).Binds},
	} {
		for range 2 {
			if e, name := arity.Check(m); e == api.OK || name != long || shares(name, long) {
				t.Errorf("Check(%q) = %d, %q", show.Module(m), e, name)
			}
		}
	}
}

// What is handed in is not changed, its spare room neither, and the same is
// answered of it again.
func TestP111Unchanged(t *testing.T) {
	spare := func(names ...string) []string { return append(names, "spare", "more")[:len(names)] }
	params, alt := spare("a", "b"), spare("a", "d")
	kids := append([]api.Expr{con("Nothing"), v("a")}, v("spare"))[:2]
	alts := append([]api.Alt{conAlt("A", alt, app(kids...))}, elseAlt("spare", v("q")))[:1]
	binds := append([]api.Bind{bind("f", params, con("A", kids...))}, bind("spare", nil, v("q")))[:1]
	e := let(choice(lam(params, op("seq", kids...)), alts...), binds...)
	cons := append([]api.Decl{{Name: "A", Arity: 2}}, api.Decl{Name: "Spare", Arity: 3})[:1]
	globals := append([]api.Bind{bind("main", nil, e)}, bind("g", params, e), bind("spare", nil, v("q")))[:2]
	m := api.Module{Cons: cons, Binds: globals}
	source := show.Module(m)
	for range 3 {
		want(t, m, api.OK, "")
		want(t, api.Module{Cons: []api.Decl{{Name: "A", Arity: 3}}, Binds: globals}, api.ErrArity, "A")
		want(t, api.Module{Binds: globals}, api.ErrNone, "A")
	}
	if show.Module(m) != source {
		t.Error(show.Module(m))
	}
	if params[:4][2] != "spare" || alt[:4][2] != "spare" || kids[:3][2].Name != "spare" || alts[:2][1].Name != "spare" || binds[:2][1].Name != "spare" || cons[:2][1].Name != "Spare" || globals[:3][2].Name != "spare" {
		t.Error("spare room was changed")
	}
}

func TestP111Examples(t *testing.T) {
	wantArity(t, "main = Just;", "Just")
	wantSound(t, "main = Just 1;")
}

// wantMore is of a module with a bind more behind.
func wantMore(t *testing.T, m api.Module, more api.Bind, e api.Errno, name string) {
	t.Helper()
	m.Binds = append(slices.Clone(m.Binds), more)
	want(t, m, e, name)
}

func TestP112More(t *testing.T) {
	for _, s := range []string{
		"main = 1;", "main = main;", "f" + row(24) + " = p0 p1 f; main = f;", `data A 2; f = \x -> A x f; main = case f of {A a b -> f a (Just b); Just y -> y; Nothing -> seq f 1}; g = let f f = f; g = f in weak f g f;`,
		`main = f` + strings.Repeat(" 1", 24) + `; f x = \` + row(24) + " -> x; g x y = float (deref (trunc (x + y)));",
	} {
		m, _, _ := parse.Parse(s)
		want(t, m, api.OK, "")
		for _, other := range m.Binds {
			for _, name := range []string{"new", "x", "a", "y", "Just", "A", "", "mai", "ff", "weak", "+"} {
				wantMore(t, m, bind(name, other.Params, other.Body), api.OK, "")
			}
			for _, b := range m.Binds {
				wantMore(t, m, bind(b.Name, other.Params, other.Body), api.ErrTwice, b.Name)
			}
		}
	}
	// What isn't like another one may have faults.
	m, _, _ := parse.Parse("f x = x; main = f;")
	wantMore(t, m, bind("new", nil, con("Just")), api.ErrArity, "Just")
	wantMore(t, m, bind("new", names(25), num(1)), api.ErrBig, "new")
	wantMore(t, m, bind("new", names(24), num(1)), api.OK, "")
	m, _, _ = parse.Parse("f x = True x; main = f;")
	wantMore(t, m, bind("new", nil, num(1)), api.ErrArity, "True")
}
