package code_test

import (
	"slices"
	"strconv"
	"strings"
	"testing"

	"treadwheel/api"
	"treadwheel/code"
	"treadwheel/lower"
	"treadwheel/parse"
)

// lowered is a source's program.
func lowered(t *testing.T, source string) api.Program {
	t.Helper()
	m, e, _ := parse.Parse(source)
	if e != api.OK {
		t.Fatalf("Parse(%.600q) answers %d", source, e)
	}
	p, e, name := lower.Lower(m)
	if e != api.OK {
		t.Fatalf("Lower(%.600q) answers %d, %q", source, e, name)
	}
	return p
}

func TestP142Example(t *testing.T) {
	p := lowered(t, "main = 1 + 1;")
	wantRight(t, p)
	wantSlots(t, p, 2)
	wantText(t, p, "cons False 0 True 0 Nothing 0 Just 1\nmain 0\nglobal 0 code 0\nglobal 1 number 1\ncode 0 0 0 4 main\nnode 0 app g1\nnode 1 app g1\nnode 2 op 0 s0 s1\nnode 3 case 1 else 0 0 2\nnode 4 case 0 else 0 0 3\n")
}

func TestP144Sources(t *testing.T) {
	for source, slots := range map[string][]int{
		"main = main;":                       {0},
		"main = 0f3ff0000000000000 <. #-1;":  {2},
		"f x y = f y x; main = f;":           {2, 0},
		"f x = x; g = f; main = g (f g) g;":  {1, 0, 1, 0},
		`main = \x y -> y x;`:                {1, 2},
		`f x = \y -> \z -> x y z; main = f;`: {2, 0, 3, 3},
		"data P 2; f x = case x of {P a b -> b a; 3 -> x; y -> y}; main = P f 1;": {3, 0},
		"f x = case x of {}; main = f;":                                           {1, 0},
		"main = weak (Just 1) (seq 1 2) (deref main);":                            {3, 0, 1, 1},
		"f x = let a = b; b y = a x y in let c = a in c; main = f;":               {4, 0, 1, 3, 1},
		"f x = float (trunc x) /. float x; main = f 0f0000000000000000;":          {3, 0},
		"f x = x + (x - (x * (x / (x % (x == (x < 1)))))); main = f;":             {9, 0},
	} {
		p := lowered(t, source)
		wantRight(t, p)
		if got := code.Slots(p); !slices.Equal(got, slots) {
			t.Errorf("Slots of %q: %v; want %v of\n%s", source, got, slots, code.Print(p))
		}
		wantAsked(t, p)
	}
}

// captures is of a bind that has as many names free, and takes as many.
func captures(free, takes int) string {
	var source strings.Builder
	source.WriteString("main = let ")
	body := "1"
	for i := range free {
		name := "x" + strconv.Itoa(i)
		source.WriteString(name + " = 1; ")
		body = "seq " + name + " (" + body + ")"
	}
	source.WriteString("a")
	for i := range takes {
		source.WriteString(" y" + strconv.Itoa(i))
	}
	source.WriteString(" = " + body + " in a;")
	return source.String()
}

// No code may have more than 64 free names; beside these it may have parameters.
func TestP144Bounds(t *testing.T) {
	for _, free := range []int{0, 1, 24, 40, 41, 63, 64, 65, 66, 100} {
		for _, takes := range []int{0, 1, 23, 24} {
			p := lowered(t, captures(free, takes))
			if c := p.Codes[free+1]; c.Free != free || c.Args != takes {
				t.Fatal(c)
			}
			if free > 64 {
				wantFault(t, p, api.ErrRange, free+1)
				continue
			}
			wantRight(t, p)
			// Each seq has a slot more.
			if got := code.Slots(p); got[free+1] != 2*free+takes || got[0] != free+1 {
				t.Errorf("%d, %d: %v", free, takes, got)
			}
			wantAsked(t, p)
		}
	}
}

// As many constructors, branches and parameters as may be, and as deep.
func TestP144Large(t *testing.T) {
	var cons, alts, binds strings.Builder
	for i := range 25 {
		n := strconv.Itoa(i)
		cons.WriteString(" C" + n + " " + n)
		alts.WriteString("C" + n)
		binds.WriteString("f" + n)
		for k := range i {
			alts.WriteString(" a" + strconv.Itoa(k))
			binds.WriteString(" a" + strconv.Itoa(k))
		}
		alts.WriteString(" -> x; ")
		binds.WriteString(" = C" + n + strings.Repeat(" (f0 1)", i) + "; ")
	}
	p := lowered(t, "data"+cons.String()+"; "+binds.String()+"main = let x = f0 in case x of {"+alts.String()+"y -> y};")
	wantRight(t, p)
	slots := code.Slots(p)
	for i := range 25 {
		if slots[i] != 2*i {
			t.Errorf("%d: %d", i, slots[i])
		}
	}
	if slots[25] != 25 {
		t.Error(slots[25])
	}
	wantAsked(t, p)
	for _, source := range []string{
		"f x = " + strings.Repeat("x + (", 198) + "x" + strings.Repeat(")", 198) + "; main = f;", "f x = " + strings.Repeat(`\x -> `, 199) + "x; main = f;", "f x = " + strings.Repeat("let y = x; x y = x y in ", 199) + "x y; main = f;", "f x = " + strings.Repeat("case x of {Just x -> ", 199) + "x" + strings.Repeat("; y -> f y}", 199) + "; main = f;",
	} {
		wantRight(t, lowered(t, source))
		wantAsked(t, lowered(t, source))
	}
	// A tree deeper than any source's.
	e := api.Expr{Kind: api.EVar, Name: "x"}
	for range 60000 {
		e = api.Expr{Kind: api.EOp, Name: "+", Kids: []api.Expr{{Kind: api.EVar, Name: "x"}, e}}
	}
	p, _, _ = lower.Lower(api.Module{Binds: []api.Bind{{Name: "f", Params: []string{"x"}, Body: e}, {Name: "main", Body: api.Expr{Kind: api.EVar, Name: "f"}}}})
	wantRight(t, p)
	wantSlots(t, p, 60002, 0)
}

// sources draws sources' texts, whose every name stands for something.
type sources struct {
	draw
	fresh int
}

func (d *sources) some(many int) []string {
	var some []string
	for range many {
		d.fresh++
		some = append(some, "x"+strconv.Itoa(d.fresh%40))
	}
	return some
}

func (d *sources) atom(env []string) string {
	switch d.below(8) {
	case 0:
		return "#" + strconv.Itoa(d.below(20)-9)
	case 1:
		return []string{"True", "Nothing", "0f4000000000000000"}[d.below(3)]
	}
	return env[d.below(len(env))]
}

// row: as many expressions, each enclosed.
func (d *sources) row(many, size int, env []string) string {
	row := ""
	for range many {
		row += " (" + d.expr(size, env) + ")"
	}
	return row
}

func (d *sources) expr(size int, env []string) string {
	if size == 0 || d.below(8) == 0 {
		return d.atom(env)
	}
	size--
	switch d.below(9) {
	case 0:
		return "Just" + d.row(1, size, env)
	case 1:
		n := d.below(5)
		return []string{"weak", "seq", "deref", "float", "trunc"}[n] + d.row([]int{3, 2, 1, 1, 1}[n], size, env)
	case 2, 3:
		return d.row(1, size, env) + " " + []string{"+", "-", "*", "/", "%", "==", "<", "+.", "<."}[d.below(9)] + d.row(1, size, env)
	case 4:
		return "let " + d.binds(d.some(1+d.below(3)), size, &env) + " in " + d.expr(size, env)
	case 5, 6:
		return "case " + d.expr(size, env) + " of {" + d.alts(size, env) + "}"
	case 7:
		params := d.some(1 + d.below(3))
		return `\` + strings.Join(params, " ") + " -> " + d.expr(size, slices.Concat(env, params))
	}
	return d.row(2+d.below(3), size, env)
}

// binds: of such names, all of which are then among those that there are.
func (d *sources) binds(bound []string, size int, env *[]string) string {
	*env = slices.Concat(*env, bound)
	var binds []string
	for _, x := range bound {
		params := d.some(max(0, d.below(6)-2))
		if x == "main" {
			params = nil
		}
		binds = append(binds, strings.Join(append([]string{x}, params...), " ")+" = "+d.expr(size, slices.Concat(*env, params)))
	}
	return strings.Join(binds, "; ")
}

func (d *sources) alts(size int, env []string) string {
	var alts []string
	for range d.below(4) {
		of, bound := strconv.Itoa(d.below(9)), d.some(d.below(3))
		if len(bound) > 0 {
			of = []string{bound[0], "Just " + bound[0]}[d.below(2)]
			bound = bound[:1]
		}
		if d.below(5) == 0 {
			of, bound = "False", nil
		}
		alts = append(alts, of+" -> "+d.expr(size, slices.Concat(env, bound)))
	}
	return strings.Join(alts, "; ")
}

// TestP144Drawn has the programs of drawn sources: right ones, but for codes of
// more than 64 free names.
func TestP144Drawn(t *testing.T) {
	d := &sources{draw: draw{seed: 14}}
	right, most, nodes := 0, 0, 0
	for range 3000 {
		var env []string
		p := lowered(t, d.binds([]string{"f", "main", "g"}, 2+d.below(5), &env)+";")
		at := slices.IndexFunc(p.Codes, func(c api.Code) bool { return c.Free > 64 })
		if at >= 0 {
			wantFault(t, p, api.ErrRange, at)
			continue
		}
		if e := wantAsked(t, p); e != api.OK {
			t.Errorf("%d of what is lowered", e)
		}
		right++
		nodes += len(p.Nodes)
		for _, c := range p.Codes {
			most = max(most, c.Free)
		}
		if t.Failed() {
			return
		}
	}
	if right < 2900 || most < 6 || nodes < 60000 {
		t.Errorf("%d, %d, %d: too few to tell", right, most, nodes)
	}
}
