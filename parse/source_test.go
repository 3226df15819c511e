package parse_test

import (
	"slices"
	"strconv"
	"strings"
	"testing"

	"treadwheel/api"
	"treadwheel/parse"
)

// draw makes modules together with their tokens' texts.
type draw struct{ seed uint64 }

func draws(seed uint64) *draw { return &draw{seed} }

func (d *draw) below(n int) int {
	d.seed = d.seed*6364136223846793005 + 1442695040888963407
	return int(d.seed >> 33 % uint64(n))
}

func (d *draw) one(of ...string) string { return of[d.below(len(of))] }

func (d *draw) name() string { return d.one("f", "g", "x", "y_1", "abcdefghijklmnop") }

func (d *draw) con() string { return d.one("Nil", "Cons", "A", "Abcdefghijklmnop") }

func (d *draw) names(least int) []string {
	var names []string
	for range least + d.below(3) {
		names = append(names, d.name())
	}
	return names
}

func (d *draw) num() (api.Num, string) {
	n := int64(d.below(60)) - 30
	switch {
	case d.below(5) == 0:
		return flt(1.5), d.one("", "#") + "0f3ff8000000000000"
	case n < 0:
		return integer(n), "#" + strconv.FormatInt(n, 10)
	}
	return integer(n), d.one("", "#") + strconv.FormatInt(n, 10)
}

func (d *draw) module() (api.Module, []string) {
	var m api.Module
	var texts []string
	for range d.below(4) {
		if d.below(3) > 0 {
			b, more := d.bind(3)
			m.Binds = append(m.Binds, b)
			texts = append(append(texts, more...), ";")
			continue
		}
		texts = append(texts, "data")
		for range d.below(3) {
			c := api.Decl{Name: d.con(), Arity: d.below(25)}
			m.Cons = append(m.Cons, c)
			texts = append(texts, c.Name, strconv.Itoa(c.Arity))
		}
		texts = append(texts, ";")
	}
	return m, texts
}

func (d *draw) bind(size int) (api.Bind, []string) {
	b := api.Bind{Name: d.name(), Params: d.names(0)}
	body, texts := d.expr(size)
	b.Body = body
	return b, slices.Concat([]string{b.Name}, b.Params, []string{"="}, texts)
}

func (d *draw) expr(size int) (api.Expr, []string) {
	if size == 0 {
		return d.row(0)
	}
	switch d.below(6) {
	case 0:
		return d.let(size - 1)
	case 1:
		return d.choice(size - 1)
	case 2:
		params := d.names(1)
		body, texts := d.expr(size - 1)
		return lam(strings.Join(params, " "), body), slices.Concat([]string{`\`}, params, []string{"->"}, texts)
	case 3:
		left, a := d.row(size)
		right, b := d.row(size)
		sign := d.one("+", "-", "*", "/", "%", "==", "<", "+.", "-.", "*.", "/.", "==.", "<.")
		return op(sign, left, right), slices.Concat(a, []string{sign}, b)
	}
	return d.row(size)
}

func (d *draw) let(size int) (api.Expr, []string) {
	texts := []string{"let"}
	var binds []api.Bind
	for range 1 + d.below(2) {
		b, more := d.bind(size)
		if binds = append(binds, b); len(binds) > 1 {
			texts = append(texts, ";")
		}
		texts = append(texts, more...)
	}
	body, more := d.expr(size)
	return let(body, binds...), slices.Concat(texts, []string{"in"}, more)
}

func (d *draw) choice(size int) (api.Expr, []string) {
	asked, texts := d.expr(size)
	texts = slices.Concat([]string{"case"}, texts, []string{"of", "{"})
	var alts []api.Alt
	for range d.below(3) {
		if len(alts) > 0 {
			texts = append(texts, ";")
		}
		body, more := d.expr(size)
		switch d.below(3) {
		case 0:
			a := conAlt(d.con(), body)
			a.Names = d.names(0)
			alts = append(alts, a)
			texts = append(append(texts, a.Name), a.Names...)
		case 1:
			n, text := d.num()
			alts = append(alts, numAlt(n, body))
			texts = append(texts, text)
		case 2:
			a := elseAlt(d.name(), body)
			alts = append(alts, a)
			texts = append(texts, a.Name)
		}
		texts = append(append(texts, "->"), more...)
	}
	return choice(asked, alts...), append(texts, "}")
}

func (d *draw) row(size int) (api.Expr, []string) {
	first, texts := d.atom(size)
	var kids []api.Expr
	for range d.below(3) {
		kid, more := d.atom(size)
		kids = append(kids, kid)
		texts = append(texts, more...)
	}
	switch {
	case texts[0] != "(" && (first.Kind == api.ECon || first.Kind == api.EOp):
		first.Kids = kids
		return first, texts
	case len(kids) == 0:
		return first, texts
	}
	return app(slices.Concat([]api.Expr{first}, kids)...), texts
}

func (d *draw) atom(size int) (api.Expr, []string) {
	switch d.below(6) {
	case 0:
		n, text := d.num()
		return api.Expr{Kind: api.ENum, Num: n}, []string{text}
	case 1:
		c := d.con()
		return con(c), []string{c}
	case 2:
		b := d.one("weak", "deref", "seq", "float", "trunc")
		return op(b), []string{b}
	case 3, 4:
		if size > 0 {
			x, texts := d.expr(size - 1)
			return x, slices.Concat([]string{"("}, texts, []string{")"})
		}
	}
	name := d.name()
	return v(name), []string{name}
}

var fillers = []string{" ", "\n", "\t", "\r", "  \r\n", " -- \n", "\n-- ; ( _ \xff\n", " --\n\n\t", "\t---->\n "}

// spell puts blanks and remarks between tokens, ahead of them and behind them.
func (d *draw) spell(texts []string) string {
	s := d.one("", d.one(fillers...))
	for _, x := range texts {
		s += x + d.one(fillers...)
	}
	return s
}

// tight has a blank only where two runs, or two signs, would be one.
func tight(texts []string) string {
	const runs = "_ABCDEFGHIJKLMNOPQRSTUVWXYZabcdefghijklmnopqrstuvwxyz0123456789"
	const alone = "(){};\\#"
	s := ""
	for _, x := range texts {
		if s != "" && !strings.Contains(alone, x[:1]) && !strings.Contains(alone, s[len(s)-1:]) && strings.Contains(runs, x[:1]) == strings.Contains(runs, s[len(s)-1:]) {
			s += " "
		}
		s += x
	}
	return s
}

func TestP81Drawn(t *testing.T) {
	d := draws(1)
	kinds := map[string]int{}
	for range 4000 {
		m, texts := d.module()
		wantModule(t, strings.Join(texts, " "), m)
		for i := range 9 {
			kinds["<"+strconv.Itoa(i)+":"] += strings.Count(dump(m), "<"+strconv.Itoa(i)+":")
		}
		if t.Failed() {
			return
		}
	}
	for kind := api.EVar; kind <= api.ELam; kind++ {
		if kinds["<"+strconv.Itoa(kind)+":"] < 300 {
			t.Errorf("too few to tell: %v", kinds)
		}
	}
}

// Whatever parts tokens, they tell the same.
func TestP82Fillers(t *testing.T) {
	d := draws(2)
	for range 1500 {
		m, texts := d.module()
		wantModule(t, tight(texts), m)
		for _, f := range fillers {
			wantModule(t, strings.Join(texts, f), m)
		}
		wantModule(t, d.spell(texts), m)
		wantModule(t, d.spell(texts)+"--", m)
		if t.Failed() {
			return
		}
	}
}

// Of what isn't taken, what parts tokens tells but the lines.
func TestP82FillersWrong(t *testing.T) {
	d := draws(3)
	wrong := 0
	for range 1500 {
		_, texts := d.module()
		if len(texts) == 0 {
			continue
		}
		texts[d.below(len(texts))] = oneOfEach[d.below(len(oneOfEach))]
		_, e, at := parse.Parse(strings.Join(texts, "\n"))
		if e == api.OK {
			continue
		}
		wrong++
		wantError(t, strings.Join(texts, " -- x\r\n\n"), e, 2*at-1)
		wantError(t, strings.Join(texts, "\t"), e, 1)
		wantError(t, "\n\n"+tight(texts), e, 3)
	}
	if wrong < 500 {
		t.Errorf("%d are wrong: too few to tell", wrong)
	}
}

// Sources one behind the other tell the constructors and the binds of both.
func TestP82Joined(t *testing.T) {
	d := draws(4)
	var all api.Module
	whole := ""
	for range 3000 {
		a, first := d.module()
		b, second := d.module()
		both := api.Module{Cons: slices.Concat(a.Cons, b.Cons), Binds: slices.Concat(a.Binds, b.Binds)}
		wantModule(t, strings.Join(first, " ")+strings.Join(second, " "), both)
		wantModule(t, d.spell(first)+d.spell(second), both)
		wantModule(t, d.spell(first)+d.spell(first), api.Module{Cons: slices.Concat(a.Cons, a.Cons), Binds: slices.Concat(a.Binds, a.Binds)})
		if len(whole) < 5000 {
			whole += d.spell(first)
			all = api.Module{Cons: slices.Concat(all.Cons, a.Cons), Binds: slices.Concat(all.Binds, a.Binds)}
			wantModule(t, whole, all)
		}
		if t.Failed() {
			return
		}
	}
	// One that isn't taken tells the same behind one that is.
	for _, s := range []string{"\nf = ;", "data Nil\n25;", "f\n=", "f = \n\n" + strings.Repeat("(", 200) + "x", "\n_"} {
		_, e, line := parse.Parse(s)
		wantError(t, "f = x;\ndata A 1;\n"+s, e, line+2)
	}
}
