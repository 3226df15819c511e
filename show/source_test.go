package show_test

import (
	"slices"
	"strconv"
	"strings"
	"testing"

	"treadwheel/api"
	"treadwheel/lex"
	"treadwheel/parse"
	"treadwheel/show"
)

func number(n api.Num) string {
	if n.Float {
		return "0f" + strconv.FormatUint(n.Bits, 16)
	}
	return strconv.FormatInt(int64(n.Bits), 10)
}

// dump is all that a module holds, the same for a nil list and an empty one.
func dump(m api.Module) string {
	s := ""
	for _, c := range m.Cons {
		s += c.Name + "/" + strconv.Itoa(c.Arity) + " "
	}
	return s + dumpBinds(m.Binds)
}

func dumpBinds(binds []api.Bind) string {
	var b strings.Builder
	for _, x := range binds {
		b.WriteString("[" + x.Name + "(" + strings.Join(x.Params, ",") + ")=" + dumpExpr(x.Body) + "]")
	}
	return b.String()
}

func dumpExpr(x api.Expr) string {
	var b strings.Builder
	b.WriteString("<" + strconv.Itoa(x.Kind) + ":" + x.Name + ":" + number(x.Num) + ":" + strings.Join(x.Params, ",") + ":" + dumpBinds(x.Binds))
	for _, k := range x.Kids {
		b.WriteString(dumpExpr(k))
	}
	for _, a := range x.Alts {
		b.WriteString("|" + strconv.Itoa(a.Kind) + ":" + a.Name + ":" + number(a.Num) + ":" + strings.Join(a.Names, ",") + ":" + dumpExpr(a.Body))
	}
	return b.String() + ">"
}

// draw makes modules such as layer 8 tells, and sources of them.
type draw struct{ seed uint64 }

func (d *draw) below(n int) int {
	d.seed = d.seed*6364136223846793005 + 1442695040888963407
	return int(d.seed >> 33 % uint64(n))
}

func (d *draw) one(of ...string) string { return of[d.below(len(of))] }

func (d *draw) name() string { return d.one("f", "g", "x", "y_1", "abcdefghijklmnop") }

func (d *draw) con() string { return d.one("Nil", "Cons", "A", "Abcdefghijklmnop") }

func (d *draw) names(least int) []string {
	var names []string
	for range least + d.below(3) {
		names = append(names, d.name())
	}
	return names
}

func (d *draw) num() api.Num {
	n := d.seed << 7
	if d.below(2) == 0 {
		n = uint64(int64(d.below(60)) - 30)
	}
	return api.Num{Float: d.below(3) == 0, Bits: n}
}

func (d *draw) module() api.Module {
	var m api.Module
	for range d.below(4) {
		m.Cons = append(m.Cons, api.Decl{Name: d.con(), Arity: d.below(25)})
	}
	for range d.below(4) {
		m.Binds = append(m.Binds, d.bind(4))
	}
	return m
}

func (d *draw) bind(size int) api.Bind {
	return api.Bind{Name: d.name(), Params: d.names(0), Body: d.expr(size)}
}

func (d *draw) kids(least, size int) []api.Expr {
	var kids []api.Expr
	for range least + d.below(3) {
		kids = append(kids, d.expr(size))
	}
	return kids
}

func (d *draw) expr(size int) api.Expr {
	if size == 0 {
		return []api.Expr{v(d.name()), con(d.con()), num(d.num()), op(d.one("weak", "deref", "seq", "float", "trunc"))}[d.below(4)]
	}
	size -= 1 + d.below(2)
	size = max(size, 0)
	switch d.below(9) {
	case 0:
		return con(d.con(), d.kids(0, size)...)
	case 1, 2:
		return app(d.kids(2, size)...)
	case 3:
		return op(d.one("weak", "deref", "seq", "float", "trunc"), d.kids(0, size)...)
	case 4:
		return op(d.one("+", "-", "*", "/", "%", "==", "<", "+.", "-.", "*.", "/.", "==.", "<."), d.expr(size), d.expr(size))
	case 5:
		binds := []api.Bind{d.bind(size)}
		for range d.below(2) {
			binds = append(binds, d.bind(size))
		}
		return let(d.expr(size), binds...)
	case 6:
		return choice(d.expr(size), d.alts(size)...)
	case 7:
		return lam(strings.Join(d.names(1), " "), d.expr(size))
	}
	return d.expr(0)
}

func (d *draw) alts(size int) []api.Alt {
	var alts []api.Alt
	for range d.below(4) {
		switch body := d.expr(size); d.below(3) {
		case 0:
			alts = append(alts, api.Alt{Kind: api.ACon, Name: d.con(), Names: d.names(0), Body: body})
		case 1:
			alts = append(alts, numAlt(d.num(), body))
		case 2:
			alts = append(alts, elseAlt(d.name(), body))
		}
	}
	return alts
}

// wantSame holds a module against what is told of its text, and answers that.
func wantSame(t *testing.T, m api.Module) string {
	t.Helper()
	s := show.Module(m)
	told, e, line := parse.Parse(s)
	if e != api.OK || dump(told) != dump(m) {
		t.Errorf("%.500s is shown as %.500q, which tells %d, %d, %.500s", dump(m), s, e, line, dump(told))
	}
	if again := show.Module(told); again != s {
		t.Errorf("%.500q is shown again as %.500q", s, again)
	}
	return s
}

// wantStays is of a source, and what it is shown as.
func wantStays(t *testing.T, s, want string) {
	t.Helper()
	m, e, _ := parse.Parse(s)
	if e != api.OK {
		t.Fatalf("Parse(%.500q) answers %d", s, e)
	}
	if text := wantSame(t, m); text != want {
		t.Errorf("%.500q is shown as %.500q; want %.500q", s, text, want)
	}
}

func TestP92Drawn(t *testing.T) {
	d := &draw{seed: 1}
	counts := map[string]int{}
	for range 20000 {
		m := d.module()
		s := wantSame(t, m)
		for _, piece := range []string{"(", "let", "case", `\`, "#", "0f", "of {}", "; ", "+ ", "((", "(seq) ", "(Nil) ", "data"} {
			counts[piece] += strings.Count(s, piece)
		}
		for _, b := range m.Binds {
			wantSource(t, api.Module{Binds: []api.Bind{{Name: "f", Body: b.Body}}}, "f = "+show.Expr(b.Body)+";\n")
		}
		if t.Failed() {
			return
		}
	}
	for piece, n := range counts {
		if n < 300 {
			t.Errorf("%q comes up %d times: too few to tell", piece, n)
		}
	}
}

// joined is tokens' texts as a source that is shown has them.
func joined(tokens []api.Token) string {
	s, curly, inLet := "", 0, 0
	for i, x := range tokens {
		switch x.Text {
		case "{":
			curly++
		case "}":
			curly--
		case "let":
			inLet++
		case "in":
			inLet--
		}
		s += x.Text
		switch {
		case x.Text == ";" && curly == 0 && inLet == 0:
			s += "\n"
		case i+1 == len(tokens) || slices.Contains([]string{"(", "{", `\`}, x.Text) || slices.Contains([]string{")", "}", ";"}, tokens[i+1].Text):
		default:
			s += " "
		}
	}
	return s
}

// A text's blanks and lines stand where the chapter puts them.
func TestP92Blanks(t *testing.T) {
	d := &draw{seed: 2}
	for range 5000 {
		s := show.Module(d.module())
		tokens, e, _ := lex.Lex(s)
		if e != api.OK || joined(tokens) != s {
			t.Fatalf("%.500q has tokens %d, joined %.500q", s, e, joined(tokens))
		}
	}
}

// However a source is spelt, it is shown as what it tells.
func TestP92Sources(t *testing.T) {
	for s, want := range map[string]string{
		"": "", "\n -- f = x;": "", "data;": "", "data;data;f=x;data;": "f = x;\n",
		"data A 0;data;data B 2 C #1;": "data A 0 B 2 C 1;\n", "f=x;data A 0;g=x;data A 3;f=y;": "data A 0 A 3;\nf = x;\ng = x;\nf = y;\n",
		"f x=case x of{0->(1);y->f(y-1)};": "f x = case x of {0 -> 1; y -> f (y - 1)};\n",
		"f=((((x))));":                     "f = x;\n", "f=(((g)))((x))(1)(A)(seq);": "f = g x 1 A seq;\n", "f=((A))((x));": "f = (A) x;\n", "f=((seq))((x));": "f = (seq) x;\n", "f=(A);": "f = A;\n", "f=((seq));": "f = seq;\n",
		"f=(A)+(seq);": "f = A + seq;\n", "f=A+seq;": "f = A + seq;\n", "f=A x+seq y;": "f = (A x) + (seq y);\n", "f=(A)x+(seq)y;": "f = ((A) x) + ((seq) y);\n",
		"f=(x+y)+(z);": "f = (x + y) + z;\n", "f=x+(y+z);": "f = x + (y + z);\n", "f=(x+y);": "f = x + y;\n", "f=-- -\nx- -- \n#-1;": "f = x - #-1;\n", "f=#0 #-1 #7 #0f0000000000000000;": "f = 0 #-1 7 0f0000000000000000;\n",
		"f=let a=(let b=x in b);c=(case x of{})in(\\y->(y));": "f = let a = let b = x in b; c = case x of {} in \\y -> y;\n",
		"f=case(let a=x in a)of{#-1->(\\a->a);#2->x;A->x};":   "f = case let a = x in a of {#-1 -> \\a -> a; 2 -> x; A -> x};\n",
		"f=(let a=x in a)(case x of{y->y})(\\a->a);":          "f = (let a = x in a) (case x of {y -> y}) (\\a -> a);\n",
	} {
		wantStays(t, s, want)
		wantStays(t, want, want)
		wantStays(t, strings.ReplaceAll(want, " ", "\n\t --;\n"), want)
	}
}

// As deep as may be, the ( ) count: where they come up anew, one deeper isn't
// taken any more.
func TestP92Deep(t *testing.T) {
	for _, nest := range [][2]string{{"let a = ", " in x"}, {"let a = x in ", ""}, {"case ", " of {}"}, {"case x of {A -> ", "}"}, {`\a -> `, ""}, {"A (", ")"}, {"seq (", ") x"}, {"(", ") + x"}, {"x <. (", ")"}, {"f (", ")"}, {"(", ") f"}} {
		inner := strings.Repeat(nest[0], 197) + `\x -> f (x + x)` + strings.Repeat(nest[1], 197)
		wantStays(t, "f = "+inner+";", "f = "+inner+";\n")
		inner = strings.Repeat(nest[0], 199) + "x + x" + strings.Repeat(nest[1], 199)
		wantStays(t, "f="+inner+";", "f = "+inner+";\n")
		m, e, _ := parse.Parse("f = " + strings.Repeat(nest[0], 199) + "f x + x" + strings.Repeat(nest[1], 199) + ";")
		want := "f = " + strings.Repeat(nest[0], 199) + "(f x) + x" + strings.Repeat(nest[1], 199) + ";\n"
		wantSource(t, m, want)
		if _, f, line := parse.Parse(want); e != api.OK || f != api.ErrBig || line != 1 {
			t.Errorf("%.300q: %d, and then %d, %d", want, e, f, line)
		}
	}
	wantStays(t, "f = "+strings.Repeat("(", 199)+"x"+strings.Repeat(")", 199)+";", "f = x;\n")
}

// As many tokens as may be, the ( ) count.
func TestP92Tokens(t *testing.T) {
	full := strings.Repeat("f = (f x) + x;\n", 454) + "f = x x x x x x x;\n"
	wantStays(t, full, full)
	if tokens, _, _ := lex.Lex(full); len(tokens) != api.MaxTokens {
		t.Errorf("%d tokens", len(tokens))
	}
	wantStays(t, "data"+strings.Repeat(" A 1", 2047)+";", "data"+strings.Repeat(" A 1", 2047)+";\n")
	for _, x := range []struct {
		many int
		e    api.Errno
	}{{455, api.OK}, {456, api.ErrFull}, {585, api.ErrFull}} {
		m, e, _ := parse.Parse(strings.Repeat("f=f x+x;", x.many))
		want := strings.Repeat("f = (f x) + x;\n", x.many)
		wantSource(t, m, want)
		if _, f, _ := parse.Parse(want); e != api.OK || f != x.e {
			t.Errorf("%d: %d, and then %d", x.many, e, f)
		}
	}
}

// Every short row of atoms and signs that tells something is shown so that it
// tells the same.
func TestP92Short(t *testing.T) {
	texts := []string{"x", "A", "seq", "#-1", "(", ")", "+", `\x->`, "let x=x in", "case x of{}", "case"}
	taken := 0
	var walk func(s string, more int)
	walk = func(s string, more int) {
		if m, e, _ := parse.Parse("f=" + s + ";"); e == api.OK {
			taken++
			wantSame(t, m)
		}
		if more == 0 || t.Failed() {
			return
		}
		for _, text := range texts {
			walk(s+" "+text, more-1)
		}
	}
	walk("", 5)
	if taken < 2000 {
		t.Errorf("%d are taken: too few to tell", taken)
	}
}
