package parse_test

import (
	"slices"
	"strings"
	"testing"

	"treadwheel/api"
	"treadwheel/lex"
	"treadwheel/parse"
)

// The chapter's grammar as rules, each symbol with how deep it stands: what may
// stand next is gone along with, all ways at once.

type symbol struct {
	text  string
	depth int
}

// wanting is what is wanted: a symbol, and what is behind it; nil, if nothing is.
type wanting struct {
	symbol
	behind *wanting
}

// state is a way to go on, and whether an expression that is too deep begins
// with what is wanted next.
type state struct {
	wanted  *wanting
	tooDeep bool
}

// rules are a symbol's, in words; ' deepens a word's symbol by one. A symbol
// without rules is a token's.
var rules = split(map[string][]string{
	"module": {"", "data decls ; module", "bind ; module"},
	"decls":  {"", "TCon arity decls"},
	"bind":   {"TName names = expr'"},
	"names":  {"", "TName names"},
	"expr":   {"let bind binds in expr'", "case expr' of { alts }", `\ TName names -> expr'`, "row other"},
	"other":  {"", "TOp row"},
	"binds":  {"", "; bind binds"},
	"alts":   {"", "alt more"},
	"more":   {"", "; alt more"},
	"alt":    {"TCon names -> expr'", "TNum -> expr'", "TName -> expr'"},
	"row":    {"atom atoms"},
	"atoms":  {"", "atom atoms"},
	"atom":   {"TName", "TCon", "TNum", "TBack", "( expr' )"},
})

// split is the rules as symbols, each with how much deeper it stands.
func split(rules map[string][]string) map[string][][]symbol {
	out := map[string][][]symbol{}
	for name, texts := range rules {
		for _, text := range texts {
			var rule []symbol
			for _, x := range strings.Fields(text) {
				bare := strings.TrimSuffix(x, "'")
				rule = append(rule, symbol{bare, len(x) - len(bare)})
			}
			out[name] = append(out[name], rule)
		}
	}
	return out
}

// put is what is wanted with a rule's symbols ahead of it.
func put(rule []symbol, depth int, behind *wanting) *wanting {
	for _, x := range slices.Backward(rule) {
		behind = &wanting{symbol{x.text, depth + x.depth}, behind}
	}
	return behind
}

// open is the ways of a state whose next symbol is a token's, or that want none.
func open(s state) []state {
	if s.wanted == nil || rules[s.wanted.text] == nil {
		return []state{s}
	}
	var out []state
	tooDeep := s.tooDeep || s.wanted.text == "expr" && s.wanted.depth > 200
	for _, rule := range rules[s.wanted.text] {
		out = append(out, open(state{put(rule, s.wanted.depth, s.wanted.behind), tooDeep})...)
	}
	return out
}

var kindNames = map[int]string{api.TName: "TName", api.TCon: "TCon", api.TNum: "TNum", api.TOp: "TOp", api.TBack: "TBack"}

func fits(x symbol, t api.Token) bool {
	text := t.Text
	if named, ok := kindNames[t.Kind]; ok {
		text = named
	}
	return x.text == text || x.text == "arity" && text == "TNum"
}

// model is what the grammar says of tokens.
type model struct{ states []state }

func newModel() model { return model{open(state{wanted: &wanting{symbol: symbol{"module", 0}}})} }

// step is the model behind a token, or the error of it.
func (m model) step(t api.Token) (model, api.Errno) {
	var next []state
	form, deep, arity := false, false, false
	for _, s := range m.states {
		if s.wanted == nil || !fits(s.wanted.symbol, t) {
			continue
		}
		form = true
		if s.wanted.text == "arity" && (t.Num.Float || int64(t.Num.Bits) < 0 || int64(t.Num.Bits) > 24) {
			arity = true
			continue
		}
		if s.tooDeep {
			deep = true
			continue
		}
		next = append(next, open(state{wanted: s.wanted.behind})...)
	}
	switch {
	case len(next) > 0:
		return model{next}, api.OK
	case !form:
		return model{}, api.ErrForm
	case arity:
		return model{}, api.ErrRange
	case deep:
		return model{}, api.ErrBig
	}
	panic("a state without ways")
}

// end is whether no more is wanting.
func (m model) end() bool {
	for _, s := range m.states {
		if s.wanted == nil {
			return true
		}
	}
	return false
}

// judge is the model behind all tokens of a sound source, and what Parse is to
// answer.
func judge(tokens []api.Token) (model, api.Errno, int) {
	m, line := newModel(), 1
	for _, t := range tokens {
		next, e := m.step(t)
		if e != api.OK {
			return model{}, e, t.Line
		}
		m, line = next, t.Line
	}
	if !m.end() {
		return m, api.ErrEnd, line
	}
	return m, api.OK, 0
}

// leaves are the names, numbers and signs of a module in the order of its source.
func leaves(m api.Module) string {
	var out []string
	add := func(texts ...string) { out = append(out, texts...) }
	var expr func(x api.Expr)
	bind := func(b api.Bind) {
		add(b.Name)
		add(b.Params...)
		expr(b.Body)
	}
	expr = func(x api.Expr) {
		add(x.Params...)
		for _, b := range x.Binds {
			bind(b)
		}
		infix := x.Kind == api.EOp && strings.ContainsAny(x.Name[:1], "+-*/%=<")
		if x.Name != "" && !infix {
			add(x.Name)
		}
		if x.Kind == api.ENum {
			add(number(x.Num))
		}
		for i, k := range x.Kids {
			if infix && i == 1 {
				add(x.Name)
			}
			expr(k)
		}
		for _, a := range x.Alts {
			if a.Kind == api.ANum {
				add(number(a.Num))
			} else {
				add(a.Name)
			}
			add(a.Names...)
			expr(a.Body)
		}
	}
	for _, b := range m.Binds {
		bind(b)
	}
	return strings.Join(out, " ")
}

// leavesOf is the same of tokens that are binds.
func leavesOf(tokens []api.Token) string {
	var out []string
	for _, t := range tokens {
		switch t.Kind {
		case api.TWord, api.TPunct:
		case api.TNum:
			out = append(out, number(t.Num))
		default:
			out = append(out, t.Text)
		}
	}
	return strings.Join(out, " ")
}

// wantJudged holds Parse against the model, and answers what that says.
func wantJudged(t *testing.T, s string) (model, api.Errno) {
	t.Helper()
	tokens, e, _ := lex.Lex(s)
	if e != api.OK {
		t.Fatalf("%q is no sound source: %d", s, e)
	}
	behind, want, at := judge(tokens)
	m, e, line := parse.Parse(s)
	if e != want || line != at {
		t.Errorf("Parse(%.3000q) answers %d, %d; want %d, %d", s, e, line, want, at)
	}
	if e != api.OK && len(m.Cons)+len(m.Binds) != 0 {
		t.Errorf("Parse(%q) answers %d, and %s", s, e, dump(m))
	}
	if e == api.OK && !strings.Contains(s, "data") && leaves(m) != leavesOf(tokens) {
		t.Errorf("Parse(%q) tells %s", s, dump(m))
	}
	return behind, want
}

// oneOfEach has a token of each shape.
var oneOfEach = []string{"data", "let", "in", "case", "of", "x", "C", "25", "+", "weak", "(", ")", "{", "}", ";", "=", "->", `\\`}

// TestP81Walk tries each token behind each beginning that can be gone on with,
// up to a length, every one on a line of its own.
func TestP81Walk(t *testing.T) {
	counts := map[api.Errno]int{}
	var walk func(s string, more int)
	walk = func(s string, more int) {
		behind, e := wantJudged(t, s)
		counts[e]++
		if more == 0 || len(behind.states) == 0 || t.Failed() {
			return
		}
		for _, text := range oneOfEach {
			walk(strings.TrimPrefix(s+"\n"+text, "\n"), more-1)
		}
	}
	for begin, most := range map[string]int{
		"": 6, "x = x;": 3, "data C": 4, "data C 24": 4, "data C #-1": 1, "data;": 3,
		"x = ": 5, "x = (": 4, "x = (x": 4, "x = x +": 4, "x = C": 4, "x = weak": 4, `x = \\`: 5, `x = \\x x ->`: 3, "x = x +(x)": 4,
		"x = let": 5, "x = let x = x": 4, "x = let x = x;": 4, "x = let x = let x = x in x": 4,
		"x = case": 4, "x = case x": 3, "x = case x of {": 5, "x = case x of {x -> x": 3, "x = case x of {x -> x;": 4, "x = case x of {C x -> x}": 3,
	} {
		walk(strings.Join(strings.Fields(begin), "\n"), most)
	}
	if counts[api.OK] < 1000 || counts[api.ErrForm] < 10000 || counts[api.ErrEnd] < 10000 || counts[api.ErrRange] < 10 {
		t.Errorf("%v: too few to tell", counts)
	}
}

// TestP81Mixed spoils sources of the chapter's form here and there.
func TestP81Mixed(t *testing.T) {
	d := draws(7)
	counts := map[api.Errno]int{}
	for range 6000 {
		_, texts := d.module()
		for range 1 + d.below(2) {
			at, other := d.below(len(texts)+1), d.one(d.one(oneOfEach...), d.one("25", "#-1", "0f0000000000000000"))
			next := min(at+1, len(texts))
			switch d.below(4) {
			case 0:
				texts = slices.Delete(texts, at, next)
			case 1:
				texts = slices.Insert(texts, at, other)
			case 2:
				texts = slices.Replace(texts, at, next, other)
			case 3:
				texts = texts[:at]
			}
		}
		_, e := wantJudged(t, strings.Join(texts, "\n"))
		counts[e]++
		if t.Failed() {
			return
		}
	}
	if counts[api.OK] < 300 || counts[api.ErrForm] < 1000 || counts[api.ErrEnd] < 500 || counts[api.ErrRange] < 10 {
		t.Errorf("%v: too few to tell", counts)
	}
}

// TestP81DeepMixed nests parts of all kinds in one another, about as deep as
// may be, and puts a token or two there, each part on a line of its own.
func TestP81DeepMixed(t *testing.T) {
	d := draws(11)
	counts := map[api.Errno]int{}
	for range 1200 {
		var begin, end []string
		for range 194 + d.below(8) {
			nest := nests[d.below(len(nests))]
			if d.below(2) == 0 {
				nest = nests[0]
			}
			begin = append(begin, nest[0])
			end = append(end, nest[1])
		}
		slices.Reverse(end)
		inner := []string{d.one(oneOfEach...), d.one("x", "C", "x + x", "(x)", d.one(oneOfEach...))}
		s := strings.Join(slices.Concat([]string{"f = "}, begin, inner[d.below(2):], end, []string{";"}), "\n")
		if tokens, _, _ := lex.Lex(s); len(tokens) == 0 {
			continue // too many
		}
		_, e := wantJudged(t, s)
		counts[e]++
		if t.Failed() {
			return
		}
	}
	if counts[api.OK] < 50 || counts[api.ErrForm] < 200 || counts[api.ErrBig] < 200 {
		t.Errorf("%v: too few to tell", counts)
	}
}
