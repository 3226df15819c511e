package code_test

import (
	"math"
	"reflect"
	"slices"
	"strconv"
	"strings"
	"testing"

	"treadwheel/api"
	"treadwheel/code"
	"treadwheel/num"
)

// model asks what the chapter asks, as it says it: each node as often as
// anything hangs on it.
type model struct {
	p    api.Program
	most int // in how many slots a node was asked at most
}

// fault ends the asking.
type fault api.Errno

func need(is bool, e api.Errno) {
	if !is {
		panic(fault(e))
	}
}

// ended: the error that ends what is asked.
func ended(ask func()) (e api.Errno) {
	defer func() {
		if f, ok := recover().(fault); ok {
			e = api.Errno(f)
		}
	}()
	ask()
	return api.OK
}

func among[T any](n int, list []T) bool { return 0 <= n && n < len(list) }

func (m *model) around() {
	for _, d := range m.p.Cons {
		need(0 <= d.Arity && d.Arity <= 24, api.ErrRange)
	}
	for _, g := range m.p.Globals {
		need(g.Code == -1 || among(g.Code, m.p.Codes) && m.p.Codes[g.Code].Free == 0, api.ErrRange)
	}
	need(among(m.p.Main, m.p.Globals), api.ErrRange)
	need(m.p.Globals[m.p.Main].Code != -1, api.ErrRange)
	need(m.p.Codes[m.p.Globals[m.p.Main].Code].Args == 0, api.ErrRange)
}

func (m *model) code(c api.Code) {
	need(0 <= c.Free && c.Free <= 64 && 0 <= c.Args && c.Args <= 64, api.ErrRange)
	m.node(c.Node, len(m.p.Nodes), c.Free+c.Args)
}

func (m *model) atom(a api.Atom, slots int) {
	if a.Global {
		need(among(a.N, m.p.Globals), api.ErrRange)
	} else {
		need(0 <= a.N && a.N < slots, api.ErrRange)
	}
}

func (m *model) node(at, hangs, slots int) {
	need(among(at, m.p.Nodes) && at < hangs, api.ErrRange)
	m.most = max(m.most, slots)
	n := m.p.Nodes[at]
	need(slices.Contains([]int{api.NApp, api.NCon, api.NOp, api.NWeak, api.NSee, api.NLet, api.NCase}, n.Op), api.ErrKind)
	if n.Op == api.NApp {
		m.atom(n.F, slots)
	}
	for _, a := range n.Args {
		m.atom(a, slots)
	}
	switch n.Op {
	case api.NCon:
		need(among(n.N, m.p.Cons), api.ErrRange)
		need(len(n.Args) == m.p.Cons[n.N].Arity, api.ErrArity)
	case api.NOp:
		need(0 <= n.N && n.N <= 14, api.ErrRange)
		need(len(n.Args) == 2 && n.N < 13 || len(n.Args) == 1 && n.N >= 13, api.ErrArity)
	case api.NWeak:
		need(len(n.Args) == 3, api.ErrArity)
	case api.NSee:
		need(len(n.Args) == 1, api.ErrArity)
	case api.NLet:
		for _, c := range n.Clos {
			need(among(c.Code, m.p.Codes), api.ErrRange)
			need(len(c.Caps) == m.p.Codes[c.Code].Free, api.ErrArity)
			for _, slot := range c.Caps {
				need(0 <= slot && slot < slots+len(n.Clos), api.ErrRange)
			}
		}
		m.node(n.Kid, at, slots+len(n.Clos))
	case api.NCase:
		m.node(n.Kid, at, slots)
		for _, b := range n.Branches {
			m.branch(b, at, slots)
		}
	}
}

func (m *model) branch(b api.Branch, at, slots int) {
	switch b.Kind {
	case api.ACon:
		need(among(b.N, m.p.Cons), api.ErrRange)
		need(b.Arity == m.p.Cons[b.N].Arity, api.ErrArity)
		slots += b.Arity
	case api.ANum:
		need(among(b.N, m.p.Globals) && m.p.Globals[b.N].Code == -1, api.ErrRange)
	case api.AElse:
		slots++
	default:
		need(false, api.ErrKind)
	}
	m.node(b.Node, at, slots)
}

// asked: what Check and Slots are to answer.
func asked(p api.Program) (api.Errno, int, []int) {
	m := &model{p: p}
	if e := ended(m.around); e != api.OK {
		return e, -1, nil
	}
	var slots []int
	for i, c := range p.Codes {
		m.most = 0
		if e := ended(func() { m.code(c) }); e != api.OK {
			return e, i, nil
		}
		slots = append(slots, m.most)
	}
	return api.OK, 0, slots
}

// wantAsked holds what is answered against the model.
func wantAsked(t *testing.T, p api.Program) api.Errno {
	t.Helper()
	e, at, slots := asked(p)
	if f, of := code.Check(p); f != e || of != at {
		t.Errorf("Check answers %d, %d; want %d, %d of\n%.3000s", f, of, e, at, code.Print(p))
	}
	wantSlots(t, p, slots...)
	if e == api.OK {
		wantRead(t, p)
	}
	return e
}

// reader reads a program's text word by word. Names have no blanks, and the
// constructors' aren't empty.
type reader struct {
	t     *testing.T
	lines [][]string
}

func readerOf(t *testing.T, text string) *reader {
	r := &reader{t: t}
	for line := range strings.Lines(text) {
		line, ended := strings.CutSuffix(line, "\n")
		if !ended {
			t.Errorf("%q: a line isn't ended", line)
		}
		r.lines = append(r.lines, strings.Split(line, " "))
	}
	return r
}

func (r *reader) number(word string) int {
	n, err := strconv.Atoi(word)
	if err != nil || strconv.Itoa(n) != word {
		r.t.Errorf("%q: no number", word)
	}
	return n
}

func (r *reader) numbers(words []string, into ...*int) {
	for i, n := range into {
		*n = r.number(words[i])
	}
}

// rows: the lines that begin with a word and their number, but for these.
func (r *reader) rows(word string) [][]string {
	var rows [][]string
	for len(r.lines) > 0 && r.lines[0][0] == word {
		if r.number(r.lines[0][1]) != len(rows) {
			r.t.Errorf("%q: not the next one", r.lines[0])
		}
		rows = append(rows, r.lines[0][2:])
		r.lines = r.lines[1:]
	}
	return rows
}

func (r *reader) line(word string) []string {
	l := r.lines[0]
	if l[0] != word {
		r.t.Errorf("%q: no %s", l, word)
	}
	r.lines = r.lines[1:]
	return l[1:]
}

func (r *reader) program() api.Program {
	var p api.Program
	for pair := range slices.Chunk(r.line("cons"), 2) {
		p.Cons = append(p.Cons, api.Decl{Name: pair[0], Arity: r.number(pair[1])})
	}
	r.numbers(r.line("main"), &p.Main)
	for _, words := range r.rows("global") {
		x := api.Global{Code: -1}
		if words[0] == "code" {
			x.Code = r.number(words[1])
		} else if n, e := num.Parse(words[1]); e == api.OK && words[0] == "number" {
			x.Num = n
		} else {
			r.t.Errorf("%q: no global", words)
		}
		p.Globals = append(p.Globals, x)
	}
	for _, words := range r.rows("code") {
		var c api.Code
		r.numbers(words, &c.Free, &c.Args, &c.Node)
		c.Name = strings.Join(words[3:], "?")
		p.Codes = append(p.Codes, c)
	}
	for _, words := range r.rows("node") {
		p.Nodes = append(p.Nodes, r.node(words[0], words[1:]))
	}
	if len(r.lines) != 0 {
		r.t.Errorf("%q: more lines", r.lines)
	}
	return p
}

func (r *reader) atoms(words []string) []api.Atom {
	var atoms []api.Atom
	for _, w := range words {
		if w[0] != 's' && w[0] != 'g' {
			r.t.Errorf("%q: no atom", w)
		}
		atoms = append(atoms, api.Atom{Global: w[0] == 'g', N: r.number(w[1:])})
	}
	return atoms
}

func (r *reader) node(word string, words []string) api.Node {
	n := api.Node{Op: 1 + slices.Index([]string{"app", "con", "op", "weak", "see", "let", "case"}, word)}
	switch n.Op {
	case api.NApp:
		all := r.atoms(words)
		n.F, n.Args = all[0], all[1:]
	case api.NCon, api.NOp:
		n.N, n.Args = r.number(words[0]), r.atoms(words[1:])
	case api.NWeak, api.NSee:
		n.Args = r.atoms(words)
	case api.NLet:
		n.Kid = r.number(words[0])
		for _, w := range words[1:] {
			of, caps, _ := strings.Cut(w, ":")
			c := api.Clo{Code: r.number(of)}
			if caps != "" {
				for _, slot := range strings.Split(caps, ",") {
					c.Caps = append(c.Caps, r.number(slot))
				}
			}
			n.Clos = append(n.Clos, c)
		}
	case api.NCase:
		n.Kid = r.number(words[0])
		for of := range slices.Chunk(words[1:], 4) {
			b := api.Branch{Kind: slices.Index([]string{"con", "num", "else"}, of[0])}
			r.numbers(of[1:], &b.N, &b.Arity, &b.Node)
			n.Branches = append(n.Branches, b)
		}
	}
	return n
}

// told is a program with what its text tells alone, and empty lists nil.
func told(p api.Program) api.Program {
	p.Globals = slices.Clone(p.Globals)
	for i, g := range p.Globals {
		if g.Code != -1 {
			p.Globals[i] = api.Global{Code: g.Code}
		}
	}
	nodes := p.Nodes
	p.Nodes = nil
	for _, n := range nodes {
		m := api.Node{Op: n.Op}
		switch n.Op {
		case api.NApp:
			m.F = n.F
		case api.NCon, api.NOp:
			m.N = n.N
		case api.NLet:
			m.Kid = n.Kid
			for _, c := range n.Clos {
				m.Clos = append(m.Clos, api.Clo{Code: c.Code, Caps: append([]int(nil), c.Caps...)})
			}
		case api.NCase:
			m.Kid, m.Branches = n.Kid, append([]api.Branch(nil), n.Branches...)
		}
		if n.Op < api.NLet {
			m.Args = append([]api.Atom(nil), n.Args...)
		}
		p.Nodes = append(p.Nodes, m)
	}
	return p
}

// isTold: whether all of a program's nodes are of Ops that there are, and their
// branches of kinds.
func isTold(p api.Program) bool {
	isWrong := func(b api.Branch) bool { return b.Kind < api.ACon || b.Kind > api.AElse }
	return !slices.ContainsFunc(p.Nodes, func(n api.Node) bool {
		return n.Op < api.NApp || n.Op > api.NCase || n.Op == api.NCase && slices.ContainsFunc(n.Branches, isWrong)
	})
}

// wantRead reads a program's text back.
func wantRead(t *testing.T, p api.Program) {
	t.Helper()
	if !isTold(p) {
		return
	}
	q := readerOf(t, code.Print(p)).program()
	for i := range q.Nodes {
		if len(q.Nodes[i].Args) == 0 {
			q.Nodes[i].Args = nil
		}
	}
	if of := told(p); !reflect.DeepEqual(q, of) {
		t.Errorf("Print answers\n%.3000s, that is %+v; want %+v", code.Print(p), q, of)
	}
}

// draw makes programs: right ones at first, all of whose nodes may be shared,
// of which then a number or some are others.
type draw struct {
	seed   uint64
	p      api.Program
	counts []int // in how many slots each node is right
}

func (d *draw) below(n int) int {
	d.seed = d.seed*6364136223846793005 + 1442695040888963407
	return int(d.seed >> 33 % uint64(n))
}

func (d *draw) pick(list ...int) int { return list[d.below(len(list))] }

func (d *draw) program() api.Program {
	d.p = api.Program{Cons: []api.Decl{{Name: "False"}, {Name: "Just", Arity: 1}, {Name: "C", Arity: 2}, {Name: "D", Arity: d.pick(0, 3, 24)}}}
	d.counts = nil
	for i := range 2 + d.below(5) {
		c := api.Code{Name: []string{"", "main", "f"}[d.below(3)], Args: d.below(4)}
		if i == 0 {
			c.Args = 0
		} else if d.below(2) == 0 {
			c.Free = d.below(4)
		}
		d.p.Codes = append(d.p.Codes, c)
		if c.Free == 0 {
			d.p.Globals = append(d.p.Globals, closure(i))
		}
	}
	d.p.Globals = append(d.p.Globals, number(uint64(d.below(9))-4), float(uint64(d.below(20))<<59+uint64(d.below(2))))
	d.add(0, app(g(0)))
	for range d.below(16) {
		slots := d.below(5)
		d.add(slots, d.node(slots))
	}
	for i := range d.p.Codes {
		c := &d.p.Codes[i]
		c.Node = d.kid(c.Free + c.Args)
	}
	return d.p
}

func (d *draw) add(slots int, n api.Node) {
	d.p.Nodes = append(d.p.Nodes, n)
	d.counts = append(d.counts, slots)
}

// kid is one of the last nodes that are right in so many slots.
func (d *draw) kid(slots int) int {
	var all []int
	for at, count := range d.counts {
		if count <= slots {
			all = append(all, at)
		}
	}
	return all[max(0, len(all)-1-d.below(3))]
}

func (d *draw) atom(slots int) api.Atom {
	if slots == 0 || d.below(3) == 0 {
		return g(d.below(len(d.p.Globals)))
	}
	return s(d.below(slots))
}

func (d *draw) atoms(many, slots int) []api.Atom {
	var atoms []api.Atom
	for range many {
		atoms = append(atoms, d.atom(slots))
	}
	return atoms
}

func (d *draw) node(slots int) api.Node {
	n := api.Node{Op: d.pick(1, 2, 3, 4, 5, 6, 6, 6, 7, 7, 7, 7)}
	many := d.below(3)
	switch n.Op {
	case api.NApp:
		n.F = d.atom(slots)
	case api.NCon:
		n.N = d.below(4)
		many = d.p.Cons[n.N].Arity
	case api.NOp:
		n.N = d.below(15)
		many = 2 - n.N/13
	case api.NWeak:
		many = 3
	case api.NSee:
		many = 1
	case api.NLet:
		n.Clos = make([]api.Clo, d.below(4))
		slots += len(n.Clos)
		for i := range n.Clos {
			n.Clos[i] = d.clo(slots)
		}
		n.Kid, many = d.kid(slots), 0
	case api.NCase:
		n.Kid, many = d.kid(slots), 0
		for range d.below(4) {
			n.Branches = append(n.Branches, d.branch(slots))
		}
	}
	n.Args = d.atoms(many, slots)
	return n
}

func (d *draw) clo(slots int) api.Clo {
	c := api.Clo{Code: d.below(len(d.p.Codes))}
	for range d.p.Codes[c.Code].Free {
		c.Caps = append(c.Caps, d.below(slots))
	}
	return c
}

func (d *draw) branch(slots int) api.Branch {
	switch d.below(3) {
	case 0:
		return ofNum(len(d.p.Globals)-1-d.below(2), d.kid(slots))
	case 1:
		return orElse(d.kid(slots + 1))
	}
	n := d.below(4)
	return ofCon(n, d.p.Cons[n].Arity, d.kid(slots+d.p.Cons[n].Arity))
}

// spoil makes one of a program's numbers another one.
func (d *draw) spoil(p *api.Program) {
	if d.below(6) == 0 {
		d.spoilCode(p)
		return
	}
	n := &p.Nodes[d.below(len(p.Nodes))]
	switch d.below(9) {
	case 0:
		d.turn(&n.Op)
	case 1, 2:
		d.turn(&n.N)
		d.turn(&n.Kid)
	case 3:
		d.turn(&n.F.N)
	case 4:
		n.Args = append(n.Args, d.atom(2))
	case 5, 6:
		if len(n.Args) > 0 {
			d.turn(&n.Args[d.below(len(n.Args))].N)
		} else {
			d.spoil(p)
		}
	case 7:
		d.spoilClo(p, n)
	case 8:
		d.spoilBranch(p, n)
	}
}

func (d *draw) spoilCode(p *api.Program) {
	c := &p.Codes[d.below(len(p.Codes))]
	switch d.below(6) {
	case 0:
		d.turn(&c.Free)
	case 1:
		d.turn(&c.Args)
	case 2:
		d.turn(&c.Node)
	case 3:
		d.turn(&p.Globals[d.below(len(p.Globals))].Code)
	case 4:
		d.turn(&p.Cons[d.below(len(p.Cons))].Arity)
	case 5:
		d.turn(&p.Main)
	}
}

func (d *draw) spoilClo(p *api.Program, n *api.Node) {
	if len(n.Clos) == 0 {
		d.spoil(p)
		return
	}
	c := &n.Clos[d.below(len(n.Clos))]
	switch {
	case d.below(3) == 0:
		d.turn(&c.Code)
	case len(c.Caps) > 0 && d.below(2) == 0:
		d.turn(&c.Caps[d.below(len(c.Caps))])
	case d.below(2) == 0:
		c.Caps = append(c.Caps, 0)
	default:
		n.Clos = n.Clos[:len(n.Clos)-1]
	}
}

func (d *draw) spoilBranch(p *api.Program, n *api.Node) {
	if len(n.Branches) == 0 {
		d.spoil(p)
		return
	}
	b := &n.Branches[d.below(len(n.Branches))]
	d.turn([]*int{&b.Kind, &b.N, &b.Arity, &b.Node}[d.below(4)])
}

func (d *draw) turn(n *int) {
	if d.below(8) == 0 {
		*n = d.pick(math.MinInt, math.MaxInt, 65, 64, 25, 24, 1<<40, -1)
	} else {
		*n += d.pick(-2, -1, 1, 2, 3)
	}
}

// TestP141Drawn holds what is answered of drawn programs against the model, and
// reads those that are right back.
func TestP141Drawn(t *testing.T) {
	d := &draw{seed: 1}
	counts := map[api.Errno]int{}
	ops := map[int]int{}
	for i := range 60000 {
		p := d.program()
		if i%6 == 0 {
			if e := wantAsked(t, p); e != api.OK {
				t.Errorf("%d of what is drawn right", e)
			}
			for _, n := range p.Nodes {
				ops[n.Op]++
			}
		}
		for range i % 6 {
			d.spoil(&p)
		}
		counts[wantAsked(t, p)]++
		if t.Failed() {
			return
		}
	}
	if counts[api.OK] < 15000 || counts[api.ErrRange] < 5000 || counts[api.ErrKind] < 1000 || counts[api.ErrArity] < 2000 {
		t.Errorf("%v: too few to tell", counts)
	}
	for of := api.NApp; of <= api.NCase; of++ {
		if ops[of] < 3000 {
			t.Errorf("%v: too few to tell", ops)
		}
	}
}
