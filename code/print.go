package code

import (
	"strconv"
	"strings"

	"treadwheel/api"
)

const (
	blank   = " "
	lineEnd = "\n"
	comma   = ","

	floatMark   = "0f"
	floatDigits = 16
)

// Print: its text.
func Print(p api.Program) string {
	var g page
	g.constructors(p.Cons)
	g.words("main")
	g.numbers(p.Main)
	g.end()
	for i, x := range p.Globals {
		g.global(i, x)
	}
	for i, c := range p.Codes {
		g.code(i, c)
	}
	for i, n := range p.Nodes {
		g.node(i, n)
	}
	return g.text.String()
}

// page is a text that is put together word by word.
type page struct {
	text  strings.Builder
	begun bool // whether a word of the line is there
}

func (g *page) words(words ...string) {
	for _, w := range words {
		if g.begun {
			g.text.WriteString(blank)
		}
		g.text.WriteString(w)
		g.begun = true
	}
}

func (g *page) numbers(numbers ...int) {
	for _, n := range numbers {
		g.words(strconv.Itoa(n))
	}
}

func (g *page) end() {
	g.text.WriteString(lineEnd)
	g.begun = false
}

func (g *page) constructors(cons []api.Decl) {
	g.words("cons")
	for _, d := range cons {
		g.words(d.Name)
		g.numbers(d.Arity)
	}
	g.end()
}

func (g *page) global(at int, x api.Global) {
	g.words("global")
	g.numbers(at)
	if x.Code == ofNumber {
		g.words("number", numText(x.Num))
	} else {
		g.words("code")
		g.numbers(x.Code)
	}
	g.end()
}

func (g *page) code(at int, c api.Code) {
	g.words("code")
	g.numbers(at, c.Free, c.Args, c.Node)
	if c.Name != "" {
		g.words(c.Name)
	}
	g.end()
}

func (g *page) node(at int, n api.Node) {
	g.words("node")
	g.numbers(at)
	switch n.Op {
	case api.NApp:
		g.words("app")
		g.atoms(n.F)
		g.atoms(n.Args...)
	case api.NCon:
		g.words("con")
		g.numbers(n.N)
		g.atoms(n.Args...)
	case api.NOp:
		g.words("op")
		g.numbers(n.N)
		g.atoms(n.Args...)
	case api.NWeak:
		g.words("weak")
		g.atoms(n.Args...)
	case api.NSee:
		g.words("see")
		g.atoms(n.Args...)
	case api.NLet:
		g.words("let")
		g.numbers(n.Kid)
		g.closures(n.Clos)
	case api.NCase:
		g.words("case")
		g.numbers(n.Kid)
		g.branches(n.Branches)
	}
	g.end()
}

func (g *page) atoms(atoms ...api.Atom) {
	for _, a := range atoms {
		mark := "s"
		if a.Global {
			mark = "g"
		}
		g.words(mark + strconv.Itoa(a.N))
	}
}

func (g *page) closures(clos []api.Clo) {
	for _, c := range clos {
		var caps []string
		for _, slot := range c.Caps {
			caps = append(caps, strconv.Itoa(slot))
		}
		g.words(strconv.Itoa(c.Code) + ":" + strings.Join(caps, comma))
	}
}

func (g *page) branches(branches []api.Branch) {
	for _, b := range branches {
		switch b.Kind {
		case api.ACon:
			g.words("con")
		case api.ANum:
			g.words("num")
		case api.AElse:
			g.words("else")
		}
		g.numbers(b.N, b.Arity, b.Node)
	}
}

// numText: a number as layer 1 has it, which isn't one of those that this layer
// calls.
func numText(n api.Num) string {
	if !n.Float {
		return strconv.FormatInt(int64(n.Bits), 10)
	}
	digits := strconv.FormatUint(n.Bits, 16)
	return floatMark + strings.Repeat("0", floatDigits-len(digits)) + digits
}
