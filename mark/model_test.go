package mark_test

import (
	"math"
	"reflect"
	"slices"
	"testing"

	"treadwheel/api"
	"treadwheel/cell"
	"treadwheel/heap"
)

// draws hands out numbers without an order, the same ones each time.
func draws() func(below int) int {
	state := uint64(16)
	return func(below int) int {
		state = state*6364136223846793005 + 1442695040888963407
		return int(state>>33) % below
	}
}

// isLink is the chapter's words of which words are links.
func isLink(c cell.Cell, k int) bool {
	switch c.Kind {
	case api.Con, api.Thunk, api.Fun, api.Pap:
		return k < c.Size
	case api.Ind:
		return k < c.Size && k == 0
	case api.Weak:
		return k < c.Size && k >= 1 && k <= 3
	case api.Tomb:
		return k < c.Size && k >= 2 && k <= 3
	}
	return false
}

// graph is objects of a heap, and their words.
type graph struct {
	*world
	objects []int
	draw    func(below int) int
}

// shapes are heaps: their words, how many of these are for large objects, and
// their classes.
var shapes = []api.Config{
	{Words: 2000, Large: 0, Classes: []int{24}},
	{Words: 2000, Large: 1990, Classes: []int{1}},
	{Words: 4000, Large: 1500, Classes: []int{1, 2, 3, 5, 8, 13}},
	{Words: 3000, Large: 1000, Classes: []int{2, 4}},
	{Words: 900, Large: 300, Classes: []int{3, 7, 24}},
}

func drawnGraph(t *testing.T, c api.Config, draw func(below int) int) *graph {
	g := &graph{world: made(t, c.Words, c.Large, c.Classes...), draw: draw}
	for range 10 + draw(200) {
		g.alloc(draw(11), draw(8), draw(100), draw(2)*draw(24))
	}
	for _, at := range g.objects {
		c, _ := g.h.Cell(at)
		for k := range c.Size {
			g.h.Set(at, k, g.word(c, k))
		}
	}
	return g
}

// alloc is an object more, if there is room.
func (g *graph) alloc(kind, size, aux, more int) (int, bool) {
	at, e := g.h.Alloc(kind, aux, size+more)
	if e == api.OK {
		g.objects = append(g.objects, at)
	}
	return at, e == api.OK
}

// word is one for an object's: a link leads to an object, or nowhere; another
// word may be any, and often is an object's address.
func (g *graph) word(c cell.Cell, k int) int64 {
	switch n := g.draw(4); {
	case n == 0:
		return 0
	case n == 1 && !isLink(c, k):
		return int64(g.draw(1<<30)) - 1<<29
	}
	return int64(g.objects[g.draw(len(g.objects))])
}

// reach is what is reached from addresses, told by a walk over words, and how
// many objects and links that are.
func (g *graph) reach(from []int64) (reached map[int]bool, units int) {
	reached = map[int]bool{}
	for len(from) > 0 {
		at := int(from[0])
		from = from[1:]
		if at == 0 || reached[at] {
			continue
		}
		reached[at] = true
		units++
		c, _ := g.h.Cell(at)
		for k := range c.Size {
			if isLink(c, k) {
				word, _ := g.h.Get(at, k)
				from = append(from, word)
				units++
			}
		}
	}
	return reached, units
}

// wants asks that these, and none but these, are marked.
func (g *graph) wants(marked map[int]bool) {
	g.t.Helper()
	for _, at := range g.objects {
		c, e := g.h.Cell(at)
		if is := c.Mark == g.h.Parity(); e != api.OK || is != marked[at] {
			g.t.Fatalf("of %d: marked %v, %d; want %v", at, is, e, marked[at])
		}
	}
}

// end is End, and sweeps; only these are there still.
func (g *graph) end(there map[int]bool) {
	g.t.Helper()
	g.world.end()
	for g.h.Sweep() {
	}
	g.objects = slices.DeleteFunc(g.objects, func(at int) bool { return !there[at] })
	for _, s := range append(g.h.Rings(), g.h.Large()) {
		for _, at := range s.Black {
			if !there[at] {
				g.t.Fatalf("%d is there; want %v", at, there)
			}
		}
	}
}

// roots are some addresses, some of them 0, some there twice.
func (g *graph) roots() []int64 {
	var list []int64
	for range g.draw(6) {
		list = append(list, g.word(cell.Cell{Kind: api.Con, Size: 1}, 0))
	}
	return list
}

// Cycles of drawn graphs, in pieces of all sizes: what is reached is marked, and
// what is made meanwhile; each object and each link is one unit.
func TestP162Drawn(t *testing.T) {
	draw := draws()
	for range 60 {
		for _, shape := range shapes {
			g := drawnGraph(t, shape, draw)
			for len(g.objects) > 0 {
				g.cycle([]int{1, 2, 3, 7, 50, math.MaxInt}[draw(6)])
			}
		}
	}
}

// cycle is one, of drawn roots, in pieces.
func (g *graph) cycle(piece int) {
	g.t.Helper()
	g.begin()
	roots := g.roots()
	reached, want := g.reach(roots)
	for _, at := range roots {
		g.shade(at, api.OK)
	}
	units := 0
	for !g.m.Done() {
		n := g.m.Work(piece)
		if n < 1 || n > piece {
			g.t.Fatalf("Work(%d) = %d, ahead of Done", piece, n)
		}
		units += n
		if at, ok := g.alloc(g.draw(11), g.draw(8), 0, 0); ok {
			reached[at] = true
		}
	}
	if n := g.m.Work(piece); n != 0 {
		g.t.Fatalf("Work(%d) = %d, behind Done", piece, n)
	}
	if units != want {
		g.t.Fatalf("there were %d units; want %d", units, want)
	}
	g.wants(reached)
	g.end(reached)
}

// No unit uses more words than it may, whatever the rows are like.
func TestP163Drawn(t *testing.T) {
	draw := draws()
	units := 0
	for range 30 {
		for _, shape := range shapes {
			g := drawnGraph(t, shape, draw)
			g.begin()
			for _, at := range g.objects {
				if draw(3) == 0 {
					g.shade(int64(at), api.OK)
				}
				for n := -1; n != 0; { // pieces of one, till there is none left
					uses := g.h.Uses()
					n = g.m.Work(1)
					units += n
					if uses = g.h.Uses() - uses; n == 1 && uses > mostUses {
						t.Fatalf("a unit used %d words", uses)
					}
					if draw(3) == 0 {
						break
					}
				}
			}
		}
	}
	if units < 10000 {
		t.Errorf("only %d units were looked at", units)
	}
}

// plain is a marker as the chapter's words have it, over a heap of its own.
type plain struct {
	h     *heap.Heap
	taken bool
	at    int
	from  int // its links ahead of this word were looked at
}

func (p *plain) shade(at int64) api.Errno {
	if at == 0 {
		return api.OK
	}
	_, e := p.h.Shade(int(at))
	return e
}

func (p *plain) links(at int) api.Errno {
	c, _ := p.h.Cell(at)
	for k := range c.Size {
		if isLink(c, k) {
			word, _ := p.h.Get(at, k)
			p.shade(word)
		}
	}
	return api.OK
}

// next is which link of what is taken is to be looked at.
func (p *plain) next() (int, bool) {
	c, _ := p.h.Cell(p.at)
	for k := p.from; p.taken && k < c.Size; k++ {
		if isLink(c, k) {
			return k, true
		}
	}
	return 0, false
}

func (p *plain) work(units int) int {
	for n := range units {
		if k, ok := p.next(); ok {
			p.from = k + 1
			word, _ := p.h.Get(p.at, k)
			p.shade(word)
			continue
		}
		p.taken = false
		at, ok := p.h.Next()
		if !ok {
			return n
		}
		p.h.Done(at)
		p.taken, p.at, p.from = true, at, 0
	}
	return max(0, units)
}

// twins are a marker and a plain one, over heaps that are told the same.
type twins struct {
	*graph
	p *plain
}

// same asks for all that can be asked.
func (w *twins) same() {
	w.t.Helper()
	k, half := w.p.next()
	_, grey := w.p.h.Next()
	at := w.p.at
	if !half {
		at, k = 0, 0
	}
	w.stands(!half && !grey, at, k)
	if !slices.Equal(w.h.Words(), w.p.h.Words()) || !reflect.DeepEqual(w.h.Rings(), w.p.h.Rings()) || !reflect.DeepEqual(w.h.Large(), w.p.h.Large()) {
		w.t.Fatalf("the heaps lie otherwise")
	}
}

// any is one of the objects.
func (w *twins) any() int { return w.objects[w.draw(len(w.objects))] }

// do is a drawn call, or two.
func (w *twins) do() {
	w.t.Helper()
	switch w.draw(10) {
	case 0:
		kind, size, aux := w.draw(11), w.draw(12), w.draw(100)
		if _, ok := w.alloc(kind, size, aux, 0); ok {
			w.p.h.Alloc(kind, aux, size)
		}
	case 1:
		w.put(w.any())
	case 2:
		at, kind, aux := w.any(), w.draw(11), w.draw(100)
		if w.draw(3) == 0 && w.p.taken {
			at = w.p.at
		}
		w.h.Become(at, kind, aux)
		w.p.h.Become(at, kind, aux)
	case 3:
		at := int64(w.any()) * int64(min(1, w.draw(5)))
		w.shade(at, w.p.shade(at))
	case 4:
		at := w.any()
		w.links(int64(at), w.p.links(at))
	case 5:
		if w.m.Done() && w.draw(3) == 0 {
			w.turn()
		}
	default:
		units := w.draw(5) - 1
		if n, want := w.m.Work(units), w.p.work(units); n != want {
			w.t.Fatalf("Work(%d) = %d; want %d", units, n, want)
		}
	}
}

// put sets a word, which is an object's address or 0: it may become a link.
func (w *twins) put(at int) {
	if c, _ := w.h.Cell(at); c.Size > 0 {
		k, word := w.draw(c.Size), int64(w.any()*w.draw(2))
		w.h.Set(at, k, word)
		w.p.h.Set(at, k, word)
	}
}

// turn is the end of a cycle, and the beginning of another one, in which the
// words of what is left lead to nothing that is gone.
func (w *twins) turn() {
	w.t.Helper()
	there := map[int]bool{0: true}
	for _, at := range w.objects {
		if c, _ := w.h.Cell(at); c.Mark == w.h.Parity() {
			there[at] = true
		}
	}
	w.graph.end(there)
	w.p.h.End()
	for w.p.h.Sweep() {
	}
	for _, at := range w.objects {
		c, _ := w.h.Cell(at)
		for k := range c.Size {
			if word, _ := w.h.Get(at, k); !there[int(word)] {
				w.h.Set(at, k, 0)
				w.p.h.Set(at, k, 0)
			}
		}
	}
	w.alloc(api.Con, 1, 0, 0) // so that there is one at all times
	w.p.h.Alloc(api.Con, 0, 1)
	w.h.Begin()
	w.p.h.Begin()
	w.p.taken = false
}

func TestP161AsTheWordsHaveIt(t *testing.T) {
	draw := draws()
	for range 20 {
		for _, shape := range shapes {
			p, _ := heap.New(shape)
			w := &twins{&graph{world: made(t, shape.Words, shape.Large, shape.Classes...), draw: draw}, &plain{h: p}}
			w.turn()
			for range 600 {
				w.do()
				w.same()
			}
		}
	}
}
