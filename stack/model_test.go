package stack_test

import (
	"slices"
	"testing"

	"treadwheel/api"
	"treadwheel/stack"
)

// marked is a frame, and whether it is still to be scanned.
type marked struct {
	api.Frame
	fresh bool
}

// pile is a stack, and what it is to be.
type pile struct {
	t    *testing.T
	s    *stack.Stack
	room int
	want []marked
}

func made(t *testing.T, room int) *pile {
	t.Helper()
	s, e := stack.New(room)
	if e != api.OK || s == nil {
		t.Fatalf("New(%d) = %v, %d; want a stack", room, s, e)
	}
	p := &pile{t: t, s: s, room: room}
	p.check()
	return p
}

func same(f, g api.Frame) bool {
	return f.Kind == g.Kind && f.Node == g.Node && slices.Equal(f.Words, g.Words)
}

func (p *pile) used() int {
	words := 0
	for _, f := range p.want {
		words += len(f.Words) + 2
	}
	return words
}

func (p *pile) left() int {
	count := 0
	for _, f := range p.want {
		if f.fresh {
			count++
		}
	}
	return count
}

// top is what Top is to answer.
func (p *pile) top() (marked, bool) {
	if len(p.want) == 0 {
		return marked{}, false
	}
	return p.want[len(p.want)-1], true
}

// check asks for all that can be asked without a change.
func (p *pile) check() {
	p.t.Helper()
	if got := p.s.Len(); got != len(p.want) {
		p.t.Fatalf("Len() = %d; want %d", got, len(p.want))
	}
	if got := p.s.Used(); got != p.used() {
		p.t.Fatalf("Used() = %d; want %d", got, p.used())
	}
	if got := p.s.Left(); got != p.left() {
		p.t.Fatalf("Left() = %d; want %d", got, p.left())
	}
	want, ok := p.top()
	if got, is := p.s.Top(); is != ok || !same(got, want.Frame) {
		p.t.Fatalf("Top() = %+v, %v; want %+v, %v", got, is, want.Frame, ok)
	}
	list := p.s.List()
	if !slices.EqualFunc(list, p.want, func(f api.Frame, m marked) bool { return same(f, m.Frame) }) {
		p.t.Fatalf("List() = %+v; want %+v", list, p.want)
	}
}

// push is one Push, which is to answer so.
func (p *pile) push(f api.Frame, e api.Errno) {
	p.t.Helper()
	if fits := p.used()+len(f.Words)+2 <= p.room; fits != (e == api.OK) {
		p.t.Fatalf("the test asks Push of %d words for %d, with %d of %d used", len(f.Words), e, p.used(), p.room)
	}
	if got := p.s.Push(f); got != e {
		p.t.Fatalf("Push(%+v) = %d; want %d, with %d of %d used", f, got, e, p.used(), p.room)
	}
	if e == api.OK {
		f.Words = slices.Clone(f.Words)
		p.want = append(p.want, marked{f, false})
	}
	p.check()
}

// pop is one Pop.
func (p *pile) pop() {
	p.t.Helper()
	want, ok := p.top()
	if got, fresh, is := p.s.Pop(); is != ok || fresh != want.fresh || !same(got, want.Frame) {
		p.t.Fatalf("Pop() = %+v, %v, %v; want %+v, %v", got, fresh, is, want, ok)
	}
	p.want = p.want[:max(0, len(p.want)-1)]
	p.check()
}

func (p *pile) begin() {
	p.t.Helper()
	p.s.Begin()
	for i := range p.want {
		p.want[i].fresh = true
	}
	p.check()
}

// scan is one Scan.
func (p *pile) scan() {
	p.t.Helper()
	var want api.Frame
	ok := false
	for i := len(p.want) - 1; i >= 0 && !ok; i-- {
		if p.want[i].fresh {
			want, ok = p.want[i].Frame, true
			p.want[i].fresh = false
		}
	}
	if got, is := p.s.Scan(); is != ok || !same(got, want) {
		p.t.Fatalf("Scan() = %+v, %v; want %+v, %v", got, is, want, ok)
	}
	p.check()
}

// draws hands out numbers without an order, the same ones each time.
func draws() func(below int) int {
	state := uint64(15)
	return func(below int) int {
		state = state*6364136223846793005 + 1442695040888963407
		return int(state>>33) % below
	}
}

// drawn is a frame of fewer words than so many, unlike others by its node.
func drawn(draw func(below int) int, node, words int) api.Frame {
	f := api.Frame{Kind: api.FUpdate + draw(3), Node: node}
	for range draw(words) {
		f.Words = append(f.Words, int64(draw(1<<30)))
	}
	return f
}

// do is the call of a number, 0 to 3, of the four that change something.
func (p *pile) do(call, node int) {
	p.t.Helper()
	switch call {
	case 0:
		f := api.Frame{Kind: api.FArgs, Node: node, Words: make([]int64, len(p.want)%3)}
		p.push(f, errIf(p.used()+len(f.Words)+2 > p.room, api.ErrStack))
	case 1:
		p.pop()
	case 2:
		p.begin()
	default:
		p.scan()
	}
}

// errIf is that error if so, else none.
func errIf(is bool, e api.Errno) api.Errno {
	if is {
		return e
	}
	return api.OK
}

// All rows of nine calls of those four, as the words have it.
func TestP152AllShortRows(t *testing.T) {
	const calls = 9
	for row := range 1 << (2 * calls) {
		p := &pile{t: t, room: 12}
		p.s, _ = stack.New(p.room)
		for i := range calls {
			p.do(row>>(2*i)&3, i)
		}
	}
}

func TestP152AsTheWordsHaveIt(t *testing.T) {
	draw := draws()
	for _, room := range []int{0, 1, 2, 3, 10, 60, 300} {
		p := made(t, room)
		for i := range 3000 {
			grows := i/100%2 == 0 // so that it is deep at times, and empty at times
			switch n := draw(10); {
			case n < 2 || n < 5 && grows:
				f := drawn(draw, i, 6)
				p.push(f, errIf(p.used()+len(f.Words)+2 > room, api.ErrStack))
			case n < 6:
				p.pop()
			case n == 6 && draw(4) == 0:
				p.begin()
			default:
				p.scan()
			}
		}
	}
}
