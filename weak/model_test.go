package weak_test

import (
	"slices"
	"testing"

	"treadwheel/api"
	"treadwheel/heap"
	"treadwheel/mark"
	"treadwheel/weak"
)

// draws hands out numbers without an order, the same ones each time.
func draws() func(below int) int {
	state := uint64(17)
	return func(below int) int {
		state = state*6364136223846793005 + 1442695040888963407
		return int(state>>33) % below
	}
}

// entry is a weak pointer, or a tomb, as it is to be.
type entry struct {
	at, number        int
	key, value, final int
}

// plain is a table as the chapter's words have it, by lists, over the same heap.
type plain struct {
	*world
	draw             func(below int) int
	row, queue, walk []entry
	taken            []entry
	keys             []int
	number           int
	walking          bool
}

func places(of []entry) []int {
	var list []int
	for _, x := range of {
		list = append(list, x.at)
	}
	return list
}

func without(of []entry, at int) []entry {
	return slices.DeleteFunc(slices.Clone(of), func(x entry) bool { return x.at == at })
}

// same asks for all that can be asked.
func (p *plain) same() {
	p.t.Helper()
	p.rows(places(p.row), places(p.queue))
	for _, x := range p.row {
		behind := p.get(x.at, 3)
		p.is(x.at, api.Weak, x.number, x.key, x.value, x.final, behind)
	}
	for _, x := range p.queue {
		behind := p.get(x.at, 3)
		p.is(x.at, api.Tomb, x.number, 0, 0, x.final, behind)
	}
	for _, x := range p.taken {
		p.is(x.at, api.Tomb, x.number, 0, 0, 0, 0)
	}
}

// any is some address that a word may have, 0 among them.
func (p *plain) any() int {
	if len(p.keys) == 0 || p.draw(6) == 0 {
		return 0
	}
	return p.keys[p.draw(len(p.keys))]
}

// room says whether so many words more fit for sure.
func (p *plain) room() bool { return len(p.row)+len(p.queue)+len(p.taken)+len(p.keys) < 60 }

func (p *plain) grow() {
	p.t.Helper()
	if !p.room() {
		return
	}
	if p.draw(2) == 0 {
		p.keys = append(p.keys, p.key())
		return
	}
	p.number++
	x := entry{0, p.number, p.any(), p.any(), p.any()}
	x.at = p.object(api.Weak, x.number, x.key, x.value, x.final, p.any())
	p.put(x)
}

// put is an Add, of a new one or of one that is there.
func (p *plain) put(x entry) {
	p.t.Helper()
	p.add(x.at, api.OK)
	p.row = slices.Concat([]entry{x}, without(p.row, x.at))
	p.walk = without(p.walk, x.at)
}

// isMarked is of a key, which is at a word of its own.
func (p *plain) isMarked(at int) bool {
	c, e := p.h.Cell(at)
	return at != 0 && e == api.OK && c.Mark == p.h.Parity()
}

func (p *plain) walkOn() bool {
	p.t.Helper()
	if len(p.walk) == 0 {
		p.over()
		return false
	}
	x := p.walk[0]
	p.walk = p.walk[1:]
	buried := !p.isMarked(x.key)
	if buried {
		p.row = without(p.row, x.at)
		p.queue = append(p.queue, x)
	}
	p.step(x.number, buried, true)
	return true
}

func (p *plain) walkAnew() {
	p.walk = slices.Clone(p.row)
	p.w.Begin()
}

func (p *plain) takeOne() {
	p.t.Helper()
	calls := len(p.shaded)
	if len(p.queue) == 0 {
		p.none()
		p.calls(p.shaded[:calls]...)
		return
	}
	x := p.queue[0]
	p.queue = p.queue[1:]
	p.taken = append(p.taken, x)
	behind := append(places(p.queue), 0)[0]
	want := append(slices.Clone(p.shaded), int64(x.final), int64(behind))
	p.take(x.at, x.number, int64(x.final))
	p.calls(want...)
}

// turn is a cycle's end, and the next one's beginning: all that the lists have
// is kept, and some of the keys; the others' cells may be had anew.
func (p *plain) turn() {
	p.t.Helper()
	for _, x := range slices.Concat(p.row, p.queue) {
		p.h.Shade(x.at)
	}
	p.taken = nil
	p.keys = slices.DeleteFunc(p.keys, func(at int) bool { return p.draw(3) == 0 })
	for _, at := range p.keys {
		p.h.Shade(at)
	}
	p.finish()
	p.begin()
}

// do is a drawn call, or some.
func (p *plain) do() {
	p.t.Helper()
	uses := p.h.Uses()
	switch p.draw(16) {
	case 0, 1, 2, 3:
		p.grow()
	case 4:
		if len(p.row) > 0 && p.draw(3) == 0 {
			p.put(p.row[p.draw(len(p.row))])
		}
	case 5:
		for _, x := range slices.Concat(p.queue, p.taken) {
			p.add(x.at, api.ErrKind)
		}
	case 6:
		p.walkAnew()
		if n := p.h.Uses() - uses; n > mostUses {
			p.t.Fatalf("Begin used %d words", n)
		}
	case 7, 8, 9, 10:
		p.walkOn()
	case 11, 12:
		p.takeOne()
	case 13, 14:
		if at := p.any(); at != 0 {
			p.h.Shade(at)
		}
	default:
		if p.draw(4) == 0 {
			p.turn()
		}
	}
}

// A table goes as the chapter's words have it, call by call.
func TestP17AsTheWordsHaveIt(t *testing.T) {
	draw := draws()
	buried := 0
	for range 40 {
		p := &plain{world: made(t, 1600), draw: draw}
		p.begin()
		for range 400 {
			p.do()
			p.same()
			p.shaded = nil
		}
		buried += len(p.taken) + len(p.queue)
	}
	if buried < 100 {
		t.Errorf("only %d were buried", buried)
	}
}

// history is what came to pass of a weak pointer, by its number.
type history struct{ key, buried, taken int }

// whole is a table in whole cycles, with a marker that shades what Take sets.
type whole struct {
	*world
	m     *mark.Marker
	draw  func(below int) int
	live  []int // what is held, as a program's registers
	all   map[int]*history
	count int
	still bool // nothing is held any more
}

// Cycles, in which weak pointers are added and taken all the while: each is
// buried once at most, as soon as a walk finds that its key isn't reached, and
// taken once at most, behind that.
func TestP174Cycles(t *testing.T) {
	draw := draws()
	for range 40 {
		x := &whole{world: &world{t: t}, draw: draw, all: map[int]*history{}}
		x.h, _ = heap.New(api.Config{Words: 4000, Large: 400, Classes: []int{1, 2, 4}})
		x.m = mark.New(x.h)
		x.w = weak.New(x.h, func(at int64) { x.m.Shade(at) })
		for range 12 {
			x.grow()
			x.cycle()
		}
		x.still, x.live = true, nil
		for n := 0; n < 2 || len(x.w.Row()) > 0; n++ { // a key may be a weak pointer, which its row leads to
			x.cycle()
			for x.takeOne() {
			}
			if n > 2*x.count {
				t.Fatalf("in the row are %v still", x.w.Row())
			}
		}
		x.ended()
	}
}

// grow is objects more, held, and weak pointers of what is held.
func (x *whole) grow() {
	x.t.Helper()
	if x.still || len(x.live)+len(x.w.Row()) > 100 {
		return
	}
	for range x.draw(5) {
		x.live = append(x.live, x.object(api.Con, 0, x.held(), x.held()))
	}
	for range x.draw(4) {
		x.count++
		key := x.held()
		if key == 0 {
			continue
		}
		// What none but a weak pointer leads to, so that no key is reached by it.
		at := x.object(api.Weak, x.count, key, x.key(), x.object(api.Int, 0, x.count), 0)
		x.add(at, api.OK)
		x.all[x.count] = &history{key: key}
		if x.draw(3) == 0 {
			x.live = append(x.live, at)
		}
	}
}

// held is one of those that are, or 0.
func (x *whole) held() int {
	if len(x.live) == 0 || x.draw(5) == 0 {
		return 0
	}
	return x.live[x.draw(len(x.live))]
}

func (x *whole) takeOne() bool {
	x.t.Helper()
	at, number, final, ok := x.w.Take()
	if !ok {
		return false
	}
	x.is(int(final), api.Int, 0, number)
	o := x.all[number]
	if o == nil || o.buried != 1 || o.taken != 0 {
		x.t.Fatalf("%d at %d is taken: %+v", number, at, o)
	}
	o.taken++
	return true
}

// meanwhile is some of what goes on between pieces of a cycle.
func (x *whole) meanwhile() {
	x.t.Helper()
	switch x.draw(6) {
	case 0:
		x.grow()
	case 1:
		x.takeOne()
	}
}

func (x *whole) cycle() {
	x.t.Helper()
	x.live = slices.DeleteFunc(x.live, func(at int) bool { return x.draw(3) == 0 })
	x.begin()
	for _, at := range append(x.w.Roots(), 0) {
		x.m.Shade(at)
	}
	for _, at := range x.live {
		x.m.Shade(int64(at))
	}
	for !x.m.Done() {
		x.m.Work(1 + x.draw(6))
		x.meanwhile()
	}
	row := x.w.Row()
	x.w.Begin()
	for _, at := range row {
		x.meanwhile()
		x.walked(at)
	}
	x.over()
	if e := x.h.End(); e != api.OK {
		x.t.Fatalf("End(): %d", e)
	}
	x.kept()
}

// walked is a Step, of the weak pointer there.
func (x *whole) walked(at int) {
	x.t.Helper()
	c, _ := x.h.Cell(at)
	o := x.all[c.Aux]
	k, _ := x.h.Cell(o.key)
	want := k.Mark != x.h.Parity()
	uses := x.h.Uses()
	x.step(c.Aux, want, true)
	if n := x.h.Uses() - uses; n > mostUses {
		x.t.Fatalf("Step used %d words", n)
	}
	if want {
		o.buried++
	}
	if o.buried > 1 {
		x.t.Fatalf("%d is buried anew: %+v", c.Aux, o)
	}
}

// kept asks that what is in the row, and in the queue, is there still, and that
// each key in the row is.
func (x *whole) kept() {
	x.t.Helper()
	black := map[int]bool{}
	for _, s := range x.h.Rings() {
		for _, at := range s.Black {
			black[at] = true
		}
	}
	for _, at := range x.w.Row() {
		if key := x.get(at, 0); !black[at] || !black[key] {
			x.t.Fatalf("%d, of the key %d, is in the row: %v, %v", at, key, black[at], black[key])
		}
	}
	for _, at := range x.w.Queue() {
		if !black[at] {
			x.t.Fatalf("%d is in the queue, but isn't there", at)
		}
	}
}

// ended asks that all came to pass, and just once.
func (x *whole) ended() {
	x.t.Helper()
	x.rows(nil, nil)
	for number, o := range x.all {
		if o.buried != 1 || o.taken != 1 {
			x.t.Fatalf("%d: %+v; want buried and taken once", number, o)
		}
	}
}
