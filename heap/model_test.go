package heap_test

import (
	"maps"
	"slices"
	"testing"

	"treadwheel/api"
	"treadwheel/cell"
	"treadwheel/heap"
)

const mostUses = 60

// rows are a ring as layer 5's words have it: the cells of each colour.
type rows [4][]int

func (m *rows) move(at, from, to int, first bool) {
	i := slices.Index(m[from], at)
	m[from] = slices.Delete(m[from], i, i+1)
	if first {
		m[to] = slices.Insert(m[to], 0, at)
	} else {
		m[to] = append(m[to], at)
	}
}

func (m *rows) recolour(from, to int) { m[from], m[to] = nil, append(m[to], m[from]...) }

func (m *rows) has(colour int) bool { return len(m[colour]) > 0 }

// object is one that is there, or a large one that isn't swept.
type object struct {
	cell.Cell
	words []int64
}

// pile is a heap, and what it is to be.
type pile struct {
	t       *testing.T
	h       *heap.Heap
	c       api.Config
	rings   []rows // the classes', then that of the large ones
	unused  int
	taken   map[int]bool // of the large ones' room
	objects map[int]object
	parity  int
}

func made(t *testing.T, words, large int, classes ...int) *pile {
	t.Helper()
	c := api.Config{Words: words, Large: large, Classes: classes}
	h, e := heap.New(c)
	if e != api.OK {
		t.Fatalf("New(%+v): %d", c, e)
	}
	p := &pile{t: t, h: h, c: c, rings: make([]rows, len(classes)+1), unused: 1, taken: map[int]bool{}, objects: map[int]object{}}
	p.check()
	return p
}

// ring is the number of the one that objects of a size go into.
func (p *pile) ring(size int) int {
	for i, most := range p.c.Classes {
		if size <= most {
			return i
		}
	}
	return len(p.c.Classes)
}

func (p *pile) of(size int) *rows { return &p.rings[p.ring(size)] }

func (p *pile) large() *rows { return &p.rings[len(p.c.Classes)] }

func (p *pile) has(colour int) bool {
	return slices.ContainsFunc(p.rings, func(m rows) bool { return m.has(colour) })
}

// there are the objects that are, rising.
func (p *pile) there() []int {
	all := slices.Sorted(maps.Keys(p.objects))
	return slices.DeleteFunc(all, func(at int) bool {
		return slices.Contains(p.large()[api.White], at)
	})
}

func sameRows(s api.Segment, want rows) bool {
	return slices.Equal(s.White, want[0]) && slices.Equal(s.From, want[1]) && slices.Equal(s.Grey, want[2]) && slices.Equal(s.Black, want[3])
}

// check asks for all that can be asked.
func (p *pile) check() {
	p.t.Helper()
	list := p.h.Rings()
	if len(list) != len(p.c.Classes) {
		p.t.Fatalf("Rings() has %d; want %d", len(list), len(p.c.Classes))
	}
	for i, s := range append(list, p.h.Large()) {
		if !sameRows(s, p.rings[i]) {
			p.t.Fatalf("ring %d is %+v; want %v", i, s, p.rings[i])
		}
	}
	if got := p.h.Parity(); got != p.parity {
		p.t.Fatalf("Parity() = %d; want %d", got, p.parity)
	}
	for at, o := range p.objects {
		if c, e := p.h.Cell(at); c != o.Cell || e != api.OK {
			p.t.Fatalf("Cell(%d) = %+v, %d; want %+v", at, c, e, o.Cell)
		}
	}
	for _, at := range p.there() {
		p.readable(at)
	}
}

// readable asks for an object's words by Get, which reads none past them.
func (p *pile) readable(at int) {
	p.t.Helper()
	o := p.objects[at]
	for k := -1; k <= o.Size; k++ {
		want, e := int64(0), api.ErrRange
		if k >= 0 && k < o.Size {
			want, e = o.words[k], api.OK
		}
		if got, f := p.h.Get(at, k); got != want || f != e {
			p.t.Fatalf("Get(%d, %d) = %d, %d; want %d, %d (%+v)", at, k, got, f, want, e, o)
		}
	}
}

// call is one call, whose answer is already known, and which uses no more words
// than it may; with an error no word is another.
func (p *pile) call(name string, size int, e api.Errno, f func() api.Errno) {
	p.t.Helper()
	uses, lay := p.h.Uses(), p.h.Words()
	if got := f(); got != e {
		p.t.Fatalf("%s: %d; want %d (%v)", name, got, e, p.rings)
	}
	if n := p.h.Uses() - uses; n > mostUses+size {
		p.t.Fatalf("%s used %d words; want at most %d", name, n, mostUses+size)
	}
	if e != api.OK && !slices.Equal(p.h.Words(), lay) {
		p.t.Fatalf("%s: %d, but the arena is another", name, e)
	}
	p.check()
}

// place is what Alloc is to answer for an object that layer 4 takes.
func (p *pile) place(size int) (int, api.Errno) {
	i := p.ring(size)
	if i == len(p.c.Classes) {
		return p.room(size + 3)
	}
	if m := p.rings[i]; m.has(api.White) {
		return m[api.White][0], api.OK
	}
	if p.unused+p.c.Classes[i]+3 > p.c.Words-p.c.Large {
		return 0, api.ErrFull
	}
	return p.unused, api.OK
}

// room is where the first so many free places of the large ones' room begin.
func (p *pile) room(n int) (int, api.Errno) {
	for at := p.c.Words - p.c.Large; at+n <= p.c.Words; at++ {
		free := 0
		for free < n && !p.taken[at+free] {
			free++
		}
		if free == n {
			return at, api.OK
		}
	}
	return 0, api.ErrFull
}

func (p *pile) hold(at, n int, is bool) {
	for k := range n {
		p.taken[at+k] = is
	}
}

// alloc is one Alloc, of an object that layer 4 takes.
func (p *pile) alloc(kind, aux, size int) (int, api.Errno) {
	p.t.Helper()
	at, e := p.place(size)
	i := p.ring(size)
	if m := &p.rings[i]; e == api.OK {
		switch {
		case i == len(p.c.Classes):
			p.hold(at, size+3, true)
			m[api.Black] = append(m[api.Black], at)
		case m.has(api.White):
			m.move(at, api.White, api.Black, false)
		default:
			p.unused += p.c.Classes[i] + 3
			m[api.Black] = append(m[api.Black], at)
		}
		p.objects[at] = object{cell.Cell{Kind: kind, Aux: aux, Size: size, Mark: p.parity}, make([]int64, size)}
	}
	p.call("Alloc", size, e, func() api.Errno {
		got, f := p.h.Alloc(kind, aux, size)
		if got != at {
			p.t.Fatalf("Alloc(%d, %d, %d) = %d, %d; want %d, %d", kind, aux, size, got, f, at, e)
		}
		return f
	})
	return at, e
}

// put is an Alloc that is to answer that.
func (p *pile) put(size, at int, e api.Errno) {
	p.t.Helper()
	if got, f := p.alloc(api.Con, 7, size); got != at || f != e {
		p.t.Fatalf("the test's own Alloc(.., %d) = %d, %d; want %d, %d", size, got, f, at, e)
	}
}

func (p *pile) set(at, k int, word int64) {
	p.t.Helper()
	o := p.objects[at]
	e := api.ErrRange
	if k >= 0 && k < o.Size {
		o.words[k], e = word, api.OK
	}
	p.call("Set", o.Size, e, func() api.Errno { return p.h.Set(at, k, word) })
}

func (p *pile) become(at, kind, aux int, e api.Errno) {
	p.t.Helper()
	o := p.objects[at]
	if e == api.OK {
		o.Kind, o.Aux = kind, aux
		p.objects[at] = o
	}
	p.call("Become", o.Size, e, func() api.Errno { return p.h.Become(at, kind, aux) })
}

func (p *pile) shade(at int) {
	p.t.Helper()
	o := p.objects[at]
	is := o.Mark != p.parity
	if is {
		p.of(o.Size).move(at, api.From, api.Grey, false)
		o.Mark = p.parity
		p.objects[at] = o
	}
	p.call("Shade", o.Size, api.OK, func() api.Errno {
		got, e := p.h.Shade(at)
		if got != is {
			p.t.Fatalf("Shade(%d) = %v, %d; want %v", at, got, e, is)
		}
		return e
	})
}

// grey is what Next is to answer.
func (p *pile) grey() (int, bool) {
	for _, m := range p.rings {
		if row := m[api.Grey]; len(row) > 0 {
			return row[len(row)-1], true
		}
	}
	return 0, false
}

// next asks what Next answers, which changes nothing.
func (p *pile) next() (int, bool) {
	p.t.Helper()
	at, ok := p.grey()
	lay := p.h.Words()
	p.call("Next", 0, api.OK, func() api.Errno {
		if got, is := p.h.Next(); got != at || is != ok {
			p.t.Fatalf("Next() = %d, %v; want %d, %v", got, is, at, ok)
		}
		return api.OK
	})
	if !slices.Equal(p.h.Words(), lay) {
		p.t.Fatalf("Next() changed the arena")
	}
	return at, ok
}

// done is of a last Grey one.
func (p *pile) done(at int) {
	p.t.Helper()
	o := p.objects[at]
	p.of(o.Size).move(at, api.Grey, api.Black, true)
	p.call("Done", o.Size, api.OK, func() api.Errno { return p.h.Done(at) })
}

func (p *pile) begin() api.Errno {
	p.t.Helper()
	e := api.OK
	if p.has(api.From) || p.has(api.Grey) {
		e = api.ErrState
	} else {
		for i := range p.rings {
			p.rings[i].recolour(api.Black, api.From)
		}
		p.parity = 1 - p.parity
	}
	p.call("Begin", 0, e, p.h.Begin)
	return e
}

func (p *pile) end() api.Errno {
	p.t.Helper()
	e := api.OK
	if p.has(api.Grey) {
		e = api.ErrState
	} else {
		p.endAll()
	}
	p.call("End", 0, e, p.h.End)
	return e
}

// endAll: what was From is White, and none of these is there any more; only of
// the large ones is it told still what they were.
func (p *pile) endAll() {
	for i := range p.rings {
		if m := &p.rings[i]; i < len(p.c.Classes) {
			for _, at := range m[api.From] {
				delete(p.objects, at)
			}
		}
		p.rings[i].recolour(api.From, api.White)
	}
}

func (p *pile) sweep() bool {
	p.t.Helper()
	m := p.large()
	is := m.has(api.White)
	if is {
		at := m[api.White][0]
		m[api.White] = m[api.White][1:]
		p.hold(at, p.objects[at].Size+3, false)
		delete(p.objects, at)
	}
	p.call("Sweep", 0, api.OK, func() api.Errno {
		if got := p.h.Sweep(); got != is {
			p.t.Fatalf("Sweep() = %v; want %v", got, is)
		}
		return api.OK
	})
	return is
}

// keep is a whole cycle, behind which only these, and none but these, are
// there; the large ones aren't swept.
func (p *pile) keep(ats ...int) {
	p.t.Helper()
	if e := p.begin(); e != api.OK {
		p.t.Fatalf("Begin(): %d", e)
	}
	for _, at := range ats {
		p.shade(at)
	}
	for at, ok := p.next(); ok; at, ok = p.next() {
		p.done(at)
	}
	if e := p.end(); e != api.OK {
		p.t.Fatalf("End(): %d", e)
	}
}

// is asks for rows that are written out, of one ring.
func (p *pile) is(ring int, white, from, grey, black []int) {
	p.t.Helper()
	want := rows{white, from, grey, black}
	for colour := range want {
		if !slices.Equal(p.rings[ring][colour], want[colour]) {
			p.t.Fatalf("the test's own ring %d is %v; want %v", ring, p.rings[ring], want)
		}
	}
	p.check()
}
