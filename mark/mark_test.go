package mark_test

import (
	"math"
	"slices"
	"testing"

	"treadwheel/api"
	"treadwheel/heap"
	"treadwheel/mark"
)

const mostUses = 40

// world is a heap, and a marker of it.
type world struct {
	t *testing.T
	h *heap.Heap
	m *mark.Marker
}

func made(t *testing.T, words, large int, classes ...int) *world {
	t.Helper()
	h, e := heap.New(api.Config{Words: words, Large: large, Classes: classes})
	if e != api.OK {
		t.Fatalf("New of %d, %d, %v: %d", words, large, classes, e)
	}
	return &world{t, h, mark.New(h)}
}

// object is a new one of a kind, with these words.
func (w *world) object(kind int, words ...int) int {
	w.t.Helper()
	at, e := w.h.Alloc(kind, 0, len(words))
	if e != api.OK {
		w.t.Fatalf("Alloc(%d, 0, %d): %d", kind, len(words), e)
	}
	for k, word := range words {
		w.set(at, k, int64(word))
	}
	return at
}

func (w *world) set(at, k int, word int64) {
	w.t.Helper()
	if e := w.h.Set(at, k, word); e != api.OK {
		w.t.Fatalf("Set(%d, %d, %d): %d", at, k, word, e)
	}
}

func (w *world) become(at, kind int) {
	w.t.Helper()
	if e := w.h.Become(at, kind, 0); e != api.OK {
		w.t.Fatalf("Become(%d, %d, 0): %d", at, kind, e)
	}
}

func (w *world) begin() {
	w.t.Helper()
	if e := w.h.Begin(); e != api.OK {
		w.t.Fatalf("Begin(): %d", e)
	}
}

func (w *world) end() {
	w.t.Helper()
	if e := w.h.End(); e != api.OK {
		w.t.Fatalf("End(): %d", e)
	}
}

func (w *world) shade(at int64, want api.Errno) {
	w.t.Helper()
	if e := w.m.Shade(at); e != want {
		w.t.Fatalf("Shade(%d) = %d; want %d", at, e, want)
	}
}

func (w *world) links(at int64, want api.Errno) {
	w.t.Helper()
	if e := w.m.Links(at); e != want {
		w.t.Fatalf("Links(%d) = %d; want %d", at, e, want)
	}
}

// work is one Work, and what is to be told behind it.
func (w *world) work(units, want int, done bool, at, k int) {
	w.t.Helper()
	if n := w.m.Work(units); n != want {
		w.t.Fatalf("Work(%d) = %d; want %d", units, n, want)
	}
	w.stands(done, at, k)
}

// stands asks Done and Scan.
func (w *world) stands(done bool, at, k int) {
	w.t.Helper()
	if is := w.m.Done(); is != done {
		w.t.Fatalf("Done() = %v; want %v", is, done)
	}
	if a, n := w.m.Scan(); a != at || n != k {
		w.t.Fatalf("Scan() = %d, %d; want %d, %d", a, n, at, k)
	}
}

// marked asks which of these objects are marked, in their order.
func (w *world) marked(of []int, want ...int) {
	w.t.Helper()
	var are []int
	for _, at := range of {
		if c, _ := w.h.Cell(at); c.Mark == w.h.Parity() {
			are = append(are, at)
		}
	}
	if !slices.Equal(are, want) {
		w.t.Fatalf("of %v are marked %v; want %v", of, are, want)
	}
}

// grey asks for the objects that are Grey, ring by ring.
func (w *world) grey(want ...int) {
	w.t.Helper()
	var are []int
	for _, s := range append(w.h.Rings(), w.h.Large()) {
		are = append(are, s.Grey...)
	}
	if !slices.Equal(are, want) {
		w.t.Fatalf("Grey are %v; want %v", are, want)
	}
}

func TestP161Example(t *testing.T) {
	w := made(t, 60, 0, 2)
	a := w.object(api.Int, 7)
	b := w.object(api.Con, a)
	w.begin()
	w.shade(int64(b), api.OK)
	w.work(9, 3, true, 0, 0)
	w.marked([]int{a, b}, a, b)
}

func TestP161New(t *testing.T) {
	w := made(t, 60, 20, 2)
	w.stands(true, 0, 0)
	w.work(9, 0, true, 0, 0)
	a := w.object(api.Con, 0, 0)
	w.stands(true, 0, 0)
	w.begin()
	w.stands(true, 0, 0)
	w.work(9, 0, true, 0, 0)
	w.marked([]int{a})
	// What another marker has taken this one hasn't.
	w.shade(int64(a), api.OK)
	w.work(1, 1, false, a, 0)
	other := &world{t, w.h, mark.New(w.h)}
	other.stands(true, 0, 0)
	other.work(9, 0, true, 0, 0)
	w.work(9, 2, true, 0, 0)
}

func TestP161Shade(t *testing.T) {
	w := made(t, 100, 40, 2)
	a := w.object(api.Con, 0, 0)
	b := w.object(api.Con, a)
	c := w.object(api.Int, 9, 9, 9, 9)
	all := []int{a, b, c}
	w.shade(int64(a), api.OK) // it is marked, as it was made so
	w.grey()
	w.begin()
	w.shade(0, api.OK)
	w.grey()
	w.marked(all)
	w.shade(int64(b), api.OK)
	w.grey(b)
	w.shade(int64(b), api.OK) // once is enough
	w.grey(b)
	w.stands(false, 0, 0) // it is Grey, but not taken
	w.marked(all, b)
	w.shade(int64(c), api.OK)
	w.shade(0, api.OK)
	w.grey(b, c)
	w.marked(all, b, c)
	d := w.object(api.Con, a)
	w.shade(int64(d), api.OK)
	w.grey(b, c)
}

// What heap.Shade says is wrong Shade says too, and nothing is another.
func TestP161ShadeErrors(t *testing.T) {
	w := made(t, 100, 40, 2)
	b := w.object(api.Con, 0, 0)
	a := w.object(api.Int, 12, -1)
	w.begin()
	lay := w.h.Words()
	for _, at := range []int64{-1, -2, 100, 101, 65536, 1 << 32, 1<<62 + 1, math.MinInt64, math.MaxInt64} {
		w.shade(at, api.ErrRange)
	}
	w.shade(int64(a)+3, api.ErrForm) // the words 12 and -1 are none's
	w.shade(int64(a)+4, api.ErrForm)
	if !slices.Equal(w.h.Words(), lay) {
		t.Errorf("a Shade that is refused changed the heap")
	}
	w.marked([]int{a, b})
	w.stands(true, 0, 0)
	w.end()
	if e := w.m.Shade(int64(a)); e != api.ErrColour { // nothing is From any more
		t.Errorf("Shade(%d) = %d; want ErrColour", a, e)
	}
}

// linksOf is which of five words are links, by the chapter's words of layer 4.
func linksOf(kind int) []int {
	switch kind {
	case api.Con, api.Thunk, api.Fun, api.Pap:
		return []int{0, 1, 2, 3, 4}
	case api.Ind:
		return []int{0}
	case api.Weak:
		return []int{1, 2, 3}
	case api.Tomb:
		return []int{2, 3}
	}
	return nil
}

// fan is an object of a kind, the last one, whose five words lead to others.
func fan(t *testing.T, kind int) (w *world, at int, others []int) {
	t.Helper()
	w = made(t, 200, 60, 1, 3)
	for range 5 {
		others = append(others, w.object(api.Int, 7))
	}
	return w, w.object(kind, others...), others
}

// chosen is these places' objects.
func chosen(of, places []int) []int {
	var list []int
	for _, k := range places {
		list = append(list, of[k])
	}
	return list
}

func TestP161LinksOfKinds(t *testing.T) {
	for kind := api.Free; kind <= api.Tomb; kind++ {
		w, at, others := fan(t, kind)
		w.begin()
		w.links(int64(at), api.OK)
		want := chosen(others, linksOf(kind))
		w.marked(append(others, at), want...)
		w.grey(want...) // in the order in which they were shaded
		w.links(int64(at), api.OK)
		w.grey(want...)
		w.stands(len(want) == 0, 0, 0)
	}
}

func TestP161Links(t *testing.T) {
	w := made(t, 200, 60, 1, 3)
	a := w.object(api.Int, 1)
	b := w.object(api.Con, a)
	c := w.object(api.Con, b, 0, b)
	d := w.object(api.Con)
	e := w.object(api.Con, 0, 0, 0, 0, 0, a, 0)
	w.set(e, 6, int64(e))
	all := []int{a, b, c, d, e}
	w.begin()
	w.links(0, api.OK) // the word there is 0, which has no links
	w.links(int64(d), api.OK)
	w.marked(all)
	w.links(int64(c), api.OK)
	w.marked(all, b) // neither c nor what b leads to
	w.links(int64(e), api.OK)
	w.marked(all, a, b, e)
	w.grey(b, a, e)
	f := w.object(api.Thunk, c)
	w.links(int64(f), api.OK) // of a marked one too
	w.marked(all, a, b, c, e)
	w.stands(false, 0, 0)
}

// All links that can be shaded are, and the first error is told.
func TestP161LinksErrors(t *testing.T) {
	w := made(t, 200, 60, 4)
	a, b := w.object(api.Int, 7), w.object(api.Int, 7)
	junk := w.object(api.Int, -1)
	c := w.object(api.Con, junk+3, a, 200, b)
	d := w.object(api.Con, 0, -1, junk+3)
	all := []int{a, b, junk, c, d}
	w.begin()
	for _, at := range []int64{-1, 200, 1 << 40, math.MinInt64, math.MaxInt64} {
		w.links(at, api.ErrRange)
	}
	w.links(int64(junk)+3, api.ErrForm)
	w.marked(all)
	w.links(int64(c), api.ErrForm)
	w.marked(all, a, b)
	w.links(int64(d), api.ErrRange)
	w.grey(a, b)

	// A word that is a Con's of one word, which would lie outside.
	w = made(t, 20, 5, 1)
	e := w.object(api.Int, 0, 1+32)
	w.begin()
	w.links(int64(e)+4, api.ErrRange)
}

// Each unit of an object of each kind: it is taken, then its links are looked at.
func TestP161WorkOfKinds(t *testing.T) {
	for kind := api.Free; kind <= api.Tomb; kind++ {
		w, at, others := fan(t, kind)
		all := append(others, at)
		w.begin()
		w.shade(int64(at), api.OK)
		w.stands(false, 0, 0)
		var seen []int
		for n, k := range append([]int{-1}, linksOf(kind)...) {
			if k >= 0 {
				seen = append(seen, others[k])
			}
			next := append(linksOf(kind), -1)[n]
			if next < 0 {
				w.work(1, 1, len(seen) == 0, 0, 0)
			} else {
				w.work(1, 1, false, at, next)
			}
			w.marked(all, append(seen, at)...)
			w.grey(seen...)
		}
		w.work(99, len(seen), true, 0, 0)
		w.grey()
	}
}

// What is taken goes on ahead of all that is Grey; then the first ring's last
// Grey one is next.
func TestP161WorkOrder(t *testing.T) {
	w := made(t, 200, 60, 1, 3)
	a, b := w.object(api.Con, 0), w.object(api.Con, 0)
	c := w.object(api.Con, a, 0, b)
	d := w.object(api.Con, 0, c)
	e := w.object(api.Con, 0, 0, d, 0)
	w.begin()
	w.shade(int64(e), api.OK)
	w.shade(int64(c), api.OK)
	for _, x := range []struct{ at, k int }{
		{c, 0}, {c, 1}, {c, 2}, {0, 0}, {b, 0}, {0, 0}, {a, 0}, {0, 0},
		{e, 0}, {e, 1}, {e, 2}, {e, 3}, {0, 0}, {d, 0}, {d, 1},
	} {
		w.work(1, 1, false, x.at, x.k)
	}
	w.work(1, 1, true, 0, 0)
	w.work(1, 0, true, 0, 0)
}

func TestP161WorkUnits(t *testing.T) {
	w := made(t, 200, 60, 3)
	a := w.object(api.Con, 0, 0, 0)
	b := w.object(api.Con, a, 0)
	w.begin()
	w.shade(int64(b), api.OK)
	for _, units := range []int{0, -1, -9, math.MinInt} {
		w.work(units, 0, false, 0, 0)
	}
	w.work(1, 1, false, b, 0)
	for _, units := range []int{0, -1, math.MinInt} {
		w.work(units, 0, false, b, 0)
	}
	w.work(2, 2, false, 0, 0)
	w.work(0, 0, false, 0, 0)
	w.work(math.MaxInt, 4, true, 0, 0)
	w.work(math.MaxInt, 0, true, 0, 0)
}

// A link that leads nowhere is a unit, and so is one that can't be shaded.
func TestP161WorkBadLinks(t *testing.T) {
	w := made(t, 200, 60, 5)
	a := w.object(api.Int, -1)
	b := w.object(api.Con, -7, a+3, 200, 0, a)
	w.begin()
	w.shade(int64(b), api.OK)
	w.work(5, 5, false, b, 4)
	w.work(9, 2, true, 0, 0)
	w.marked([]int{a, b}, a, b)
}

// Links are such as they are when they are looked at.
func TestP161Become(t *testing.T) {
	for _, x := range []struct {
		of, units, to int
		looked        []int // the links that are, in all
	}{
		{api.Con, 1, api.Int, nil},
		{api.Con, 1, api.Tomb, []int{2, 3}},
		{api.Con, 2, api.Ind, []int{0}},
		{api.Con, 2, api.Weak, []int{0, 1, 2, 3}},
		{api.Con, 4, api.Tomb, []int{0, 1, 2, 3}},
		{api.Thunk, 3, api.Hole, []int{0, 1}},
		{api.Weak, 2, api.Tomb, []int{1, 2, 3}},
		{api.Tomb, 2, api.Con, []int{2, 3, 4}},
		{api.Hole, 1, api.Ind, []int{0}},
		{api.Int, 1, api.Weak, []int{1, 2, 3}},
		{api.Fun, 6, api.Int, []int{0, 1, 2, 3, 4}},
	} {
		w, at, others := fan(t, x.of)
		w.begin()
		w.shade(int64(at), api.OK)
		w.m.Work(x.units)
		w.become(at, x.to)
		if x.units == 1 && x.looked == nil {
			w.stands(true, 0, 0)
		}
		if n := len(x.looked); x.units-1 < n {
			w.stands(false, at, x.looked[x.units-1])
		}
		w.work(99, 1+2*len(x.looked)-x.units, true, 0, 0)
		w.marked(others, chosen(others, x.looked)...)
	}
}

// An object that became one without links, and another one again, goes on.
func TestP161BecomeAndBack(t *testing.T) {
	w, at, others := fan(t, api.Con)
	w.begin()
	w.shade(int64(at), api.OK)
	w.m.Work(6)
	w.become(at, api.Con) // all of it was looked at
	w.work(0, 0, false, 0, 0)
	w.m.Work(99)
	w.end()

	w.begin()
	w.shade(int64(at), api.OK)
	w.work(3, 3, false, at, 2)
	w.become(at, api.Int)
	w.stands(false, 0, 0)
	w.become(at, api.Con)
	w.stands(false, at, 2)
	w.work(1, 1, false, at, 3)
	w.become(at, api.Int)
	w.work(1, 1, false, 0, 0) // one of the others is taken, and its scan is over
	w.become(at, api.Con)
	w.work(99, 2, true, 0, 0)
	w.marked(others, others[:3]...)
}

// An object whose word can't be read has no links more.
func TestP161Unreadable(t *testing.T) {
	w, at, others := fan(t, api.Con)
	w.begin()
	w.shade(int64(at), api.OK)
	w.work(3, 3, false, at, 2)
	w.h.Store(at, -1)
	w.stands(false, 0, 0)
	w.work(99, 2, true, 0, 0)
	w.marked(others, others[:2]...)

	w, at, others = fan(t, api.Con)
	word, _ := w.h.Load(at)
	w.begin()
	w.shade(int64(at), api.OK)
	w.h.Store(at, -1)
	w.m.Work(math.MaxInt) // it ends
	w.h.Store(at, word|16)
	w.m.Work(99)
	w.stands(true, 0, 0)
	w.marked(others, others...)
}

// A cycle that is over leaves nothing taken, whatever becomes of the object.
func TestP162NextCycle(t *testing.T) {
	w := made(t, 60, 0, 2)
	a := w.object(api.Int, 7)
	b := w.object(api.Thunk, 0)
	all := []int{a, b}
	w.begin()
	w.shade(int64(a), api.OK)
	w.m.Work(99)
	w.shade(int64(b), api.OK)
	w.work(1, 1, false, b, 0)
	w.become(b, api.Hole)
	w.stands(true, 0, 0)
	w.end()
	w.set(b, 0, int64(a))
	w.become(b, api.Ind)

	w.begin()
	w.stands(true, 0, 0)
	w.work(9, 0, true, 0, 0)
	w.marked(all)
	w.shade(int64(b), api.OK)
	w.work(9, 3, true, 0, 0)
	w.marked(all, a, b)
}

// Of a cycle that is broken off nothing goes on in the next one, be what was
// taken reached anew or not.
func TestP162BrokenOff(t *testing.T) {
	for again := range 2 {
		w := made(t, 60, 0, 2)
		a, b := w.object(api.Int, 7), w.object(api.Int, 8)
		c := w.object(api.Con, a, b)
		all := []int{a, b, c}
		w.begin()
		w.shade(int64(a), api.OK)
		w.shade(int64(b), api.OK)
		w.m.Work(99)
		w.shade(int64(c), api.OK)
		w.work(2, 2, false, c, 1)
		w.end()
		w.begin()
		if again == 1 {
			w.shade(int64(c), api.OK)
			w.stands(false, 0, 0)
			w.work(99, 5, true, 0, 0)
			w.marked(all, a, b, c)
			continue
		}
		w.stands(true, 0, 0)
		w.work(99, 0, true, 0, 0)
		w.shade(int64(a), api.OK)
		w.work(99, 1, true, 0, 0)
		w.marked(all, a)
	}
}

// What is made meanwhile is marked as it is made, and never taken.
func TestP162Meanwhile(t *testing.T) {
	w := made(t, 100, 0, 2)
	a := w.object(api.Con, 0, 0)
	b := w.object(api.Con, a, 0)
	c := w.object(api.Con, b, 0)
	w.begin()
	d := w.object(api.Con, a, a)
	w.shade(int64(c), api.OK)
	w.work(2, 2, false, c, 1)
	e := w.object(api.Con, d, d)
	w.shade(int64(e), api.OK)
	w.work(9, 7, true, 0, 0)
	f := w.object(api.Con, 0, 0)
	w.work(9, 0, true, 0, 0)
	w.marked([]int{a, b, c, d, e, f}, a, b, c, d, e, f)
}

// As long a row as fits, and as small pieces.
func TestP162Long(t *testing.T) {
	w := made(t, api.MaxWords, 0, 2)
	last, count := 0, 0
	for {
		at, e := w.h.Alloc(api.Con, 0, 2)
		if e != api.OK {
			break
		}
		w.set(at, 1, int64(last))
		last, count = at, count+1
	}
	for _, piece := range []int{1, 2, 1000, math.MaxInt} {
		w.begin()
		w.shade(int64(last), api.OK)
		units := 0
		for !w.m.Done() {
			units += w.m.Work(piece)
		}
		if units != 3*count {
			t.Fatalf("in pieces of %d there are %d units; want %d", piece, units, 3*count)
		}
		if n := len(w.h.Rings()[0].Black); n != count {
			t.Fatalf("in pieces of %d %d of %d objects are marked", piece, n, count)
		}
		w.end()
	}
}
