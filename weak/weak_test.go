package weak_test

import (
	"math"
	"slices"
	"testing"

	"treadwheel/api"
	"treadwheel/heap"
	"treadwheel/weak"
)

const mostUses = 80

// world is a heap, a table over it, and the addresses that shade was called with.
type world struct {
	t      *testing.T
	h      *heap.Heap
	w      *weak.Table
	shaded []int64
}

func made(t *testing.T, words int) *world {
	t.Helper()
	h, e := heap.New(api.Config{Words: words, Large: words / 4, Classes: []int{1, 3, 6}})
	if e != api.OK {
		t.Fatalf("New of %d words: %d", words, e)
	}
	x := &world{t: t, h: h}
	x.w = weak.New(h, func(at int64) { x.shaded = append(x.shaded, at) })
	return x
}

// object is a new one, with these words.
func (x *world) object(kind, aux int, words ...int) int {
	x.t.Helper()
	at, e := x.h.Alloc(kind, aux, len(words))
	if e != api.OK {
		x.t.Fatalf("Alloc(%d, %d, %d): %d", kind, aux, len(words), e)
	}
	for k, word := range words {
		x.set(at, k, word)
	}
	return at
}

func (x *world) set(at, k, word int) {
	x.t.Helper()
	if e := x.h.Set(at, k, int64(word)); e != api.OK {
		x.t.Fatalf("Set(%d, %d, %d): %d", at, k, word, e)
	}
}

func (x *world) key() int { return x.object(api.Int, 0, 7) }

// add is an Add, and what it answers; with an error nothing is another.
func (x *world) add(at int, want api.Errno) {
	x.t.Helper()
	lay, row, queue := x.h.Words(), x.w.Row(), x.w.Queue()
	if e := x.w.Add(at); e != want {
		x.t.Fatalf("Add(%d) = %d; want %d", at, e, want)
	}
	if want == api.OK {
		return
	}
	if !slices.Equal(x.h.Words(), lay) {
		x.t.Fatalf("Add(%d) is refused, but the heap is another", at)
	}
	x.rows(row, queue)
}

// pointer is a weak pointer more, of a key; its value and its finaliser are
// numbers that tell them from all else.
func (x *world) pointer(number, key int) int {
	x.t.Helper()
	at := x.object(api.Weak, number, key, 1000+number, 2000+number, 0)
	x.add(at, api.OK)
	return at
}

// pointers are some of them, numbered from 10 on, each with a key of its own.
func (x *world) pointers(n int) (ats, keys []int) {
	x.t.Helper()
	for i := range n {
		keys = append(keys, x.key())
		ats = append(ats, x.pointer(10+i, keys[i]))
	}
	return ats, keys
}

// begin is a cycle's beginning, in which these, and none but these, are marked.
func (x *world) begin(marked ...int) {
	x.t.Helper()
	if e := x.h.Begin(); e != api.OK {
		x.t.Fatalf("Begin(): %d", e)
	}
	for _, at := range marked {
		if _, e := x.h.Shade(at); e != api.OK {
			x.t.Fatalf("Shade(%d): %d", at, e)
		}
	}
}

// rows asks for all that the row and the queue are to be.
func (x *world) rows(row, queue []int) {
	x.t.Helper()
	if got := x.w.Row(); !slices.Equal(got, row) {
		x.t.Fatalf("Row() = %v; want %v", got, row)
	}
	if got := x.w.Queue(); !slices.Equal(got, queue) {
		x.t.Fatalf("Queue() = %v; want %v", got, queue)
	}
	roots := []int64{0, 0}
	for i, list := range [][]int{row, queue} {
		if len(list) > 0 {
			roots[i] = int64(list[0])
		}
		x.linked(list)
	}
	if got := x.w.Roots(); !slices.Equal(got, roots) {
		x.t.Fatalf("Roots() = %v; want %v", got, roots)
	}
}

// linked asks that fourth words lead along a list, and nowhere behind it.
func (x *world) linked(list []int) {
	x.t.Helper()
	for i, at := range list {
		if next := append(slices.Clone(list), 0)[i+1]; x.get(at, 3) != next {
			x.t.Fatalf("of %v behind %d stands %d; want %d", list, at, x.get(at, 3), next)
		}
	}
}

func (x *world) get(at, k int) int {
	x.t.Helper()
	word, e := x.h.Get(at, k)
	if e != api.OK {
		x.t.Fatalf("Get(%d, %d): %d", at, k, e)
	}
	return int(word)
}

// is asks for an object's kind, number and words.
func (x *world) is(at, kind, number int, words ...int) {
	x.t.Helper()
	c, e := x.h.Cell(at)
	if e != api.OK || c.Kind != kind || c.Aux != number || c.Size != len(words) {
		x.t.Fatalf("Cell(%d) = %+v, %d; want a %d, %d, of %d words", at, c, e, kind, number, len(words))
	}
	for k, word := range words {
		if got := x.get(at, k); got != word {
			x.t.Fatalf("word %d of %d is %d; want %v", k, at, got, words)
		}
	}
}

func (x *world) step(number int, buried, more bool) {
	x.t.Helper()
	if n, b, m := x.w.Step(); n != number || b != buried || m != more {
		x.t.Fatalf("Step() = %d, %v, %v; want %d, %v, %v", n, b, m, number, buried, more)
	}
}

// over asks that there is nothing left of a walk.
func (x *world) over() {
	x.t.Helper()
	x.step(0, false, false)
	x.step(0, false, false)
}

func (x *world) take(at, number int, final int64) {
	x.t.Helper()
	if a, n, f, ok := x.w.Take(); a != at || n != number || f != final || !ok {
		x.t.Fatalf("Take() = %d, %d, %d, %v; want %d, %d, %d", a, n, f, ok, at, number, final)
	}
}

// none asks that there is none to take.
func (x *world) none() {
	x.t.Helper()
	if a, n, f, ok := x.w.Take(); a != 0 || n != 0 || f != 0 || ok {
		x.t.Fatalf("Take() = %d, %d, %d, %v; want none", a, n, f, ok)
	}
}

func (x *world) calls(want ...int64) {
	x.t.Helper()
	if !slices.Equal(x.shaded, want) {
		x.t.Fatalf("shade was called with %v; want %v", x.shaded, want)
	}
}

// The chapter's example.
func TestP17Example(t *testing.T) {
	x := made(t, 400)
	ats, keys := x.pointers(2)
	x.begin(keys[1])
	x.w.Begin()
	x.step(11, false, true)
	x.step(10, true, true)
	x.over()
	x.rows(ats[1:], ats[:1])
	x.take(ats[0], 10, 2010)
	x.none()
	x.rows(ats[1:], nil)
}

func TestP171New(t *testing.T) {
	x := made(t, 400)
	x.pointers(3)
	x.w = weak.New(x.h, func(int64) { t.Error("shade was called") })
	x.rows(nil, nil)
	x.over()
	x.none()
	x.w.Begin()
	x.over()
	x.rows(nil, nil)
}

// Two tables of a heap have rows of their own.
func TestP171Apart(t *testing.T) {
	x, y := made(t, 400), made(t, 400)
	y.h = x.h
	y.w = weak.New(x.h, func(at int64) { y.shaded = append(y.shaded, at) })
	a, _ := x.pointers(2)
	b, _ := y.pointers(2)
	x.rows([]int{a[1], a[0]}, nil)
	y.rows([]int{b[1], b[0]}, nil)
	x.begin()
	x.w.Begin()
	x.step(11, true, true)
	y.over()
	y.rows([]int{b[1], b[0]}, nil)
	x.take(a[1], 11, 2011)
	x.calls(2011, 0)
	y.calls()
	y.none()
}

// The last one that was added is the first; of its words only the fourth is set,
// whatever stood there.
func TestP171Add(t *testing.T) {
	x := made(t, 400)
	var row []int
	for n, word := range []int{0, 5, -1, math.MaxInt, math.MinInt} {
		at := x.object(api.Weak, 70+n, 31, 32, 33, word)
		x.add(at, api.OK)
		next := append(slices.Clone(row), 0)[0]
		row = slices.Insert(row, 0, at)
		x.rows(row, nil)
		x.is(at, api.Weak, 70+n, 31, 32, 33, next)
	}
	x.calls()
}

// Numbers are what they are: none, the largest one, one that is there twice.
func TestP171Numbers(t *testing.T) {
	x := made(t, 400)
	var ats []int
	for _, number := range []int{0, 16777215, 0, 3} {
		ats = append(ats, x.object(api.Weak, number, 0, 0, 0, 0))
		x.add(ats[len(ats)-1], api.OK)
	}
	x.begin()
	x.w.Begin()
	x.step(3, true, true)
	x.step(0, true, true)
	x.step(16777215, true, true)
	x.step(0, true, true)
	x.over()
	for i, number := range []int{3, 0, 16777215, 0} {
		x.take(ats[3-i], number, 0)
	}
	x.none()
}

// No kind but Weak, and no size but four.
func TestP171AddKinds(t *testing.T) {
	x := made(t, 40000)
	ats, _ := x.pointers(2)
	row := reversed(ats)
	for kind := api.Free; kind <= api.Tomb; kind++ {
		for size := range 32 {
			at := x.object(kind, 9, make([]int, size)...)
			if kind == api.Weak && size == 4 {
				x.add(at, api.OK)
				row = slices.Insert(row, 0, at)
			} else {
				x.add(at, api.ErrKind)
			}
		}
	}
	x.rows(row, nil)
}

// What heap.Cell says is wrong Add says too.
func TestP171AddPlaces(t *testing.T) {
	x := made(t, 400)
	x.pointers(2)
	x.add(0, api.ErrKind) // nobody's word, which says Free
	for _, at := range []int{-1, -2, 400, 401, 65536, 1 << 32, math.MinInt, math.MaxInt} {
		x.add(at, api.ErrRange)
	}
	at := x.object(api.Int, 0, -1, 11, 12)
	for k := range 3 {
		x.add(at+api.Head+k, api.ErrForm)
	}
	x.begin()
	x.w.Begin()
	x.step(11, true, true)
	x.step(10, true, true)
	x.over()
}

// Neither what was buried nor what was taken is a weak pointer any more.
func TestP171AddTomb(t *testing.T) {
	x := made(t, 400)
	ats, _ := x.pointers(2)
	x.begin()
	x.w.Begin()
	x.step(11, true, true)
	x.add(ats[1], api.ErrKind)
	x.take(ats[1], 11, 2011)
	x.add(ats[1], api.ErrKind)
	x.rows(ats[:1], nil)
}

// One that is in the row already is its first from then on, and no other one is
// lost, wherever it stood.
func TestP171AddTwice(t *testing.T) {
	for n := 1; n <= 4; n++ {
		for i := range n {
			x := made(t, 400)
			ats, _ := x.pointers(n)
			row := slices.Clone(ats)
			slices.Reverse(row)
			for range 2 {
				x.add(ats[i], api.OK)
				row = slices.DeleteFunc(row, func(at int) bool { return at == ats[i] })
				row = slices.Insert(row, 0, ats[i])
				x.rows(row, nil)
			}
			x.calls()
			x.begin()
			x.w.Begin()
			for _, at := range row {
				x.step(10+slices.Index(ats, at), true, true)
			}
			x.over()
			x.rows(nil, row)
		}
	}
}

// One that is added anew meanwhile is added meanwhile: the walk goes on with the
// others.
func TestP171AddTwiceMeanwhile(t *testing.T) {
	for i := range 4 {
		for steps := range 5 {
			x := made(t, 400)
			ats, _ := x.pointers(4)
			row := []int{ats[3], ats[2], ats[1], ats[0]}
			x.begin()
			x.w.Begin()
			for n := range steps {
				x.step(13-n, true, true)
			}
			if 3-i < steps { // it is a tomb
				x.add(ats[i], api.ErrKind)
			} else {
				x.add(ats[i], api.OK)
				row = slices.Delete(row, 3-i, 4-i)
			}
			for _, at := range row[steps:] {
				x.step(10+slices.Index(ats, at), true, true)
			}
			x.over()
			if 3-i < steps {
				x.rows(nil, row)
			} else {
				x.rows(ats[i:i+1], row)
			}
		}
	}
}

// Without a function that is called nothing is called.
func TestP171NoShade(t *testing.T) {
	x := made(t, 400)
	x.w = weak.New(x.h, nil)
	ats, _ := x.pointers(2)
	x.begin()
	x.w.Begin()
	x.step(11, true, true)
	x.step(10, true, true)
	x.take(ats[1], 11, 2011)
	x.take(ats[0], 10, 2010)
	x.none()
}

// Shade is called ahead of the words' being set, by Take alone: of the third
// word, then of the fourth one.
func TestP171Shade(t *testing.T) {
	x := made(t, 400)
	ats, _ := x.pointers(3)
	var at int // what is to be taken
	x.w = weak.New(x.h, func(word int64) {
		if got := []int{x.get(at, 2), x.get(at, 3)}; got[len(x.shaded)%2] != int(word) {
			t.Errorf("shade(%d), but the words are %v", word, got)
		}
		x.shaded = append(x.shaded, word)
	})
	for _, at := range ats {
		x.add(at, api.OK)
	}
	x.set(ats[1], 2, 0) // a finaliser that leads nowhere
	x.begin()
	x.w.Begin()
	for range 4 {
		x.w.Step()
	}
	x.w.Row()
	x.w.Queue()
	x.w.Roots()
	x.calls()
	at = ats[2]
	x.take(at, 12, 2012)
	x.calls(2012, int64(ats[1]))
	at = ats[1]
	x.take(at, 11, 0)
	x.calls(2012, int64(ats[1]), 0, int64(ats[0]))
	at = ats[0]
	x.take(at, 10, 2010)
	x.calls(2012, int64(ats[1]), 0, int64(ats[0]), 2010, 0)
	x.none()
	x.none()
	x.calls(2012, int64(ats[1]), 0, int64(ats[0]), 2010, 0)
}

// Ahead of a Begin there is no walk, whatever was added.
func TestP172NoWalk(t *testing.T) {
	x := made(t, 400)
	x.over()
	ats, _ := x.pointers(2)
	x.over()
	x.begin()
	x.over()
	x.rows([]int{ats[1], ats[0]}, nil)
}

// Whatever keys of a row are marked, those of the others are buried, in the
// order of the row, and the rest stays in its own.
func TestP172Walk(t *testing.T) {
	const n = 6
	for set := range 1 << n {
		x := made(t, 400)
		ats, keys := x.pointers(n)
		var marked, row, queue []int
		for i := range n {
			if set>>i&1 == 1 {
				marked = append(marked, keys[i])
			}
		}
		x.begin(marked...)
		x.w.Begin()
		for i := n - 1; i >= 0; i-- {
			is := set>>i&1 == 1
			if is {
				row = append(row, ats[i])
			} else {
				queue = append(queue, ats[i])
			}
			x.step(10+i, !is, true)
			x.rows(slices.Concat(row, reversed(ats[:i])), queue)
		}
		x.over()
		x.rows(row, queue)
		x.calls()
	}
}

func reversed(of []int) []int {
	list := slices.Clone(of)
	slices.Reverse(list)
	return list
}

// What is buried is Tomb, of the same number and mark; its finaliser stays.
func TestP172Tomb(t *testing.T) {
	for mark := range 2 {
		x := made(t, 400)
		ats, keys := x.pointers(3)
		x.begin()
		if mark == 1 {
			x.h.Shade(ats[1])
		}
		before, _ := x.h.Cell(ats[1])
		rings := x.h.Rings()
		x.w.Begin()
		x.step(12, true, true)
		x.is(ats[1], api.Weak, 11, keys[1], 1011, 2011, ats[0])
		x.step(11, true, true)
		x.is(ats[2], api.Tomb, 12, 0, 0, 2012, ats[1])
		x.is(ats[1], api.Tomb, 11, 0, 0, 2011, 0)
		x.is(ats[0], api.Weak, 10, keys[0], 1010, 2010, 0)
		after, _ := x.h.Cell(ats[1])
		if before.Mark != after.Mark || before.Mark != mark {
			t.Errorf("its mark was %d, and is %d; want %d", before.Mark, after.Mark, mark)
		}
		for i, s := range x.h.Rings() {
			if !slices.Equal(s.From, rings[i].From) || !slices.Equal(s.Grey, rings[i].Grey) || !slices.Equal(s.Black, rings[i].Black) {
				t.Errorf("ring %d is %+v; want %+v", i, s, rings[i])
			}
		}
	}
}

// A key is marked by the parity, be that 0 or 1, and whatever colour it has.
func TestP172Parities(t *testing.T) {
	x := made(t, 400)
	ats, keys := x.pointers(4)
	x.w.Begin() // nothing was turned yet, so all are marked
	for i := range 4 {
		x.step(13-i, false, true)
	}
	x.over()
	for cycle, gone := range []int{2, 0, 3} {
		live := slices.DeleteFunc(slices.Clone(keys), func(at int) bool { return at == keys[gone] })
		x.begin(append(live, ats...)...)
		if cycle == 1 { // one of the keys is Black, the others are Grey
			at, _ := x.h.Next()
			x.h.Done(at)
		}
		if x.h.Parity() != 1-cycle%2 {
			t.Fatalf("the test's own parity is %d", x.h.Parity())
		}
		x.w.Begin()
		for {
			n, buried, more := x.w.Step()
			if !more {
				break
			}
			if buried != (n == 10+gone) {
				t.Fatalf("in cycle %d %d: buried is %v", cycle, n, buried)
			}
		}
		x.finish()
		keys[gone] = keys[1]
	}
	x.rows(ats[1:2], []int{ats[2], ats[0], ats[3]})
}

// finish is a cycle's end, of what is Grey as if it had no links.
func (x *world) finish() {
	x.t.Helper()
	for at, ok := x.h.Next(); ok; at, ok = x.h.Next() {
		x.h.Done(at)
	}
	if e := x.h.End(); e != api.OK {
		x.t.Fatalf("End(): %d", e)
	}
}

// The key alone says whether it is buried: neither the weak pointer's own mark,
// nor its value's, nor its finaliser's.
func TestP172KeyAlone(t *testing.T) {
	x := made(t, 400)
	a, b := x.key(), x.key()
	kept := x.object(api.Weak, 1, a, b, b, 0)
	gone := x.object(api.Weak, 2, b, a, a, 0)
	own := x.object(api.Weak, 3, 0, 0, 0, 0)
	x.set(own, 0, own)
	for _, at := range []int{kept, gone, own} {
		x.add(at, api.OK)
	}
	x.begin(a, gone)
	x.w.Begin()
	x.step(3, true, true) // it is its own key
	x.step(2, true, true)
	x.step(1, false, true)
	x.over()
}

// A key that is large, one that is another's, one that several have.
func TestP172Keys(t *testing.T) {
	x := made(t, 800)
	large := x.object(api.Con, 0, make([]int, 20)...)
	one := x.key()
	a := x.pointer(1, large)
	b := x.pointer(2, one)
	c := x.pointer(3, a)
	d := x.pointer(4, one)
	x.begin(large, c)
	x.w.Begin()
	x.step(4, true, true)
	x.step(3, true, true)
	x.step(2, true, true)
	x.step(1, false, true)
	x.over()
	x.rows([]int{a}, []int{d, c, b})
}

// Where there is no object nothing is marked, whatever the parity.
func TestP172NoKey(t *testing.T) {
	for parity := range 2 {
		x := made(t, 400)
		for range parity {
			x.begin()
		}
		junk := x.object(api.Int, 0, -1)
		for i, key := range []int{0, -1, 400, 1 << 40, math.MinInt, math.MaxInt, junk + api.Head} {
			at := x.pointer(20+i, key)
			x.w.Begin()
			x.step(20+i, true, true)
			x.over()
			x.take(at, 20+i, int64(2020+i))
		}
	}
}

// What is added meanwhile isn't looked at, wherever the walk is, and stays ahead
// of all, whatever is buried; the next walk looks at it.
func TestP172Meanwhile(t *testing.T) {
	for steps := range 5 { // behind how many; 4: behind the walk alone
		for set := range 8 {
			x := made(t, 600)
			ats, keys := x.pointers(3)
			var marked, row, queue []int
			for i := range 3 {
				if set>>i&1 == 1 {
					marked = append(marked, keys[i])
					row = slices.Insert(row, 0, ats[i])
				} else {
					queue = slices.Insert(queue, 0, ats[i])
				}
			}
			dead := x.key()
			late := func(numbers ...int) {
				for _, number := range numbers {
					row = slices.Insert(row, 0, x.pointer(number, dead))
				}
			}
			x.begin(marked...)
			x.w.Begin()
			for n := range 3 {
				if n == steps {
					late(30, 31)
				}
				x.step(12-n, set>>(2-n)&1 == 0, true)
			}
			if steps == 3 {
				late(30, 31)
			}
			x.over()
			late(32)
			x.over()
			x.rows(row, queue)
			x.w.Begin()
			x.step(32, true, true)
			x.rows(row[1:], append(queue, row[0]))
		}
	}
}

// A walk begins with the row as it is then, even if there was none.
func TestP172Begin(t *testing.T) {
	x := made(t, 400)
	x.w.Begin()
	ats, keys := x.pointers(3)
	x.over()
	x.begin(keys[0], keys[1], keys[2])
	for steps := range 5 { // one that went on is over
		x.w.Begin()
		for n := range min(3, steps) {
			x.step(12-n, false, true)
		}
	}
	x.w.Begin()
	x.step(12, false, true)
	late := x.pointer(13, x.key())
	x.w.Begin()
	x.step(13, false, true)
	x.step(12, false, true)
	x.w.Begin()
	x.w.Begin()
	x.step(13, false, true)
	x.rows([]int{late, ats[2], ats[1], ats[0]}, nil)
}

// A walk is of the row alone: what is buried isn't looked at anew.
func TestP172Buried(t *testing.T) {
	x := made(t, 400)
	ats, keys := x.pointers(3)
	x.begin(keys[2])
	x.w.Begin()
	x.step(12, false, true)
	x.step(11, true, true)
	x.w.Begin()
	x.step(12, false, true)
	x.step(10, true, true)
	x.over()
	x.w.Begin()
	x.step(12, false, true)
	x.over()
	x.rows(ats[2:], []int{ats[1], ats[0]})
}

// What became another kind by who calls isn't buried, and keeps its words.
func TestP172Become(t *testing.T) {
	x := made(t, 400)
	ats, keys := x.pointers(3)
	x.h.Become(ats[1], api.Con, 5)
	x.begin()
	x.w.Begin()
	x.step(12, true, true)
	x.step(5, false, true)
	x.step(10, true, true)
	x.over()
	x.is(ats[1], api.Con, 5, keys[1], 1011, 2011, 0)
}

func TestP173Take(t *testing.T) {
	x := made(t, 400)
	x.none()
	ats, keys := x.pointers(4)
	x.none()
	x.begin(keys[2])
	x.w.Begin()
	x.step(13, true, true)
	x.rows([]int{ats[2], ats[1], ats[0]}, ats[3:])
	x.take(ats[3], 13, 2013) // while the walk goes on
	x.none()
	x.is(ats[3], api.Tomb, 13, 0, 0, 0, 0)
	x.rows([]int{ats[2], ats[1], ats[0]}, nil)
	x.step(12, false, true)
	x.step(11, true, true)
	x.step(10, true, true)
	x.over()
	x.rows(ats[2:3], []int{ats[1], ats[0]})
	x.take(ats[1], 11, 2011)
	x.is(ats[1], api.Tomb, 11, 0, 0, 0, 0)
	x.is(ats[0], api.Tomb, 10, 0, 0, 2010, 0)
	x.rows(ats[2:3], ats[:1])
	x.take(ats[0], 10, 2010)
	x.is(ats[0], api.Tomb, 10, 0, 0, 0, 0)
	x.is(ats[2], api.Weak, 12, keys[2], 1012, 2012, 0)
	x.none()
	x.rows(ats[2:3], nil)
}

// What is buried behind others, be these taken or not, is behind them.
func TestP173Queue(t *testing.T) {
	x := made(t, 600)
	ats, _ := x.pointers(2)
	x.begin()
	x.w.Begin()
	x.step(11, true, true)
	x.step(10, true, true)
	for _, at := range ats {
		x.h.Shade(at)
	}
	dead := x.key()
	x.finish()
	x.begin(ats...)
	more := []int{x.pointer(20, dead), x.pointer(21, dead)}
	x.w.Begin()
	x.step(21, true, true)
	x.rows(more[:1], []int{ats[1], ats[0], more[1]})
	x.take(ats[1], 11, 2011)
	x.step(20, true, true)
	x.rows(nil, []int{ats[0], more[1], more[0]})
	x.take(ats[0], 10, 2010)
	x.take(more[1], 21, 2021)
	x.take(more[0], 20, 2020)
	x.none()
	x.calls(2011, int64(ats[0]), 2010, int64(more[1]), 2021, int64(more[0]), 2020, 0)
}

// A finaliser is what stands in the third word, whatever that is.
func TestP173Final(t *testing.T) {
	x := made(t, 400)
	for _, final := range []int{0, 1, -1, math.MaxInt, math.MinInt} {
		at := x.pointer(10, 0)
		x.set(at, 2, final)
		x.w.Begin()
		x.step(10, true, true)
		x.take(at, 10, int64(final))
		x.is(at, api.Tomb, 10, 0, 0, 0, 0)
	}
}

// Lists are new memory, each a list of its own.
func TestP173NewMemory(t *testing.T) {
	x := made(t, 400)
	ats, keys := x.pointers(4)
	x.begin(keys[0], keys[1])
	x.w.Begin()
	x.step(13, true, true)
	x.step(12, true, true)
	row, queue, roots := x.w.Row(), x.w.Queue(), x.w.Roots()
	_, _ = append(row, 9), append(queue, 9)
	for _, list := range [][]int{x.w.Row(), x.w.Queue()} {
		clear(list)
		_ = append(list[:0], 5, 5, 5)
	}
	clear(x.w.Roots())
	x.rows([]int{ats[1], ats[0]}, []int{ats[3], ats[2]})
	if !slices.Equal(row, x.w.Row()) || !slices.Equal(queue, x.w.Queue()) || !slices.Equal(roots, x.w.Roots()) {
		t.Errorf("%v, %v, %v are the table's own", row, queue, roots)
	}
}

// The calls that ask change nothing.
func TestP173Asking(t *testing.T) {
	x := made(t, 400)
	_, keys := x.pointers(4)
	x.begin(keys[3])
	x.w.Begin()
	for n := range 5 {
		lay := x.h.Words()
		for range 2 {
			x.w.Row()
			x.w.Queue()
			x.w.Roots()
		}
		if !slices.Equal(x.h.Words(), lay) {
			t.Fatal("the heap is another")
		}
		if n < 4 {
			x.step(13-n, n > 0, true)
		} else {
			x.over()
		}
	}
}

// However many there are, no call but Row and Queue uses more words.
func TestP174Largest(t *testing.T) {
	h, _ := heap.New(api.Config{Words: api.MaxWords, Classes: []int{1, 4}})
	x := &world{t: t, h: h}
	x.w = weak.New(h, func(int64) {})
	key := x.key()
	most := func(name string, f func()) {
		t.Helper()
		uses := h.Uses()
		if f(); h.Uses()-uses > mostUses {
			t.Fatalf("%s used %d words", name, h.Uses()-uses)
		}
	}
	count := 0
	for {
		at, e := h.Alloc(api.Weak, count, 4)
		if e != api.OK {
			break
		}
		if count%3 == 1 {
			h.Set(at, 0, int64(key))
		}
		most("Add", func() { x.add1(at) })
		count++
	}
	if count < 9000 {
		t.Fatalf("only %d weak pointers", count)
	}
	last := x.w.Row()[count-1]
	most("Add of one that is there", func() { x.add1(last) })
	h.Begin()
	h.Shade(key)
	most("Begin", x.w.Begin)
	buried := 0
	for more := true; more; {
		most("Step", func() {
			var is bool
			if _, is, more = x.w.Step(); is {
				buried++
			}
		})
	}
	if n := len(x.w.Row()); n+buried != count || n != (count+1)/3 {
		t.Fatalf("%d of %d are left, %d are buried", n, count, buried)
	}
	most("Roots", func() { x.w.Roots() })
	for ok := true; ok; buried-- {
		most("Take", func() { _, _, _, ok = x.w.Take() })
	}
	if buried != -1 {
		t.Errorf("of those that were buried %d weren't taken", buried+1)
	}
}

func (x *world) add1(at int) {
	if e := x.w.Add(at); e != api.OK {
		x.t.Fatalf("Add(%d) = %d", at, e)
	}
}

// Words that others set, wherever they lead, keep no call from ending.
func TestP174Ends(t *testing.T) {
	for _, word := range []int{-2, -1, 0, 1, 2, 3, 399, 400, 1 << 40, math.MinInt, math.MaxInt} {
		for i := range 4 {
			for _, steps := range []int{0, 2, 4} {
				x := made(t, 400)
				ats, keys := x.pointers(4)
				x.begin(keys[0], keys[2])
				x.w.Begin()
				for range steps {
					x.w.Step()
				}
				if word >= 0 && word < 4 {
					x.set(ats[i], 3, ats[word])
				} else {
					x.set(ats[i], 3, word)
				}
				for range 20 {
					x.w.Step()
					x.w.Take()
					x.w.Add(ats[0])
					for _, list := range [][]int{x.w.Row(), x.w.Queue()} {
						if len(list) > len(ats) || slices.Contains(list, 0) {
							t.Fatalf("of %v there are %v in a row", ats, list)
						}
					}
				}
				x.w.Begin()
				x.w.Roots()
			}
		}
	}
}
