package heap_test

import (
	"math"
	"slices"
	"testing"

	"treadwheel/api"
	"treadwheel/cell"
	"treadwheel/heap"
)

var noKinds = []int{-1, api.Tomb + 1, 12, 15, 16, 17, 1 << 32, 1<<32 + 1, math.MinInt, math.MaxInt}

var noAux = []int{-1, -16777216, 16777216, 16777217, 1 << 32, 1<<32 + 1, 1 << 54, math.MinInt, math.MaxInt}

var noSizes = []int{-1, -2, -32, 32, 33, 64, 1 << 32, 1<<32 + 1, 1<<59 + 1, math.MinInt, math.MaxInt}

var noPlaces = []int{-1, -2, -3, -4, 60, 61, 65535, 65536, 1 << 32, 1<<32 + 1, -1 << 32, math.MinInt, math.MinInt + 1, math.MaxInt - 3, math.MaxInt}

func TestP61New(t *testing.T) {
	for _, c := range []api.Config{
		{Words: 1, Classes: []int{1}},
		{Words: 1, Classes: []int{24}},
		{Words: 2, Large: 1, Classes: []int{1}},
		{Words: 10, Large: 9, Classes: []int{1, 24}},
		{Words: 10, Classes: []int{1, 2, 3, 4, 5, 6}},
		{Words: 10, Classes: []int{19, 20, 21, 22, 23, 24}},
		{Words: 65535, Large: 65534, Classes: []int{4}},
		{Words: 65536, Classes: []int{4}},
		{Words: 65536, Large: 65535, Classes: []int{4}},
		{Words: 10, Stack: -1, Frame: -5, Quota: math.MinInt, Pace: math.MaxInt, Classes: []int{1}}, // no heap's
	} {
		h, e := heap.New(c)
		if h == nil || e != api.OK {
			t.Errorf("New(%+v): %d; want a heap", c, e)
			continue
		}
		if got := h.Words(); len(got) != c.Words || slices.Max(got) != 0 || slices.Min(got) != 0 {
			t.Errorf("New(%+v) has %d words; want as many as it was told, all 0", c, len(got))
		}
		for i, s := range append(h.Rings(), h.Large()) {
			if !sameRows(s, rows{}) {
				t.Errorf("New(%+v): ring %d is %+v; want none of any colour", c, i, s)
			}
		}
		if len(h.Rings()) != len(c.Classes) || h.Parity() != 0 || h.Uses() != 0 {
			t.Errorf("New(%+v): %d rings, parity %d, %d uses", c, len(h.Rings()), h.Parity(), h.Uses())
		}
	}
}

func TestP61NewRange(t *testing.T) {
	one := []int{1}
	wrong := []api.Config{{}, {Words: 10}, {Words: 10, Classes: []int{}}}
	for _, words := range []int{0, -1, 65537, 65538, 1 << 32, 1<<32 + 10, math.MinInt, math.MaxInt} {
		wrong = append(wrong, api.Config{Words: words, Classes: one})
	}
	for _, large := range []int{-1, -10, 10, 11, 65536, 1 << 32, 1<<32 + 1, math.MinInt, math.MaxInt} {
		wrong = append(wrong, api.Config{Words: 10, Large: large, Classes: one})
	}
	wrong = append(wrong, api.Config{Words: 1, Large: 1, Classes: one}, api.Config{Words: 65537, Large: 65536, Classes: one}, api.Config{Words: 0, Large: -1, Classes: one})
	for _, classes := range [][]int{
		{0}, {-1}, {25}, {26}, {1 << 32}, {1<<32 + 1}, {math.MinInt}, {math.MaxInt},
		{0, 1}, {-1, 2}, {2, 25}, {1, 1}, {2, 1}, {24, 24}, {1, 3, 3}, {1, 3, 2}, {3, 1, 2}, {1, 2, 3, 4, 5, 5}, {1, 2, 3, 4, 5, 25},
		{1, 2, 3, 4, 5, 6, 7}, {1, 2, 3, 4, 5, 6, 7, 8}, {1, 2, 3, 4, 5, 6, 6},
	} {
		wrong = append(wrong, api.Config{Words: 100, Large: 10, Classes: classes})
	}
	for _, c := range wrong {
		if h, e := heap.New(c); h != nil || e != api.ErrRange {
			t.Errorf("New(%+v): %v, %d; want none, ErrRange", c, h != nil, e)
		}
	}
}

// The list that New was handed is neither changed nor kept.
func TestP61NewKeepsNoList(t *testing.T) {
	whole := []int{2, 4, 9, 9}
	h, _ := heap.New(api.Config{Words: 60, Large: 20, Classes: whole[:2]})
	if !slices.Equal(whole, []int{2, 4, 9, 9}) {
		t.Errorf("New changed its list, or the room behind it: %v", whole)
	}
	whole[0], whole[1] = 20, 24
	if a, b := h.Round(1), h.Round(3); a != 5 || b != 7 {
		t.Errorf("Round answers %d and %d behind a change of the list; want 5 and 7", a, b)
	}
	if at, e := h.Alloc(api.Con, 0, 9); at != 40 || e != api.OK {
		t.Errorf("Alloc of 9 words: %d, %d; want a large one, at 40", at, e)
	}
}

func TestP61Round(t *testing.T) {
	for _, x := range []struct {
		classes []int
		want    [32]int
	}{
		{[]int{24}, [32]int{27, 27, 27, 27, 27, 27, 27, 27, 27, 27, 27, 27, 27, 27, 27, 27, 27, 27, 27, 27, 27, 27, 27, 27, 27, 28, 29, 30, 31, 32, 33, 34}},
		{[]int{1}, [32]int{4, 4, 5, 6, 7, 8, 9, 10, 11, 12, 13, 14, 15, 16, 17, 18, 19, 20, 21, 22, 23, 24, 25, 26, 27, 28, 29, 30, 31, 32, 33, 34}},
		{[]int{2, 4}, [32]int{5, 5, 5, 7, 7, 8, 9, 10, 11, 12, 13, 14, 15, 16, 17, 18, 19, 20, 21, 22, 23, 24, 25, 26, 27, 28, 29, 30, 31, 32, 33, 34}},
		{[]int{1, 3, 4, 7, 12, 20}, [32]int{4, 4, 6, 6, 7, 10, 10, 10, 15, 15, 15, 15, 15, 23, 23, 23, 23, 23, 23, 23, 23, 24, 25, 26, 27, 28, 29, 30, 31, 32, 33, 34}},
	} {
		h, _ := heap.New(api.Config{Words: 5, Classes: x.classes})
		for size, want := range x.want {
			if got := h.Round(size); got != want {
				t.Errorf("of %v: Round(%d) = %d; want %d", x.classes, size, got, want)
			}
		}
		for _, size := range noSizes { // no size of an object: it ends, and uses no word
			h.Round(size)
		}
		if h.Uses() != 0 {
			t.Errorf("Round used %d words", h.Uses())
		}
	}
}

func TestP62Example(t *testing.T) {
	p := made(t, 60, 0, 2, 4)
	p.put(1, 1, api.OK)
	p.put(3, 6, api.OK)
	p.put(2, 13, api.OK)
	p.is(0, nil, nil, nil, []int{1, 13})
	p.is(1, nil, nil, nil, []int{6})
}

// Each size goes into its class, from the least to the greatest.
func TestP62Sizes(t *testing.T) {
	p := made(t, 2000, 1000, 1, 3, 4, 7, 12, 20)
	for size := range 32 {
		p.alloc(api.Thunk, 100+size, size)
	}
	p.is(0, nil, nil, nil, []int{1, 5})
	p.is(1, nil, nil, nil, []int{9, 15})
	p.is(2, nil, nil, nil, []int{21})
	p.is(3, nil, nil, nil, []int{28, 38, 48})
	p.is(6, nil, nil, nil, []int{1000, 1024, 1049, 1075, 1102, 1130, 1159, 1189, 1220, 1252, 1285})
}

func TestP62Kinds(t *testing.T) {
	p := made(t, 200, 100, 2)
	for kind := api.Free; kind <= api.Tomb; kind++ {
		at, _ := p.alloc(kind, 0, 2)
		p.alloc(kind, 16777215, 5)
		if c, e := p.h.Cell(at); c.Kind != kind || e != api.OK {
			t.Errorf("Cell(%d) = %+v, %d; want the kind %d", at, c, e, kind)
		}
	}
}

// A refused object takes no cell, White or new, and none of the room.
func TestP62Refused(t *testing.T) {
	p := made(t, 60, 20, 2, 4)
	p.put(1, 1, api.OK)
	p.put(3, 6, api.OK)
	p.keep(6)
	refuse := func(kind, aux, size int, e api.Errno) {
		t.Helper()
		p.call("Alloc", 0, e, func() api.Errno {
			at, f := p.h.Alloc(kind, aux, size)
			if at != 0 {
				t.Errorf("Alloc(%d, %d, %d) = %d, %d; want no place", kind, aux, size, at, f)
			}
			return f
		})
	}
	for _, size := range []int{0, 2, 3, 6} {
		for _, kind := range noKinds {
			refuse(kind, 0, size, api.ErrKind)
			refuse(kind, -1, size, api.ErrKind)
			refuse(kind, 0, 32, api.ErrKind)
			refuse(kind, math.MaxInt, math.MinInt, api.ErrKind)
		}
		for _, aux := range noAux {
			refuse(api.Con, aux, size, api.ErrRange)
			refuse(api.Con, aux, 31, api.ErrRange) // ahead of there being no room
		}
	}
	for _, size := range noSizes {
		refuse(api.Con, 0, size, api.ErrRange)
		refuse(api.Free, 7, size, api.ErrRange)
	}
	p.put(2, 1, api.OK)
	p.put(2, 13, api.OK)
	p.put(6, 40, api.OK)
}

// A new cell may end at the last word ahead of the room, and no further.
func TestP62LastCell(t *testing.T) {
	for _, large := range []int{0, 1, 9, 30} {
		for spare := range 6 {
			p := made(t, 11+spare+large, large, 2)
			p.put(2, 1, api.OK)
			p.put(0, 6, api.OK)
			if spare == 5 {
				p.put(1, 11, api.OK)
			}
			p.put(1, 0, api.ErrFull)
		}
	}
	p := made(t, 1, 0, 1)
	p.put(0, 0, api.ErrFull)
	p = made(t, 4, 0, 1)
	p.put(1, 0, api.ErrFull)
	p = made(t, 5, 0, 1)
	p.put(1, 1, api.OK)
}

// Where a class has no cell more, neither another class's nor the large ones'
// room is taken, and a smaller class may have cells more.
func TestP62Full(t *testing.T) {
	p := made(t, 60, 28, 2, 4)
	for i := range 4 {
		p.put(4, 1+7*i, api.OK)
	}
	p.put(4, 0, api.ErrFull) // 3 words are left
	p.put(1, 0, api.ErrFull)
	p.put(6, 32, api.OK)
	p.put(17, 0, api.ErrFull)
	p.put(16, 41, api.OK)
	p.put(5, 0, api.ErrFull)
	p.keep(1, 32)
	p.put(2, 0, api.ErrFull) // the White ones are of another class
	p.put(3, 8, api.OK)
	p.put(5, 0, api.ErrFull) // the White large one isn't swept
	p = made(t, 39, 0, 2, 4)
	p.put(4, 1, api.OK)
	p.put(4, 8, api.OK)
	p.put(4, 15, api.OK)
	p.put(4, 22, api.OK)
	p.put(2, 29, api.OK)
	p.put(4, 0, api.ErrFull)
	p.put(2, 34, api.OK)
	p.put(2, 0, api.ErrFull)
	p.put(5, 0, api.ErrFull) // no room for large ones at all
}

// White cells are taken from the first on, ahead of new ones; what stood in
// them is gone.
func TestP62White(t *testing.T) {
	p := made(t, 100, 40, 2, 4)
	for i := range 3 {
		at, _ := p.alloc(api.Fun, 9, 4)
		for k := range 4 {
			p.set(at, k, int64(-7-k-i))
		}
	}
	p.put(2, 22, api.OK)
	p.keep(8)
	p.is(1, []int{1, 15}, nil, nil, []int{8})
	p.put(4, 1, api.OK)
	p.put(3, 15, api.OK)
	p.put(4, 27, api.OK)
	p.put(0, 22, api.OK)
	p.is(1, nil, nil, nil, []int{8, 1, 15, 27})
}

// A large one is told its room as layer 3 takes it, and is new though there are
// White ones still.
func TestP62Large(t *testing.T) {
	p := made(t, 100, 60, 2)
	for _, x := range []struct{ size, at int }{{5, 40}, {10, 48}, {3, 61}, {20, 67}} {
		p.put(x.size, x.at, api.OK)
	}
	p.put(8, 0, api.ErrFull)
	p.put(7, 90, api.OK)
	p.set(48, 9, 123)
	p.set(61, 0, 45)
	p.keep(40, 67)
	p.is(1, []int{48, 61, 90}, nil, nil, []int{40, 67})
	p.put(3, 0, api.ErrFull)
	p.sweep()
	p.put(4, 48, api.OK)
	p.is(1, []int{61, 90}, nil, nil, []int{40, 67, 48})
	p.sweep()
	p.put(9, 55, api.OK)
	p.put(3, 0, api.ErrFull)
}

// What is made has the mark of the parity, in a cycle and behind it.
func TestP62Mark(t *testing.T) {
	p := made(t, 300, 100, 2)
	for range 4 {
		for _, size := range []int{0, 2, 5} {
			at, _ := p.alloc(api.Int, 0, size)
			if c, _ := p.h.Cell(at); c.Mark != p.h.Parity() {
				t.Errorf("Cell(%d) = %+v; want it marked, the parity is %d", at, c, p.h.Parity())
			}
		}
		p.begin()
		at, _ := p.alloc(api.Int, 0, 1)
		p.alloc(api.Int, 0, 4)
		p.shade(at) // it is marked already
		p.end()
	}
}

func TestP63GetSet(t *testing.T) {
	p := made(t, 200, 100, 2, 4)
	for size := range 12 {
		p.alloc(api.Con, size, size)
	}
	for i, at := range p.there() {
		for k := -2; k < p.objects[at].Size+3; k++ {
			p.set(at, k, int64(i*100-k))
			p.set(at, k, math.MinInt64+int64(k))
		}
		for _, k := range []int{math.MinInt, math.MaxInt, math.MaxInt - at, math.MaxInt - at - 2, -at, -at - 3, 1 << 32, 1<<32 + 1, -1 << 32} {
			p.set(at, k, 5)
			if w, e := p.h.Get(at, k); w != 0 || e != api.ErrRange {
				t.Errorf("Get(%d, %d) = %d, %d; want 0, ErrRange", at, k, w, e)
			}
		}
	}
}

// A word is set whatever the object's kind, and one that isn't in a cell's own
// object, though in its cell, isn't to be had.
func TestP63ShortInCell(t *testing.T) {
	p := made(t, 100, 0, 4)
	at, _ := p.alloc(api.Con, 0, 4)
	for k := range 4 {
		p.set(at, k, 9)
	}
	p.keep()
	for kind := api.Free; kind <= api.Tomb; kind++ {
		at, _ := p.alloc(kind, 0, 1)
		p.set(at, 0, int64(kind))
		p.set(at, 1, 1)
		p.set(at, 3, 1)
	}
}

func TestP63Become(t *testing.T) {
	p := made(t, 200, 100, 2, 4)
	var ats []int
	for _, size := range []int{0, 2, 3, 9} {
		at, _ := p.alloc(api.Thunk, 1000+size, size)
		for k := range size {
			p.set(at, k, int64(100*size+k))
		}
		ats = append(ats, at)
	}
	change := func() {
		t.Helper()
		for _, at := range ats {
			for kind := api.Free; kind <= api.Tomb; kind++ {
				p.become(at, kind, kind*kind, api.OK)
				p.become(at, kind, 16777215, api.OK)
				p.become(at, kind, 0, api.OK)
				for _, aux := range noAux {
					p.become(at, kind, aux, api.ErrRange)
				}
			}
			for _, kind := range noKinds {
				p.become(at, kind, 0, api.ErrKind)
				p.become(at, kind, -1, api.ErrKind)
			}
		}
	}
	change()
	p.begin()
	change() // From, and not marked
	for _, at := range ats {
		p.shade(at)
	}
	change() // Grey
	for at, ok := p.next(); ok; at, ok = p.next() {
		p.done(at)
	}
	p.end()
	change()
}

func TestP63Shade(t *testing.T) {
	p := made(t, 300, 150, 2, 4)
	for range 3 {
		for _, size := range []int{1, 4, 8} {
			p.alloc(api.Con, 0, size)
		}
	}
	all := p.there()
	for _, at := range all { // all are marked, and stay Black
		p.shade(at)
	}
	for range 3 {
		p.begin()
		for _, i := range []int{4, 0, 8, 2, 6, 1, 5, 3, 7} {
			p.shade(all[i])
			p.shade(all[i])
		}
		for at, ok := p.next(); ok; at, ok = p.next() {
			p.done(at)
			p.shade(at)
		}
		p.end()
	}
	p.keep(all[:8]...)
	p.begin()
	for _, at := range all[:8] {
		p.shade(at)
	}
	if p.end() != api.ErrState {
		t.Error("End with Grey ones")
	}
}

func TestP63ShadeAnswers(t *testing.T) {
	h, _ := heap.New(api.Config{Words: 60, Large: 20, Classes: []int{2}})
	a, _ := h.Alloc(api.Con, 0, 2)
	b, _ := h.Alloc(api.Con, 0, 9)
	for _, want := range []bool{false, true, false, true} { // by turns no cycle, and one
		for _, at := range []int{a, b} {
			if is, e := h.Shade(at); is != want || e != api.OK {
				t.Errorf("Shade(%d) = %v, %d; want %v", at, is, e, want)
			}
			if is, e := h.Shade(at); is || e != api.OK {
				t.Errorf("Shade(%d) = %v, %d, though it is marked", at, is, e)
			}
		}
		if want {
			h.Done(a)
			h.Done(b)
			h.End()
		} else {
			h.Begin()
		}
	}
}

// Cell tells of a White large one what it was, till it is swept.
func TestP63WhiteLarge(t *testing.T) {
	p := made(t, 100, 60, 2)
	p.alloc(api.Fun, 77, 5)
	p.alloc(api.Con, 5, 31)
	p.alloc(api.Weak, 16777215, 3)
	p.keep()
	for at, want := range map[int]cell.Cell{40: {Kind: api.Fun, Size: 5, Aux: 77}, 48: {Kind: api.Con, Size: 31, Aux: 5}, 82: {Kind: api.Weak, Size: 3, Aux: 16777215}} {
		if c, e := p.h.Cell(at); c != want || e != api.OK {
			t.Errorf("Cell(%d) = %+v, %d; want %+v", at, c, e, want)
		}
	}
	p.sweep()
	p.alloc(api.Int, 0, 4)
	p.keep()
	p.check()
}

// Of places that are none's nothing is promised but that each call ends.
func TestP63NoPlace(t *testing.T) {
	for turn := range 2 {
		h, _ := heap.New(api.Config{Words: 60, Large: 20, Classes: []int{2, 4}})
		for _, size := range []int{1, 3, 6} {
			at, _ := h.Alloc(api.Con, 0, size)
			for k := range size {
				h.Set(at, k, int64(-1)<<(20*k))
			}
		}
		for range turn {
			h.Begin()
		}
		for _, at := range noPlaces {
			if c, e := h.Cell(at); c != (cell.Cell{}) || e == api.OK {
				t.Errorf("Cell(%d) = %+v, %d; want an error", at, c, e)
			}
			if w, e := h.Get(at, 0); w != 0 || e == api.OK {
				t.Errorf("Get(%d, 0) = %d, %d; want an error", at, w, e)
			}
			if is, e := h.Shade(at); is || e == api.OK {
				t.Errorf("Shade(%d) = %v, %d; want an error", at, is, e)
			}
			if h.Set(at, 0, 1) == api.OK || h.Become(at, api.Con, 0) == api.OK || h.Done(at) == api.OK {
				t.Errorf("place %d: Set, Become or Done answers OK", at)
			}
		}
		for at := range 60 {
			h.Cell(at)
			h.Get(at, 0)
			h.Set(at, 0, 1<<40)
			h.Shade(at)
			h.Become(at, api.Con, 0)
			h.Done(at)
		}
		h.Next()
		h.End()
		h.Sweep()
		h.Rings()
		h.Large()
	}
}

// The classes in their order, then the large ones, whatever the order in which
// they became Grey; of each ring the last one.
func TestP64Next(t *testing.T) {
	p := made(t, 300, 150, 2, 4, 6)
	p.next()
	for range 2 {
		for _, size := range []int{7, 5, 4, 2} {
			p.alloc(api.Con, 0, size)
		}
	}
	p.next()
	p.begin()
	p.next()
	for _, at := range []int{150, 1, 22, 160, 10, 38, 17, 31} {
		p.shade(at)
	}
	var order []int
	for at, ok := p.next(); ok; at, ok = p.next() {
		order = append(order, at)
		p.done(at)
	}
	if want := []int{17, 38, 31, 10, 22, 1, 160, 150}; !slices.Equal(order, want) {
		t.Errorf("Next told %v; want %v", order, want)
	}
	p.is(3, nil, nil, nil, []int{150, 160})
	p.next()
}

// A ring's last Grey one may be Done though another ring is asked first.
func TestP64Done(t *testing.T) {
	p := made(t, 300, 150, 2, 4)
	for range 2 {
		for _, size := range []int{1, 3, 9} {
			p.alloc(api.Con, 0, size)
		}
	}
	all := p.there()
	p.begin()
	for _, at := range all {
		p.shade(at)
	}
	for _, i := range []int{5, 3, 2, 4, 1, 0} {
		p.done(all[i])
	}
	p.end()
}

// One that isn't its ring's last Grey one can't be Done.
func TestP64DoneNot(t *testing.T) {
	p := made(t, 300, 150, 2, 4)
	for range 3 {
		for _, size := range []int{1, 3, 9} {
			p.alloc(api.Con, 0, size)
		}
	}
	refuse := func(ats ...int) {
		t.Helper()
		for _, at := range ats {
			p.call("Done", 0, api.ErrState, func() api.Errno { return p.h.Done(at) })
		}
	}
	all := p.there()
	refuse(all...) // Black
	p.begin()
	refuse(all...) // From
	p.shade(all[0])
	p.shade(all[2])
	refuse(all[0])
	refuse(all[3:]...)
	p.done(all[2])
	refuse(all[2])
	p.done(all[0])
	refuse(all...)
}

// Where one ring has a From or a Grey one, none of the others turns, nor does
// the parity.
func TestP64BeginEnd(t *testing.T) {
	sizes := []int{1, 3, 9}
	for busy := range sizes {
		p := made(t, 300, 150, 2, 4)
		at, _ := p.alloc(api.Con, 0, sizes[busy])
		p.begin()
		for _, size := range sizes {
			p.alloc(api.Con, 0, size)
		}
		if p.begin() != api.ErrState {
			t.Errorf("Begin with a From one of %d words: OK", sizes[busy])
		}
		p.shade(at)
		if p.begin() != api.ErrState || p.end() != api.ErrState {
			t.Errorf("Begin or End with a Grey one of %d words: OK", sizes[busy])
		}
		p.done(at)
		if p.begin() != api.OK { // none is From or Grey, though there was no End
			t.Errorf("Begin with Black ones alone: an error")
		}
		if p.end() != api.OK || p.end() != api.OK || len(p.large()[api.White]) == 0 {
			t.Errorf("End without Grey ones: an error")
		}
	}
}

func TestP64Empty(t *testing.T) {
	p := made(t, 10, 0, 1)
	for range 3 {
		if p.begin() != api.OK || p.end() != api.OK || p.sweep() {
			t.Error("a heap without objects")
		}
	}
	if p.h.Parity() != 1 {
		t.Errorf("Parity() = %d behind three Begins; want 1", p.h.Parity())
	}
	if p.begin() != api.OK || p.begin() != api.OK || p.h.Parity() != 1 {
		t.Error("Begin twice, without objects")
	}
}

// The first White large one goes, one a call; cells of classes stay.
func TestP64Sweep(t *testing.T) {
	p := made(t, 100, 60, 2)
	p.sweep()
	p.put(2, 1, api.OK)
	for _, x := range []struct{ size, at int }{{5, 40}, {5, 48}, {5, 56}, {5, 64}} {
		p.put(x.size, x.at, api.OK)
	}
	if p.sweep() { // Black
		t.Error("Sweep of Black ones")
	}
	p.begin()
	if p.sweep() { // From
		t.Error("Sweep of From ones")
	}
	p.shade(56)
	if p.sweep() { // and a Grey one
		t.Error("Sweep of Grey ones")
	}
	p.done(56)
	p.end()
	p.is(1, []int{40, 48, 64}, nil, nil, []int{56})
	p.is(0, []int{1}, nil, nil, nil)
	p.sweep()
	p.is(1, []int{48, 64}, nil, nil, []int{56})
	p.put(6, 72, api.OK) // 40 to 47 are free: not enough
	p.sweep()
	p.put(13, 40, api.OK) // joined
	p.begin()             // one is White still
	p.is(1, []int{64}, []int{56, 72, 40}, nil, nil)
	p.end()
	for range 4 {
		if !p.sweep() {
			t.Error("Sweep with White ones: false")
		}
	}
	if p.sweep() {
		t.Error("Sweep with none")
	}
	p.is(0, []int{1}, nil, nil, nil)
	p.put(31, 40, api.OK)
	p.put(23, 74, api.OK)
}

func TestP65ListsAreNew(t *testing.T) {
	p := made(t, 100, 50, 2, 4)
	for range 2 {
		for _, size := range []int{1, 3, 6} {
			p.alloc(api.Con, 0, size)
		}
	}
	spoil := func(s api.Segment) {
		for i := range s.Black {
			s.Black[i] = 99
		}
		_ = append(s.Black, 98, 98)
	}
	kept, large := p.h.Rings(), p.h.Large()
	for range 2 {
		list := p.h.Rings()
		for _, s := range list {
			spoil(s)
		}
		clear(list)
		_ = append(list, api.Segment{White: []int{1}})
		spoil(p.h.Large())
		for i := range p.h.Words() {
			p.h.Words()[i] = 5
		}
	}
	p.check()
	p.keep()
	if !sameRows(kept[0], rows{3: {1, 13}}) || !sameRows(kept[1], rows{3: {6, 18}}) || !sameRows(large, rows{3: {50, 59}}) {
		t.Errorf("Rings() and Large() are the heap's own: %+v, %+v", kept, large)
	}
}

// All words: where the head, the links and the words of an object stand, and
// that word 0 is nobody's.
func TestP65Words(t *testing.T) {
	p := made(t, 32, 12, 2, 4)
	p.put(1, 1, api.OK)
	p.put(3, 6, api.OK)
	p.put(2, 13, api.OK)
	p.put(6, 20, api.OK)
	p.set(1, 0, 101)
	p.set(6, 2, 102)
	p.set(13, 1, 103)
	p.set(20, 5, 104)
	con := func(size int64) int64 { return api.Con + 32*size + 1024*7 }
	want := []int64{
		0,
		con(1), 13, 13, 101, 0,
		con(3), 6, 6, 0, 0, 102, 0,
		con(2), 1, 1, 0, 103,
		0, 0,
		con(6), 20, 20, 0, 0, 0, 0, 0, 104,
		0, 0, 0,
	}
	if got := p.h.Words(); !slices.Equal(got, want) {
		t.Errorf("Words() = %v; want %v", got, want)
	}
	p.begin()
	p.put(2, 0, api.ErrFull)
	p.shade(13)
	want[13] = con(2) + 16
	if got := p.h.Words(); !slices.Equal(got, want) {
		t.Errorf("Words() = %v; want %v", got, want)
	}
}

// Uses are the arena's: each word that is got or set is one, Words none.
func TestP65Uses(t *testing.T) {
	p := made(t, 60, 20, 2, 4)
	at, _ := p.alloc(api.Con, 0, 3)
	before := p.h.Uses()
	if before == 0 {
		t.Error("Alloc used no word")
	}
	p.h.Words()
	p.h.Parity()
	if n := p.h.Uses(); n != before {
		t.Errorf("Words and Parity used %d words", n-before)
	}
	p.h.Set(at, 2, 6)
	p.h.Get(at, 2)
	if n := p.h.Uses() - before; n < 2 || n > 2*mostUses {
		t.Errorf("Set and Get used %d words", n)
	}
}

// However many cells there are, no call uses more words.
func TestP65Largest(t *testing.T) {
	classes := []int{1, 2, 3, 4, 5, 6}
	h, _ := heap.New(api.Config{Words: api.MaxWords, Large: 20000, Classes: classes})
	most := func(name string, size int, f func()) {
		t.Helper()
		uses := h.Uses()
		f()
		if n := h.Uses() - uses; n > mostUses+size {
			t.Fatalf("%s used %d words", name, n)
		}
	}
	var ats []int
	for full := 0; full < 7; {
		full = 0
		for _, size := range []int{1, 2, 3, 4, 5, 6, 31} {
			most("Alloc", size, func() {
				if at, e := h.Alloc(api.Con, 0, size); e == api.OK {
					ats = append(ats, at)
				} else {
					full++
				}
			})
		}
	}
	if len(ats) < 6000 {
		t.Fatalf("%d objects; want more than 6000", len(ats))
	}
	most("Begin", 0, func() { h.Begin() })
	for _, at := range ats[:len(ats)/2] {
		most("Shade", 0, func() { h.Shade(at) })
	}
	for range len(ats) / 2 {
		most("Next", 0, func() {
			at, _ := h.Next()
			h.Done(at)
		})
	}
	most("End", 0, func() {
		if e := h.End(); e != api.OK {
			t.Fatalf("End(): %d", e)
		}
	})
	for more := true; more; {
		most("Sweep", 0, func() { more = h.Sweep() })
	}
	for _, size := range []int{1, 2, 3, 4, 5, 6, 31} {
		most("Alloc", size, func() {
			if _, e := h.Alloc(api.Con, 0, size); e != api.OK {
				t.Errorf("Alloc of %d words behind a cycle: %d", size, e)
			}
		})
	}
	most("Begin", 0, func() { h.Begin() })
}

// draws hands out numbers without an order, the same ones each time.
func draws() func(below int) int {
	state := uint64(5)
	return func(below int) int {
		state = state*6364136223846793005 + 1442695040888963407
		return int(state>>33) % below
	}
}

// touch is one call of those that an object is named to.
func (p *pile) touch(draw func(below int) int, at int) {
	p.t.Helper()
	switch draw(4) {
	case 0:
		p.set(at, draw(p.objects[at].Size+2)-1, int64(draw(1<<20))-1000)
	case 1:
		p.become(at, draw(11), draw(1<<24), api.OK)
	default:
		p.shade(at)
	}
}

// A heap of many shapes goes as the chapter's words have it, call by call.
func TestP6AsTheWordsHaveIt(t *testing.T) {
	draw := draws()
	for _, c := range []api.Config{
		{Words: 40, Large: 10, Classes: []int{1}},
		{Words: 150, Large: 0, Classes: []int{2, 5}},
		{Words: 200, Large: 90, Classes: []int{2, 4}},
		{Words: 300, Large: 299, Classes: []int{3}},
		{Words: 600, Large: 200, Classes: []int{1, 2, 4, 8, 16, 24}},
	} {
		p := made(t, c.Words, c.Large, c.Classes...)
		greatest := min(31, c.Classes[len(c.Classes)-1]+8)
		for range 3000 {
			there := p.there()
			switch n := draw(24); {
			case n < 7:
				p.alloc(draw(11), draw(1<<24), draw(greatest+1))
			case n < 16:
				if len(there) > 0 {
					p.touch(draw, there[draw(len(there))])
				}
			case n < 20:
				if at, ok := p.next(); ok {
					p.done(at)
				}
			case n == 20:
				p.begin()
			case n == 21:
				p.end()
			default:
				p.sweep()
			}
		}
	}
}
