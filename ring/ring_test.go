package ring_test

import (
	"math"
	"slices"
	"testing"

	"treadwheel/api"
	"treadwheel/arena"
	"treadwheel/ring"
)

const mostUses = 12

// rows are a ring as the chapter's words have it: the cells of each colour.
type rows [4][]int

func (m *rows) move(cell, from, to int, first bool) {
	at := slices.Index(m[from], cell)
	m[from] = slices.Delete(m[from], at, at+1)
	if first {
		m[to] = slices.Insert(m[to], 0, cell)
	} else {
		m[to] = append(m[to], cell)
	}
}

func (m *rows) recolour(from, to int) { m[from], m[to] = nil, append(m[to], m[from]...) }

// all are the cells, all around.
func (m *rows) all() []int { return slices.Concat(m[0], m[1], m[2], m[3]) }

// wheel is a ring, and what it is to be.
type wheel struct {
	t    *testing.T
	a    *arena.Arena
	r    *ring.Ring
	want rows
}

func made(t *testing.T, words int) *wheel {
	t.Helper()
	a, e := arena.New(words)
	if e != api.OK {
		t.Fatalf("arena.New(%d): %d", words, e)
	}
	return &wheel{t: t, a: a, r: ring.New(a)}
}

// rowed is a ring whose rows are these, as it comes about call by call.
func rowed(t *testing.T, white, from, grey, black []int) *wheel {
	t.Helper()
	w := made(t, 200)
	inGrey := slices.Concat(grey, from)
	for _, cell := range slices.Backward(inGrey) {
		w.grow(cell, api.OK)
	}
	for range inGrey {
		w.alloc(api.OK)
	}
	w.begin(api.OK)
	for _, cell := range slices.Backward(slices.Concat(black, white)) {
		w.grow(cell, api.OK)
	}
	for range black {
		w.alloc(api.OK)
	}
	for _, cell := range grey {
		w.shade(cell, api.OK)
	}
	w.is(white, from, grey, black)
	return w
}

// sixteen hands on rings of all ways in which rows have cells or none: one, two
// or three in each that has some.
func sixteen(t *testing.T, f func(w *wheel)) {
	t.Helper()
	for _, many := range []int{1, 2, 3} {
		for set := range 16 {
			var m rows
			cell := 100
			for colour := range m {
				for range many * (set >> colour & 1) {
					m[colour] = append(m[colour], cell)
					cell -= 7
				}
			}
			f(rowed(t, m[0], m[1], m[2], m[3]))
		}
	}
}

// is asks for rows that are written out.
func (w *wheel) is(white, from, grey, black []int) {
	w.t.Helper()
	want := rows{white, from, grey, black}
	for colour := range want {
		if !slices.Equal(w.want[colour], want[colour]) {
			w.t.Fatalf("the test's own rows are %v; want %v", w.want, want)
		}
	}
	w.check()
}

// check asks for the rows, for how many there are, and for the links.
func (w *wheel) check() {
	w.t.Helper()
	l := w.r.List()
	for colour, got := range [4][]int{l.White, l.From, l.Grey, l.Black} {
		if !slices.Equal(got, w.want[colour]) {
			w.t.Fatalf("List() = %+v; want %v", l, w.want)
		}
	}
	if c := w.r.Counts(); c != [4]int{len(w.want[0]), len(w.want[1]), len(w.want[2]), len(w.want[3])} {
		w.t.Fatalf("Counts() = %v; want those of %v", c, w.want)
	}
	words, all := w.a.Words(), w.want.all()
	for i, cell := range all {
		next := all[(i+1)%len(all)]
		if words[cell+1] != int64(next) || words[next+2] != int64(cell) {
			w.t.Fatalf("%d leads to %d, %d back to %d; want one another, of %v", cell, words[cell+1], next, words[next+2], w.want)
		}
	}
}

// call is one call, that uses so many words at most, and answers so.
func (w *wheel) call(name string, cell int, e api.Errno, f func() (int, api.Errno)) {
	w.t.Helper()
	before, lay := w.a.Uses(), w.a.Words()
	got, is := f()
	if got != cell || is != e {
		w.t.Fatalf("%s = %d, %d; want %d, %d (%v)", name, got, is, cell, e, w.want)
	}
	if n := w.a.Uses() - before; n > mostUses {
		w.t.Fatalf("%s used %d words; want at most %d", name, n, mostUses)
	}
	if e != api.OK && !slices.Equal(w.a.Words(), lay) {
		w.t.Fatalf("%s = %d, but the arena is another", name, e)
	}
}

func (w *wheel) grow(cell int, e api.Errno) {
	w.t.Helper()
	w.call("Grow", 0, e, func() (int, api.Errno) { return 0, w.r.Grow(cell) })
	if e == api.OK {
		w.want[api.White] = slices.Insert(w.want[api.White], 0, cell)
	}
	w.check()
}

// first is the first white cell, if an answer is to be one.
func (w *wheel) first(e api.Errno) int {
	if e != api.OK {
		return 0
	}
	return w.want[api.White][0]
}

func (w *wheel) alloc(e api.Errno) {
	w.t.Helper()
	cell := w.first(e)
	w.call("Alloc", cell, e, w.r.Alloc)
	if e == api.OK {
		w.want.move(cell, api.White, api.Black, false)
	}
	w.check()
}

func (w *wheel) drop(e api.Errno) {
	w.t.Helper()
	cell := w.first(e)
	w.call("Drop", cell, e, w.r.Drop)
	if e == api.OK {
		w.want[api.White] = w.want[api.White][1:]
	}
	w.check()
}

func (w *wheel) shade(cell int, e api.Errno) {
	w.t.Helper()
	w.call("Shade", 0, e, func() (int, api.Errno) { return 0, w.r.Shade(cell) })
	if e == api.OK {
		w.want.move(cell, api.From, api.Grey, false)
	}
	w.check()
}

func (w *wheel) done(e api.Errno) {
	w.t.Helper()
	w.call("Done", 0, e, func() (int, api.Errno) { return 0, w.r.Done() })
	if grey := w.want[api.Grey]; e == api.OK {
		w.want.move(grey[len(grey)-1], api.Grey, api.Black, true)
	}
	w.check()
}

func (w *wheel) begin(e api.Errno) {
	w.t.Helper()
	w.call("Begin", 0, e, func() (int, api.Errno) { return 0, w.r.Begin() })
	if e == api.OK {
		w.want.recolour(api.Black, api.From)
	}
	w.check()
}

func (w *wheel) end(e api.Errno) {
	w.t.Helper()
	w.call("End", 0, e, func() (int, api.Errno) { return 0, w.r.End() })
	if e == api.OK {
		w.want.recolour(api.From, api.White)
	}
	w.check()
}

// next asks what Next answers, which changes nothing.
func (w *wheel) next(cell int, ok bool) {
	w.t.Helper()
	lay := w.a.Words()
	w.call("Next", cell, api.OK, func() (int, api.Errno) {
		got, is := w.r.Next()
		if is != ok {
			w.t.Fatalf("Next() = %d, %v; want %d, %v", got, is, cell, ok)
		}
		return got, api.OK
	})
	if !slices.Equal(w.a.Words(), lay) {
		w.t.Fatalf("Next() changed the arena")
	}
	w.check()
}

// errIf is that error if so, else none.
func errIf(is bool, e api.Errno) api.Errno {
	if is {
		return e
	}
	return api.OK
}

func (w *wheel) has(colour int) bool { return len(w.want[colour]) > 0 }

// lastGrey is what Next is to answer.
func (w *wheel) lastGrey() (int, bool) {
	if grey := w.want[api.Grey]; len(grey) > 0 {
		return grey[len(grey)-1], true
	}
	return 0, false
}

func TestP51Example(t *testing.T) {
	w := made(t, 8)
	w.grow(1, api.OK)
	w.grow(5, api.OK)
	w.is([]int{5, 1}, nil, nil, nil)
	w.alloc(api.OK)
	w.is([]int{1}, nil, nil, []int{5})
	w.begin(api.OK)
	w.is([]int{1}, []int{5}, nil, nil)
}

func TestP51New(t *testing.T) {
	w := made(t, 40)
	w.check()
	w.alloc(api.ErrFull)
	for _, cell := range []int{0, 1, 5, -1, 40, math.MinInt, math.MaxInt} {
		w.shade(cell, api.ErrColour)
	}
	w.next(0, false)
	w.done(api.ErrState)
	w.drop(api.ErrFull)
	w.begin(api.OK)
	w.end(api.OK)
	w.is(nil, nil, nil, nil)
}

func TestP51GrowRange(t *testing.T) {
	for _, words := range []int{1, 2, 3, 4, 5, 30, api.MaxWords} {
		w := made(t, words)
		for _, cell := range []int{
			0, -1, -2, -3, -4, -30, words - 2, words - 1, words, words + 1, words + 30, api.MaxWords, api.MaxWords + 1,
			1 << 32, 1<<32 + 1, -1 << 32, math.MinInt, math.MinInt + 1, math.MaxInt - 2, math.MaxInt - 1, math.MaxInt,
		} {
			w.grow(cell, api.ErrRange)
		}
		if words < 4 {
			w.grow(1, api.ErrRange)
			continue
		}
		w.grow(words-3, api.OK) // the last place of all
		if words > 6 {
			w.grow(1, api.OK) // and the first
			w.grow(0, api.ErrRange)
			w.grow(words-2, api.ErrRange)
			w.is([]int{1, words - 3}, nil, nil, nil)
		}
	}
}

func TestP51Grow(t *testing.T) {
	sixteen(t, func(w *wheel) {
		for _, cell := range []int{110, 197, 1, 150} {
			w.grow(cell, api.OK)
		}
	})
}

func TestP51Alloc(t *testing.T) {
	sixteen(t, func(w *wheel) {
		for w.has(api.White) {
			w.alloc(api.OK)
		}
		w.alloc(api.ErrFull)
	})
}

// Of three From ones, each may go first, second and last.
func TestP51Shade(t *testing.T) {
	for _, order := range [][]int{{0, 1, 2}, {0, 2, 1}, {1, 0, 2}, {1, 2, 0}, {2, 0, 1}, {2, 1, 0}} {
		sixteen(t, func(w *wheel) {
			from := slices.Clone(w.want[api.From])
			for _, i := range order {
				if i < len(from) {
					w.shade(from[i], api.OK)
				}
			}
			for _, cell := range []int{100, 1, 0, -1, 1 << 32, math.MinInt, math.MaxInt} {
				w.shade(cell, api.ErrColour)
			}
		})
	}
}

func TestP51NextDone(t *testing.T) {
	sixteen(t, func(w *wheel) {
		for w.has(api.Grey) {
			cell, _ := w.lastGrey()
			w.next(cell, true)
			w.next(cell, true)
			w.done(api.OK)
		}
		w.next(0, false)
		w.done(api.ErrState)
	})
}

func TestP52Begin(t *testing.T) {
	sixteen(t, func(w *wheel) {
		busy := w.has(api.From) || w.has(api.Grey)
		w.begin(errIf(busy, api.ErrState))
	})
	w := rowed(t, []int{9}, []int{1, 5}, nil, []int{20, 13})
	w.begin(api.ErrState)
	w.end(api.OK)
	w.is([]int{9, 1, 5}, nil, nil, []int{20, 13})
	w.begin(api.OK)
	w.is([]int{9, 1, 5}, []int{20, 13}, nil, nil)
}

func TestP52End(t *testing.T) {
	sixteen(t, func(w *wheel) {
		w.end(errIf(w.has(api.Grey), api.ErrState))
	})
	w := rowed(t, []int{9, 30}, []int{1, 5}, []int{40}, []int{20})
	w.end(api.ErrState)
	w.done(api.OK)
	w.end(api.OK)
	w.is([]int{9, 30, 1, 5}, nil, nil, []int{40, 20})
}

func TestP52Drop(t *testing.T) {
	sixteen(t, func(w *wheel) {
		var dropped []int
		for w.has(api.White) {
			dropped = append(dropped, w.want[api.White][0])
			w.drop(api.OK)
		}
		w.drop(api.ErrFull)
		w.alloc(api.ErrFull)
		for _, cell := range dropped { // no cells of the ring, so they may be its again
			w.grow(cell, api.OK)
		}
	})
}

func TestP53ListIsNew(t *testing.T) {
	w := rowed(t, []int{1, 5}, []int{9, 13}, []int{17, 21}, []int{25, 29})
	first, second := w.r.List(), w.r.List()
	for _, row := range [][]int{first.White, first.From, first.Grey, first.Black} {
		_ = append(row, 99, 99, 99)
		row[0], row[1] = 77, 78
	}
	w.check()
	want := [][]int{{1, 5}, {9, 13}, {17, 21}, {25, 29}}
	for i, row := range [][]int{second.White, second.From, second.Grey, second.Black} {
		_ = append(row, 98, 98, 98)
		if !slices.Equal(row, want[i]) {
			t.Errorf("a row of List() is %v; want %v", row, want[i])
		}
	}
	w.done(api.OK)
	w.shade(9, api.OK)
	w.alloc(api.OK)
	for i, row := range [][]int{second.White, second.From, second.Grey, second.Black} {
		if !slices.Equal(row, want[i]) {
			t.Errorf("List() is the ring's own: %v; want %v", row, want[i])
		}
	}
	counts := w.r.Counts()
	counts[0] = 50
	w.check()
}

// Two rings in one arena keep out of each other's way, and all but the links
// stays as it was.
func TestP53RingsApart(t *testing.T) {
	w := made(t, 60)
	for at := range 60 {
		w.a.Store(at, int64(1000+at))
	}
	v := &wheel{t: t, a: w.a, r: ring.New(w.a)}
	links := map[int]bool{}
	for i := range 4 {
		for j, x := range []*wheel{w, v} {
			cell := 1 + 13*i + 5*j
			links[cell+1], links[cell+2] = true, true
			x.grow(cell, api.OK)
		}
	}
	for _, x := range []*wheel{w, v} {
		for range 3 {
			x.alloc(api.OK)
		}
		x.begin(api.OK)
		x.shade(x.want[api.From][1], api.OK)
		x.alloc(api.OK)
		x.done(api.OK)
		w.check()
		v.check()
	}
	w.end(api.OK)
	w.drop(api.OK)
	v.check()
	for at, word := range w.a.Words() {
		if !links[at] && word != int64(1000+at) {
			t.Errorf("word %d = %d, though it is no link", at, word)
		}
	}
}

func TestP54Uses(t *testing.T) {
	sixteen(t, func(w *wheel) {
		before := w.a.Uses()
		w.r.Counts()
		if n := w.a.Uses() - before; n != 0 {
			t.Fatalf("Counts() used %d words", n)
		}
		w.r.List()
		if n := w.a.Uses() - before; n > 3*len(w.want.all()) {
			t.Fatalf("List() used %d words for %d cells", n, len(w.want.all()))
		}
	})
}

// However many cells there are, a call uses no more words.
func TestP54Largest(t *testing.T) {
	const cells = (api.MaxWords - 1) / 3
	w := made(t, api.MaxWords)
	for i := range cells {
		if e := w.r.Grow(1 + 3*i); e != api.OK || w.a.Uses() > mostUses*(i+1) {
			t.Fatalf("Grow(%d) = %d; %d uses so far", 1+3*i, e, w.a.Uses())
		}
		w.want[api.White] = append(w.want[api.White], 1+3*(cells-1-i))
	}
	w.check()
	for range cells / 2 {
		w.r.Alloc()
	}
	w.want[api.White], w.want[api.Black] = w.want[api.White][cells/2:], w.want[api.White][:cells/2]
	w.begin(api.OK)
	w.shade(w.want[api.From][cells/4], api.OK)
	w.shade(w.want[api.From][0], api.OK)
	w.alloc(api.OK)
	w.next(w.want[api.Grey][1], true)
	w.done(api.OK)
	w.done(api.OK)
	w.end(api.OK)
	w.drop(api.OK)
	w.begin(api.OK)
}

// draws hands out numbers without an order, the same ones each time.
func draws() func(below int) int {
	state := uint64(5)
	return func(below int) int {
		state = state*6364136223846793005 + 1442695040888963407
		return int(state>>33) % below
	}
}

// spare is some cell of so many that isn't the ring's, and whether there is one.
func (w *wheel) spare(cells, at int) (int, bool) {
	all := w.want.all()
	for i := range cells {
		if cell := 1 + 3*((at+i)%cells); !slices.Contains(all, cell) {
			return cell, true
		}
	}
	return 0, false
}

func TestP54AsTheWordsHaveIt(t *testing.T) {
	draw := draws()
	for _, cells := range []int{1, 2, 3, 5, 20} {
		w := made(t, 1+3*cells)
		for range 6000 {
			switch draw(12) {
			case 0, 1:
				if cell, ok := w.spare(cells, draw(cells)); ok {
					w.grow(cell, api.OK)
				} else {
					w.grow(1+3*cells, api.ErrRange)
				}
			case 2, 3:
				w.alloc(errIf(!w.has(api.White), api.ErrFull))
			case 4, 5, 6:
				if from := w.want[api.From]; len(from) > 0 {
					w.shade(from[draw(len(from))], api.OK)
				} else {
					w.shade(1, api.ErrColour)
				}
			case 7:
				cell, ok := w.lastGrey()
				w.next(cell, ok)
			case 8, 9:
				w.done(errIf(!w.has(api.Grey), api.ErrState))
			case 10:
				w.begin(errIf(w.has(api.From) || w.has(api.Grey), api.ErrState))
			default:
				if draw(2) == 0 {
					w.end(errIf(w.has(api.Grey), api.ErrState))
				} else {
					w.drop(errIf(!w.has(api.White), api.ErrFull))
				}
			}
		}
	}
}
