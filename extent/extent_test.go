package extent_test

import (
	"math"
	"slices"
	"testing"

	"treadwheel/api"
	"treadwheel/extent"
)

func made(t *testing.T, first, places int) *extent.Room {
	t.Helper()
	r, e := extent.New(first, places)
	if r == nil || e != api.OK {
		t.Fatalf("New(%d, %d) = %v, %d; want room", first, places, r, e)
	}
	return r
}

func wantTake(t *testing.T, r *extent.Room, n, want int, e api.Errno) {
	t.Helper()
	if at, f := r.Take(n); at != want || f != e {
		t.Fatalf("Take(%d) = %d, %d; want %d, %d", n, at, f, want, e)
	}
}

func wantGive(t *testing.T, r *extent.Room, at, n int, e api.Errno) {
	t.Helper()
	if f := r.Give(at, n); f != e {
		t.Fatalf("Give(%d, %d) = %d; want %d", at, n, f, e)
	}
}

// wantList asks for the extents, and for as many free places as these have.
func wantList(t *testing.T, r *extent.Room, want ...[2]int) {
	t.Helper()
	if got := r.List(); !slices.Equal(got, want) {
		t.Fatalf("List() = %v; want %v", got, want)
	}
	free := 0
	for _, x := range want {
		free += x[1]
	}
	if got := r.Free(); got != free {
		t.Fatalf("Free() = %d; want %d", got, free)
	}
}

// gaps is room of 20 places from 100 on, of which 102, 103, 107, 108, 109,
// 115 to 119 are free.
func gaps(t *testing.T) *extent.Room {
	t.Helper()
	r := made(t, 100, 20)
	wantTake(t, r, 20, 100, api.OK)
	wantGive(t, r, 107, 3, api.OK)
	wantGive(t, r, 115, 5, api.OK)
	wantGive(t, r, 102, 2, api.OK)
	wantList(t, r, [2]int{102, 2}, [2]int{107, 3}, [2]int{115, 5})
	return r
}

func TestP31NewRange(t *testing.T) {
	for _, n := range []int{math.MinInt, -api.MaxWords, -1, api.MaxWords + 1, 1 << 32, 1<<32 + 1, math.MaxInt} {
		for _, x := range [][2]int{{n, 0}, {n, 1}, {0, n}, {1, n}, {api.MaxWords, n}, {n, api.MaxWords}, {n, n}, {n, -n}} {
			if r, e := extent.New(x[0], x[1]); r != nil || e != api.ErrRange {
				t.Errorf("New(%d, %d) = %v, %d; want none, ErrRange", x[0], x[1], r, e)
			}
		}
	}
}

func TestP31New(t *testing.T) {
	for _, first := range []int{0, 1, 5, api.MaxWords - 1, api.MaxWords} {
		for _, places := range []int{1, 2, 10, api.MaxWords - 1, api.MaxWords} {
			wantList(t, made(t, first, places), [2]int{first, places})
		}
	}
}

func TestP31NoPlaces(t *testing.T) {
	for _, first := range []int{0, 7, api.MaxWords} {
		r := made(t, first, 0)
		wantList(t, r)
		wantTake(t, r, 1, 0, api.ErrFull)
		wantTake(t, r, 0, 0, api.ErrRange)
		wantGive(t, r, first, 1, api.ErrRange)
		wantGive(t, r, first, 0, api.ErrRange)
		wantList(t, r)
	}
}

func TestP31Example(t *testing.T) {
	r := made(t, 5, 10)
	wantTake(t, r, 4, 5, api.OK)
	wantTake(t, r, 3, 9, api.OK)
	wantGive(t, r, 5, 4, api.OK)
	wantList(t, r, [2]int{5, 4}, [2]int{12, 3})
}

func TestP31TakeFirst(t *testing.T) {
	for _, x := range []struct {
		n, at int
		left  [][2]int
	}{
		{1, 102, [][2]int{{103, 1}, {107, 3}, {115, 5}}},
		{2, 102, [][2]int{{107, 3}, {115, 5}}},
		{3, 107, [][2]int{{102, 2}, {115, 5}}},
		{4, 115, [][2]int{{102, 2}, {107, 3}, {119, 1}}},
		{5, 115, [][2]int{{102, 2}, {107, 3}}},
	} {
		r := gaps(t)
		wantTake(t, r, x.n, x.at, api.OK)
		wantList(t, r, x.left...)
	}
}

func TestP31TakeErrors(t *testing.T) {
	r := gaps(t)
	for _, n := range []int{0, -1, -20, -1 << 32, math.MinInt, math.MinInt + 1} {
		wantTake(t, r, n, 0, api.ErrRange)
	}
	// Ten places are free, but no six of them on end.
	for _, n := range []int{6, 10, 20, 21, 1 << 32, 1<<32 + 1, math.MaxInt} {
		wantTake(t, r, n, 0, api.ErrFull)
	}
	wantList(t, r, [2]int{102, 2}, [2]int{107, 3}, [2]int{115, 5})
	wantTake(t, r, 5, 115, api.OK)
	wantTake(t, r, 3, 107, api.OK)
	wantTake(t, r, 2, 102, api.OK)
	wantTake(t, r, 1, 0, api.ErrFull)
	wantTake(t, r, 0, 0, api.ErrRange)
	wantList(t, r)
}

func TestP31TakeAll(t *testing.T) {
	for _, x := range [][2]int{{0, 1}, {1, 3}, {0, api.MaxWords}, {api.MaxWords, api.MaxWords}} {
		r := made(t, x[0], x[1])
		wantTake(t, r, x[1]+1, 0, api.ErrFull)
		wantTake(t, r, x[1], x[0], api.OK)
		wantList(t, r)
		wantTake(t, r, 1, 0, api.ErrFull)
		wantGive(t, r, x[0], x[1], api.OK)
		wantList(t, r, x)
	}
}

func TestP31GiveRange(t *testing.T) {
	all := [][2]int{{102, 2}, {107, 3}, {115, 5}}
	r := gaps(t)
	for _, n := range []int{0, -1, -4, -1 << 32, math.MinInt, math.MinInt + 1} {
		for _, at := range []int{math.MinInt, -1, 0, 99, 100, 103, 105, 119, 120, 121, math.MaxInt} {
			wantGive(t, r, at, n, api.ErrRange)
		}
	}
	for _, x := range [][2]int{
		{99, 1}, {99, 2}, {0, 1}, {-1, 1}, {-1, 200}, {-100, 1}, {0, 200}, {math.MinInt, 1}, {math.MinInt, math.MaxInt}, {math.MinInt + 1, math.MaxInt},
		{120, 1}, {121, 1}, {math.MaxInt, 1}, {math.MaxInt, math.MaxInt}, {1<<32 + 100, 1}, {1<<32 + 100, 2},
		{100, 21}, {110, 11}, {119, 2}, {100, math.MaxInt}, {110, math.MaxInt}, {112, 1 << 32}, {112, 1<<32 + 1}, {112, math.MaxInt - 111}, {112, math.MaxInt - 112},
	} {
		wantGive(t, r, x[0], x[1], api.ErrRange)
	}
	wantList(t, r, all...)
}

func TestP31GiveTwice(t *testing.T) {
	r := gaps(t)
	for _, x := range [][2]int{
		{102, 1}, {103, 1}, {102, 2}, {107, 1}, {108, 1}, {109, 1}, {107, 3}, {119, 1}, {115, 5}, // free, all of them
		{101, 2}, {100, 3}, {103, 2}, {109, 2}, {106, 2}, {114, 2}, {110, 6}, // at one end
		{101, 4}, {106, 5}, {103, 5}, {104, 4}, {104, 11}, {100, 20}, {100, 10}, // within, and at both ends
	} {
		wantGive(t, r, x[0], x[1], api.ErrTwice)
	}
	wantList(t, r, [2]int{102, 2}, [2]int{107, 3}, [2]int{115, 5})
	whole := made(t, 0, 3)
	for _, x := range [][2]int{{0, 1}, {1, 1}, {2, 1}, {0, 3}} {
		wantGive(t, whole, x[0], x[1], api.ErrTwice)
	}
	wantList(t, whole, [2]int{0, 3})
}

func TestP31GiveJoins(t *testing.T) {
	for _, x := range []struct {
		at, n int
		all   [][2]int
	}{
		{100, 1, [][2]int{{100, 1}, {102, 2}, {107, 3}, {115, 5}}}, // by itself, ahead of all
		{105, 1, [][2]int{{102, 2}, {105, 1}, {107, 3}, {115, 5}}}, // by itself, between two
		{112, 2, [][2]int{{102, 2}, {107, 3}, {112, 2}, {115, 5}}},
		{101, 1, [][2]int{{101, 3}, {107, 3}, {115, 5}}}, // with the next one
		{100, 2, [][2]int{{100, 4}, {107, 3}, {115, 5}}},
		{112, 3, [][2]int{{102, 2}, {107, 3}, {112, 8}}},
		{104, 1, [][2]int{{102, 3}, {107, 3}, {115, 5}}}, // with the last one
		{110, 4, [][2]int{{102, 2}, {107, 7}, {115, 5}}},
		{104, 3, [][2]int{{102, 8}, {115, 5}}}, // with both
		{110, 5, [][2]int{{102, 2}, {107, 13}}},
	} {
		r := gaps(t)
		wantGive(t, r, x.at, x.n, api.OK)
		wantList(t, r, x.all...)
	}
	r := gaps(t) // behind all
	wantTake(t, r, 5, 115, api.OK)
	wantGive(t, r, 119, 1, api.OK)
	wantList(t, r, [2]int{102, 2}, [2]int{107, 3}, [2]int{119, 1})
	wantGive(t, r, 115, 1, api.OK)
	wantList(t, r, [2]int{102, 2}, [2]int{107, 3}, [2]int{115, 1}, [2]int{119, 1})
}

// What was taken at once may be given back in pieces, and the other way around.
func TestP31GivePieces(t *testing.T) {
	r := made(t, 0, 9)
	wantTake(t, r, 2, 0, api.OK)
	wantTake(t, r, 3, 2, api.OK)
	wantTake(t, r, 4, 5, api.OK)
	wantGive(t, r, 1, 5, api.OK)
	wantList(t, r, [2]int{1, 5})
	wantGive(t, r, 7, 1, api.OK)
	wantGive(t, r, 6, 1, api.OK)
	wantList(t, r, [2]int{1, 7})
	wantTake(t, r, 7, 1, api.OK)
	wantList(t, r)
}

func TestP31ListIsNew(t *testing.T) {
	r := gaps(t)
	first, second := r.List(), r.List()
	first[0] = [2]int{0, 99}
	_ = append(first[:1], [2]int{8, 8}, [2]int{8, 8})
	wantList(t, r, second...)
	wantList(t, r, [2]int{102, 2}, [2]int{107, 3}, [2]int{115, 5})
	wantTake(t, r, 1, 102, api.OK)
	wantGive(t, r, 112, 1, api.OK)
	if !slices.Equal(second, [][2]int{{102, 2}, {107, 3}, {115, 5}}) {
		t.Errorf("List() is the room's own: %v", second)
	}
}

func TestP31RoomsApart(t *testing.T) {
	a, b := made(t, 3, 4), made(t, 3, 4)
	wantTake(t, a, 2, 3, api.OK)
	wantList(t, a, [2]int{5, 2})
	wantList(t, b, [2]int{3, 4})
}

// places is room as the chapter's words have it: which place is free.
type places struct {
	first int
	free  []bool
}

func (p places) list() [][2]int {
	var out [][2]int
	for i, is := range p.free {
		switch {
		case is && i > 0 && p.free[i-1]:
			out[len(out)-1][1]++
		case is:
			out = append(out, [2]int{p.first + i, 1})
		}
	}
	return out
}

func (p places) set(at, n int, is bool) {
	for i := range n {
		p.free[at-p.first+i] = is
	}
}

func (p places) take(n int) (int, api.Errno) {
	if n < 1 {
		return 0, api.ErrRange
	}
	for _, x := range p.list() {
		if x[1] >= n {
			p.set(x[0], n, false)
			return x[0], api.OK
		}
	}
	return 0, api.ErrFull
}

func (p places) give(at, n int) api.Errno {
	if n < 1 || at < p.first || at+n > p.first+len(p.free) {
		return api.ErrRange
	}
	if slices.Contains(p.free[at-p.first:at-p.first+n], true) {
		return api.ErrTwice
	}
	p.set(at, n, true)
	return api.OK
}

// draws hands out numbers without an order, the same ones each time.
func draws() func(below int) int {
	state := uint64(1)
	return func(below int) int {
		state = state*6364136223846793005 + 1442695040888963407
		return int(state>>33) % below
	}
}

func TestP31AsTheWordsHaveIt(t *testing.T) {
	draw := draws()
	for _, size := range []int{0, 1, 2, 3, 7, 20, 60} {
		first := draw(9)
		r, p := made(t, first, size), places{first: first, free: make([]bool, size)}
		p.set(first, size, true)
		for range 4000 {
			n := draw(6) - 1
			if draw(2) == 0 {
				want, e := p.take(n)
				wantTake(t, r, n, want, e)
			} else {
				at := first - 2 + draw(size+4)
				wantGive(t, r, at, n, p.give(at, n))
			}
			wantList(t, r, p.list()...)
		}
	}
}

func TestP32NoPlaceTwice(t *testing.T) {
	draw := draws()
	const first, size = 40, 200
	r, taken := made(t, first, size), map[int]bool{}
	var runs [][2]int
	for range 20000 {
		if n := 1 + draw(8); draw(5) < 3 {
			at, e := r.Take(n)
			if e != api.OK {
				continue
			}
			for place := at; place < at+n; place++ {
				if taken[place] || place < first || place >= first+size {
					t.Fatalf("Take(%d) = %d, of which %d is taken, or not the room's", n, at, place)
				}
				taken[place] = true
			}
			runs = append(runs, [2]int{at, n})
		} else if len(runs) > 0 {
			i := draw(len(runs))
			wantGive(t, r, runs[i][0], runs[i][1], api.OK)
			for place := runs[i][0]; place < runs[i][0]+runs[i][1]; place++ {
				delete(taken, place)
			}
			runs = slices.Delete(runs, i, i+1)
		}
		if r.Free() != size-len(taken) {
			t.Fatalf("Free() = %d; want %d", r.Free(), size-len(taken))
		}
	}
	for _, x := range runs {
		wantGive(t, r, x[0], x[1], api.OK)
	}
	wantList(t, r, [2]int{first, size})
}

// orders are ways to go through so many runs: rising, falling, every other
// one, and one without an order.
func orders(n int) [][]int {
	var rising, falling, other, mixed []int
	draw := draws()
	for i := range n {
		rising, falling = append(rising, i), append(falling, n-1-i)
		at := draw(i + 1)
		mixed = slices.Insert(mixed, at, i)
	}
	for _, start := range []int{0, 1} {
		for i := start; i < n; i += 2 {
			other = append(other, i)
		}
	}
	return [][]int{rising, falling, other, mixed}
}

func TestP32OneExtent(t *testing.T) {
	for _, size := range []int{1, 2, 3, 64, 1001} {
		for _, order := range orders(size) {
			for _, n := range []int{1, 3} {
				first := size % 5
				r := made(t, first, size*n)
				for i := range size {
					wantTake(t, r, n, first+i*n, api.OK)
				}
				wantList(t, r)
				for _, i := range order {
					wantGive(t, r, first+i*n, n, api.OK)
				}
				wantList(t, r, [2]int{first, size * n})
			}
		}
	}
}

func TestP32Largest(t *testing.T) {
	r := made(t, api.MaxWords, api.MaxWords)
	for i := range api.MaxWords {
		wantTake(t, r, 1, api.MaxWords+i, api.OK)
	}
	wantTake(t, r, 1, 0, api.ErrFull)
	for i := api.MaxWords - 1; i >= 0; i-- {
		wantGive(t, r, api.MaxWords+i, 1, api.OK)
	}
	wantList(t, r, [2]int{api.MaxWords, api.MaxWords})
}
