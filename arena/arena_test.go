package arena_test

import (
	"math"
	"slices"
	"sync"
	"testing"

	"treadwheel/api"
	"treadwheel/arena"
)

var edgeWords = []int64{math.MinInt64, math.MinInt64 + 1, -1 << 32, -1, 0, 1, 1 << 32, math.MaxInt64 - 1, math.MaxInt64}

func made(t *testing.T, words int) *arena.Arena {
	t.Helper()
	a, e := arena.New(words)
	if a == nil || e != api.OK {
		t.Fatalf("New(%d) = %v, %d; want an arena", words, a, e)
	}
	return a
}

// places are some that an arena of so many words has, and some that it hasn't.
func places(words int) (has, hasNot []int) {
	has = []int{0, words / 2, words - 1}
	hasNot = []int{-1, -words, words, words + 1, api.MaxWords, api.MaxWords + 1, math.MinInt, math.MinInt + 1, math.MaxInt - 1, math.MaxInt, 1 << 32, -1 << 32}
	return has, hasNot
}

func wantLoad(t *testing.T, a *arena.Arena, at int, want int64, e api.Errno) {
	t.Helper()
	if got, f := a.Load(at); got != want || f != e {
		t.Errorf("Load(%d) = %d, %d; want %d, %d", at, got, f, want, e)
	}
}

func wantStore(t *testing.T, a *arena.Arena, at int, word int64, e api.Errno) {
	t.Helper()
	if f := a.Store(at, word); f != e {
		t.Errorf("Store(%d, %d) = %d; want %d", at, word, f, e)
	}
}

func wantWords(t *testing.T, a *arena.Arena, want []int64) {
	t.Helper()
	if got := a.Words(); !slices.Equal(got, want) {
		t.Errorf("Words() = %v; want %v", got, want)
	}
}

func wantUses(t *testing.T, a *arena.Arena, want int) {
	t.Helper()
	if got := a.Uses(); got != want {
		t.Errorf("Uses() = %d; want %d", got, want)
	}
}

func TestP21NewRange(t *testing.T) {
	for _, words := range []int{math.MinInt, -api.MaxWords, -1, 0, api.MaxWords + 1, 1 << 32, 1<<32 + 1, math.MaxInt} {
		if a, e := arena.New(words); a != nil || e != api.ErrRange {
			t.Errorf("New(%d) = %v, %d; want none, ErrRange", words, a, e)
		}
	}
}

func TestP21New(t *testing.T) {
	for _, words := range []int{1, 2, 3, 1000, api.MaxWords - 1, api.MaxWords} {
		a := made(t, words)
		if a.Len() != words {
			t.Errorf("Len() = %d; want %d", a.Len(), words)
		}
		wantWords(t, a, make([]int64, words))
	}
}

func TestP21LoadStore(t *testing.T) {
	for _, words := range []int{3, 64, api.MaxWords} {
		a := made(t, words)
		has, _ := places(words)
		for i, at := range has {
			wantLoad(t, a, at, 0, api.OK)
			wantStore(t, a, at, int64(i+1), api.OK)
		}
		for i, at := range has {
			wantLoad(t, a, at, int64(i+1), api.OK)
		}
		for _, word := range edgeWords {
			wantStore(t, a, words-1, word, api.OK)
			wantLoad(t, a, words-1, word, api.OK)
		}
	}
}

func TestP21NoSuchPlace(t *testing.T) {
	for _, words := range []int{1, 2, 1000, api.MaxWords - 1} {
		a := made(t, words)
		want := make([]int64, words)
		for at := range want {
			want[at] = int64(at) + 7
			wantStore(t, a, at, want[at], api.OK)
		}
		_, hasNot := places(words)
		for _, at := range hasNot {
			wantLoad(t, a, at, 0, api.ErrRange)
			wantStore(t, a, at, 99, api.ErrRange)
		}
		wantWords(t, a, want)
		if a.Len() != words {
			t.Errorf("Len() = %d; want %d", a.Len(), words)
		}
		wantLoad(t, a, words-1, want[words-1], api.OK)
	}
}

func TestP21WordsAreNew(t *testing.T) {
	a := made(t, 3)
	wantStore(t, a, 1, 5, api.OK)
	first, second := a.Words(), a.Words()
	first[1] = 6
	_ = append(first[:1], 8, 8)
	wantWords(t, a, []int64{0, 5, 0})
	if !slices.Equal(second, []int64{0, 5, 0}) {
		t.Errorf("Words() share memory: %v", second)
	}
	wantStore(t, a, 1, 9, api.OK)
	if second[1] != 5 {
		t.Errorf("Words() are the arena's own: %v", second)
	}
}

func TestP21ArenasApart(t *testing.T) {
	a, b := made(t, 2), made(t, 2)
	wantStore(t, a, 0, 1, api.OK)
	wantWords(t, b, []int64{0, 0})
	wantUses(t, b, 0)
}

func TestP22Example(t *testing.T) {
	a := made(t, 2)
	wantStore(t, a, 1, 4, api.OK)
	wantLoad(t, a, 2, 0, api.ErrRange)
	wantUses(t, a, 1)
}

func TestP22EachUse(t *testing.T) {
	a := made(t, 4)
	wantUses(t, a, 0)
	for n := range 1000 {
		at := n % 4
		wantStore(t, a, at, int64(n), api.OK)
		wantUses(t, a, 2*n+1)
		wantLoad(t, a, at, int64(n), api.OK)
		wantUses(t, a, 2*n+2)
	}
}

func TestP22NoUse(t *testing.T) {
	a := made(t, 4)
	wantStore(t, a, 0, 0, api.OK) // a use, though it changes nothing
	_, hasNot := places(4)
	for _, at := range hasNot {
		wantLoad(t, a, at, 0, api.ErrRange)
		wantStore(t, a, at, 1, api.ErrRange)
		a.Words()
		a.Len()
		a.Uses()
	}
	wantUses(t, a, 1)
	wantLoad(t, a, 3, 0, api.OK)
	wantUses(t, a, 2)
}

// Loads change no word, so several at once must each be counted.
func TestP22UsesAtOnce(t *testing.T) {
	a := made(t, 8)
	var group sync.WaitGroup
	for at := range 8 {
		group.Go(func() {
			for range 20000 {
				a.Load(at)
			}
		})
	}
	group.Wait()
	wantUses(t, a, 160000)
}
