package cell_test

import (
	"math"
	"testing"

	"treadwheel/api"
	"treadwheel/cell"
)

const (
	maxSize = 31
	maxAux  = 16777215
	// allWords is the first number that is past the words of all objects.
	allWords = 1024 * (maxAux + 1)
)

var kinds = []int{api.Free, api.Con, api.Thunk, api.Fun, api.Pap, api.Ind, api.Hole, api.Int, api.Float, api.Weak, api.Tomb}

var noKinds = []int{-1, -10, -16, api.Tomb + 1, 12, 13, 14, 15, 16, 17, 26, 1 << 32, 1<<32 + 1, math.MinInt, math.MinInt + 1, math.MaxInt}

var someAux = []int{0, 1, 2, 5, 255, 256, 65535, 65536, 1<<23 - 1, 1 << 23, maxAux - 1, maxAux}

// outside are numbers that no part may be, with such among them whose lower
// bits alone would be one that is.
func outside(max int) []int {
	return []int{-1, -2, -max, -max - 1, max + 1, max + 2, 2*max + 1, 2 * (max + 1), 1 << 32, 1<<32 + 1, 1 << 54, 1<<59 + 1, math.MinInt, math.MinInt + 1, math.MaxInt - 1, math.MaxInt}
}

// wordOf is an object's word, by the chapter's sum.
func wordOf(c cell.Cell) int64 {
	return int64(c.Kind) + 16*int64(c.Mark) + 32*int64(c.Size) + 1024*int64(c.Aux)
}

// objects hands on one of each kind, size and mark, with some extra numbers.
func objects(f func(c cell.Cell)) {
	for _, kind := range kinds {
		for size := range maxSize + 1 {
			for _, aux := range someAux {
				for mark := range 2 {
					f(cell.Cell{Kind: kind, Size: size, Aux: aux, Mark: mark})
				}
			}
		}
	}
}

func wantPack(t *testing.T, c cell.Cell, want int64, e api.Errno) {
	t.Helper()
	if got, f := cell.Pack(c); got != want || f != e {
		t.Errorf("Pack(%+v) = %d, %d; want %d, %d", c, got, f, want, e)
	}
}

func wantUnpack(t *testing.T, word int64, want cell.Cell, e api.Errno) {
	t.Helper()
	if got, f := cell.Unpack(word); got != want || f != e {
		t.Errorf("Unpack(%d) = %+v, %d; want %+v, %d", word, got, f, want, e)
	}
}

func wantLinks(t *testing.T, c cell.Cell, from, to int) {
	t.Helper()
	if f, u := cell.Links(c); f != from || u != to {
		t.Errorf("Links(%+v) = %d, %d; want %d, %d", c, f, u, from, to)
	}
}

func TestP41Example(t *testing.T) {
	c := cell.Cell{Kind: api.Con, Size: 2, Aux: 5, Mark: 1}
	wantPack(t, c, 5201, api.OK)
	wantUnpack(t, 5201, c, api.OK)
}

func TestP41EachPart(t *testing.T) {
	for _, x := range []struct {
		c    cell.Cell
		word int64
	}{
		{cell.Cell{}, 0},
		{cell.Cell{Kind: 1}, 1},
		{cell.Cell{Kind: 10}, 10},
		{cell.Cell{Mark: 1}, 16},
		{cell.Cell{Size: 1}, 32},
		{cell.Cell{Size: 31}, 992},
		{cell.Cell{Aux: 1}, 1024},
		{cell.Cell{Aux: maxAux}, 17179868160},
		{cell.Cell{Kind: 10, Size: 31, Aux: maxAux, Mark: 1}, 17179869178},
		{cell.Cell{Kind: api.Weak, Size: 4, Aux: 7}, 9 + 128 + 7168},
		{cell.Cell{Kind: api.Hole, Size: 1, Mark: 1}, 6 + 16 + 32},
	} {
		wantPack(t, x.c, x.word, api.OK)
		wantUnpack(t, x.word, x.c, api.OK)
	}
}

func TestP41All(t *testing.T) {
	objects(func(c cell.Cell) {
		wantPack(t, c, wordOf(c), api.OK)
		wantUnpack(t, wordOf(c), c, api.OK)
	})
}

func TestP41PackKind(t *testing.T) {
	for _, kind := range noKinds {
		wantPack(t, cell.Cell{Kind: kind}, 0, api.ErrKind)
		wantPack(t, cell.Cell{Kind: kind, Size: 4, Aux: 9, Mark: 1}, 0, api.ErrKind)
		// What else is wrong plays no part: the kind is named first.
		wantPack(t, cell.Cell{Kind: kind, Size: 32}, 0, api.ErrKind)
		wantPack(t, cell.Cell{Kind: kind, Aux: -1}, 0, api.ErrKind)
		wantPack(t, cell.Cell{Kind: kind, Mark: 2}, 0, api.ErrKind)
		wantPack(t, cell.Cell{Kind: kind, Size: -1, Aux: maxAux + 1, Mark: -1}, 0, api.ErrKind)
	}
	// The sum would be an object's word, but the kind is none.
	wantPack(t, cell.Cell{Kind: 17, Mark: -1}, 0, api.ErrKind)
	wantPack(t, cell.Cell{Kind: -15, Mark: 1}, 0, api.ErrKind)
}

func TestP41PackRange(t *testing.T) {
	for _, kind := range kinds {
		for _, n := range outside(maxSize) {
			wantPack(t, cell.Cell{Kind: kind, Size: n}, 0, api.ErrRange)
			wantPack(t, cell.Cell{Kind: kind, Size: n, Aux: maxAux, Mark: 1}, 0, api.ErrRange)
		}
		for _, n := range outside(maxAux) {
			wantPack(t, cell.Cell{Kind: kind, Aux: n}, 0, api.ErrRange)
			wantPack(t, cell.Cell{Kind: kind, Size: maxSize, Aux: n, Mark: 1}, 0, api.ErrRange)
		}
		for _, n := range outside(1) {
			wantPack(t, cell.Cell{Kind: kind, Mark: n}, 0, api.ErrRange)
			wantPack(t, cell.Cell{Kind: kind, Size: maxSize, Aux: maxAux, Mark: n}, 0, api.ErrRange)
		}
	}
}

// Parts that are both outside come to a sum that is some object's word.
func TestP41PackMadeUpFor(t *testing.T) {
	for _, c := range []cell.Cell{
		{Kind: 1, Size: -1, Mark: 2},
		{Kind: 1, Size: 1, Mark: -2},
		{Kind: 1, Size: 32, Aux: -1},
		{Kind: 1, Size: -32, Aux: 1},
		{Kind: 1, Size: -32, Aux: 2, Mark: 64},
		{Kind: 1, Size: 32, Mark: -64},
		{Kind: 1, Aux: 1 << 54},
		{Kind: 1, Size: 1 << 59},
		{Kind: 1, Mark: 1 << 60},
		{Kind: 1, Size: 1 << 59, Aux: 1 << 54, Mark: 1 << 60},
	} {
		wantPack(t, c, 0, api.ErrRange)
	}
}

func TestP41UnpackForm(t *testing.T) {
	for _, word := range []int64{
		-1, -2, -6, -16, -5201, -1024, -allWords, 5201 - allWords, math.MinInt64, math.MinInt64 + 1, math.MinInt64 + 5201,
		allWords, allWords + 1, allWords + 5201, 2*allWords - 6, 1 << 35, 1 << 40, 1 << 62, 1<<62 + 5201, math.MaxInt64 - 15, math.MaxInt64,
	} {
		wantUnpack(t, word, cell.Cell{}, api.ErrForm)
	}
	// The kinds 11 to 15 are none, whatever stands beside them.
	for kind := api.Tomb + 1; kind < 16; kind++ {
		for _, rest := range []int64{0, 16, 32, 48, 992, 1024, 5200, allWords - 16} {
			wantUnpack(t, rest+int64(kind), cell.Cell{}, api.ErrForm)
		}
	}
	// The last word that is one's, and what is behind it.
	wantUnpack(t, allWords-6, cell.Cell{Kind: api.Tomb, Size: maxSize, Aux: maxAux, Mark: 1}, api.OK)
	for word := int64(allWords - 5); word < allWords+32; word++ {
		wantUnpack(t, word, cell.Cell{}, api.ErrForm)
	}
}

// isLink is the chapter's words of which words of a kind are links.
func isLink(kind, word int) bool {
	switch kind {
	case api.Con, api.Thunk, api.Fun, api.Pap:
		return true
	case api.Ind:
		return word == 0
	case api.Weak:
		return word == 1 || word == 2 || word == 3
	case api.Tomb:
		return word == 2 || word == 3
	}
	return false
}

func TestP42All(t *testing.T) {
	objects(func(c cell.Cell) {
		from, to := 0, 0
		for word := range c.Size {
			if !isLink(c.Kind, word) {
				continue
			}
			if to == 0 {
				from = word
			}
			to = word + 1
		}
		wantLinks(t, c, from, to)
	})
}

func TestP42Sizes(t *testing.T) {
	for _, x := range []struct{ kind, size, from, to int }{
		{api.Con, 0, 0, 0}, {api.Con, 1, 0, 1}, {api.Con, 31, 0, 31},
		{api.Thunk, 5, 0, 5}, {api.Fun, 24, 0, 24}, {api.Pap, 2, 0, 2},
		{api.Ind, 0, 0, 0}, {api.Ind, 1, 0, 1}, {api.Ind, 2, 0, 1}, {api.Ind, 31, 0, 1},
		{api.Weak, 0, 0, 0}, {api.Weak, 1, 0, 0}, {api.Weak, 2, 1, 2}, {api.Weak, 3, 1, 3}, {api.Weak, 4, 1, 4}, {api.Weak, 5, 1, 4}, {api.Weak, 31, 1, 4},
		{api.Tomb, 0, 0, 0}, {api.Tomb, 1, 0, 0}, {api.Tomb, 2, 0, 0}, {api.Tomb, 3, 2, 3}, {api.Tomb, 4, 2, 4}, {api.Tomb, 5, 2, 4}, {api.Tomb, 31, 2, 4},
		{api.Free, 4, 0, 0}, {api.Hole, 4, 0, 0}, {api.Int, 4, 0, 0}, {api.Float, 4, 0, 0},
	} {
		wantLinks(t, cell.Cell{Kind: x.kind, Size: x.size}, x.from, x.to)
	}
}

func TestP42Refused(t *testing.T) {
	for _, kind := range noKinds {
		wantLinks(t, cell.Cell{Kind: kind, Size: 4}, 0, 0)
	}
	for _, kind := range kinds {
		for _, n := range outside(maxSize) {
			wantLinks(t, cell.Cell{Kind: kind, Size: n}, 0, 0)
		}
		for _, n := range outside(maxAux) {
			wantLinks(t, cell.Cell{Kind: kind, Size: 4, Aux: n}, 0, 0)
		}
		for _, n := range outside(1) {
			wantLinks(t, cell.Cell{Kind: kind, Size: 4, Mark: n}, 0, 0)
		}
	}
}

func TestP43PackedIsUnpacked(t *testing.T) {
	objects(func(c cell.Cell) {
		word, e := cell.Pack(c)
		if e != api.OK {
			t.Fatalf("Pack(%+v) answers %d", c, e)
		}
		wantUnpack(t, word, c, api.OK)
	})
}

// All words below a bound, and those that are a bit away from an edge.
func TestP43UnpackedIsPacked(t *testing.T) {
	there := func(word int64) bool {
		c, e := cell.Unpack(word)
		if e == api.OK {
			wantPack(t, c, word, api.OK)
		}
		return e == api.OK
	}
	ones := 0
	for word := range int64(1 << 16) {
		if there(word) {
			ones++
		}
	}
	if want := 1 << 16 / 16 * len(kinds); ones != want {
		t.Errorf("%d of the words below %d are unpacked; want %d", ones, 1<<16, want)
	}
	for bit := range 64 {
		for _, word := range []int64{0, 5201, allWords - 6, allWords - 1, math.MaxInt64, math.MinInt64} {
			flipped := word ^ int64(1)<<bit
			want := flipped >= 0 && flipped < allWords && flipped%16 <= api.Tomb
			if got := there(flipped); got != want {
				t.Errorf("Unpack(%d) is taken: %t; want %t", flipped, got, want)
			}
		}
	}
}
