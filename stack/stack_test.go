package stack_test

import (
	"math"
	"slices"
	"testing"

	"treadwheel/api"
	"treadwheel/stack"
)

// frame is one of these words; its node tells how many there are.
func frame(words ...int64) api.Frame {
	return api.Frame{Kind: api.FCase, Node: len(words), Words: words}
}

// long is a frame of so many words.
func long(words int) api.Frame { return frame(make([]int64, words)...) }

func isZero(f api.Frame) bool { return f.Kind == 0 && f.Node == 0 && len(f.Words) == 0 }

func TestP151Example(t *testing.T) {
	p := made(t, 6)
	p.push(frame(1, 2), api.OK)
	p.push(frame(3), api.ErrStack)
	p.push(frame(), api.OK)
	if n := p.s.Used(); n != 6 {
		t.Errorf("Used() = %d; want 6", n)
	}
}

func TestP151New(t *testing.T) {
	for _, room := range []int{-1, -2, 4097, 4098, 65536, 1 << 32, 1<<32 + 1, -1 << 32, math.MinInt, math.MaxInt} {
		if s, e := stack.New(room); s != nil || e != api.ErrRange {
			t.Errorf("New(%d) = %v, %d; want nil, ErrRange", room, s, e)
		}
	}
	for _, room := range []int{0, 1, 2, 3, 4095, 4096} {
		p := made(t, room)
		if f, ok := p.s.Top(); ok || !isZero(f) {
			t.Errorf("Top() = %+v, %v in a stack of room %d without frames", f, ok, room)
		}
		if f, fresh, ok := p.s.Pop(); ok || fresh || !isZero(f) {
			t.Errorf("Pop() = %+v, %v, %v in a stack of room %d without frames", f, fresh, ok, room)
		}
		if f, ok := p.s.Scan(); ok || !isZero(f) {
			t.Errorf("Scan() = %+v, %v in a stack of room %d without frames", f, ok, room)
		}
		if l := p.s.List(); len(l) != 0 {
			t.Errorf("List() = %+v in a stack of room %d without frames", l, room)
		}
		if n := p.s.Len() + p.s.Used() + p.s.Left(); n != 0 {
			t.Errorf("Len, Used and Left add up to %d in a stack of room %d without frames", n, room)
		}
		p.check()
	}
}

// A frame fits where the room that is left is its words and two, or more.
func TestP151PushFits(t *testing.T) {
	for _, room := range []int{0, 1, 2, 3, 4, 7, 64, 66, 4095, 4096} {
		for _, below := range []int{-1, 0, 1, 2, 5, 64} {
			p := made(t, room)
			rest := room
			if below >= 0 { // frames of so many words lie there first
				for rest >= below+2 && rest > room/2 {
					p.push(long(below), api.OK)
					rest -= below + 2
				}
			}
			p.push(long(max(0, rest-1)), api.ErrStack) // one word too many
			p.push(long(5000), api.ErrStack)
			if rest < 2 {
				p.push(frame(), api.ErrStack)
				continue
			}
			p.push(long(rest-2), api.OK)
			p.push(frame(), api.ErrStack)
			if n := p.s.Used(); n != room {
				t.Errorf("Used() = %d; want all of %d", n, room)
			}
		}
	}
}

// A Push that doesn't fit changes nothing, and a smaller one may fit behind it.
func TestP151PushFull(t *testing.T) {
	p := made(t, 10)
	p.push(frame(1, 2, 3), api.OK)
	p.begin()
	p.push(frame(4, 5, 6, 7), api.ErrStack)
	p.push(frame(4, 5), api.OK)
	p.push(frame(), api.ErrStack)
	p.push(frame(9), api.ErrStack)
	p.scan()
	p.push(frame(), api.ErrStack)
	p.pop()
	p.push(frame(1, 2, 3, 4), api.ErrStack)
	p.push(frame(1, 2, 3), api.OK)
}

// What is taken off leaves its room, and all of it may be had anew.
func TestP151PopGivesRoom(t *testing.T) {
	p := made(t, 20)
	for round := range 4 {
		for p.used()+round+2 <= 20 {
			p.push(long(round), api.OK)
		}
		p.push(long(round), api.ErrStack)
		for len(p.want) > 0 {
			p.pop()
		}
		p.pop()
		p.push(long(18), api.OK)
		p.pop()
	}
}

func TestP151Order(t *testing.T) {
	p := made(t, 100)
	for i := range 20 {
		p.push(api.Frame{Kind: i, Node: 50 - i, Words: []int64{int64(i), int64(-i)}}, api.OK)
	}
	for i, f := range p.s.List() {
		if f.Kind != i || f.Node != 50-i || !slices.Equal(f.Words, []int64{int64(i), int64(-i)}) {
			t.Errorf("List()[%d] = %+v", i, f)
		}
	}
	for i := 19; i >= 0; i-- {
		if f, ok := p.s.Top(); !ok || f.Kind != i {
			t.Errorf("Top() = %+v, %v; want the one of kind %d", f, ok, i)
		}
		if f, fresh, ok := p.s.Pop(); !ok || fresh || f.Kind != i {
			t.Errorf("Pop() = %+v, %v, %v; want the one of kind %d", f, fresh, ok, i)
		}
	}
}

// A frame's kind, node and words may be any numbers, and two may be alike.
func TestP151AnyNumbers(t *testing.T) {
	p := made(t, 4096)
	for _, kind := range []int{0, api.FUpdate, api.FCase, api.FArgs, 4, -1, math.MinInt, math.MaxInt} {
		for _, node := range []int{0, 1, -1, 4096, math.MinInt, math.MaxInt} {
			for range 2 {
				p.push(api.Frame{Kind: kind, Node: node, Words: []int64{0, -1, math.MinInt64, math.MaxInt64}}, api.OK)
			}
		}
	}
	p.push(api.Frame{}, api.OK)
	p.push(api.Frame{Words: []int64{}}, api.OK)
	p.begin()
	for len(p.want) > 0 {
		p.scan()
		p.pop()
		p.pop()
	}
}

// As many frames as can be, and as long a one.
func TestP151Largest(t *testing.T) {
	p := made(t, 4096)
	p.push(long(4095), api.ErrStack)
	p.push(long(4094), api.OK)
	p.pop()
	for i := range 2048 {
		if e := p.s.Push(api.Frame{Kind: api.FArgs, Node: i}); e != api.OK {
			t.Fatalf("Push number %d = %d", i, e)
		}
		p.want = append(p.want, marked{api.Frame{Kind: api.FArgs, Node: i}, false})
	}
	p.check()
	p.push(frame(), api.ErrStack)
	p.begin()
	for range 1000 {
		p.s.Scan()
	}
	if n := p.s.Left(); n != 1048 {
		t.Errorf("Left() = %d; want 1048", n)
	}
	for i := 2047; i >= 0; i-- {
		if f, fresh, ok := p.s.Pop(); !ok || f.Node != i || fresh != (i < 1048) {
			t.Fatalf("Pop() = %+v, %v, %v; want node %d", f, fresh, ok, i)
		}
	}
	p.want = nil
	p.check()
}

// A stack that was deep, then lower, then deep again, keeps what lies below.
func TestP151DeepAndLow(t *testing.T) {
	p := made(t, 3000)
	node := 0
	for _, depth := range []int{500, 3, 4, 2, 7, 0, 1, 0, 300, 150, 301, 100, 199, 200, 99, 500, 0} {
		for len(p.want) > depth {
			p.pop()
		}
		for len(p.want) < depth {
			node++
			p.push(api.Frame{Kind: api.FCase, Node: node, Words: []int64{int64(node)}}, api.OK)
		}
	}
}

// What is handed in stays as it was, its spare room too, and isn't kept.
func TestP151HandedIn(t *testing.T) {
	p := made(t, 100)
	whole := []int64{1, 2, 3, 4, 5}
	for n := range 5 {
		p.push(api.Frame{Kind: api.FArgs, Words: whole[:n]}, api.OK)
		p.begin()
		p.scan()
	}
	p.push(api.Frame{Words: make([]int64, 99)}, api.ErrStack)
	if !slices.Equal(whole, []int64{1, 2, 3, 4, 5}) {
		t.Errorf("Push changed what was handed in: %v", whole)
	}
	for i := range whole {
		whole[i] = 77
	}
	p.check()
	for len(p.want) > 0 {
		p.pop()
	}
}

// spoil writes into all that an answer has, its spare room too.
func spoil(f api.Frame) {
	for i := range f.Words[:cap(f.Words)] {
		f.Words[:cap(f.Words)][i] = 66
	}
}

// Answers are new memory: neither the stack's nor one another's.
func TestP151HandedOut(t *testing.T) {
	p := made(t, 100)
	for i := range 6 {
		p.push(frame(int64(i), int64(10+i), int64(20+i)), api.OK)
	}
	p.begin()
	for range 6 {
		f, _ := p.s.Top()
		g, _ := p.s.Top()
		spoil(f)
		if w, _ := p.top(); !same(g, w.Frame) {
			t.Fatalf("two answers of Top() share their words: %+v", g)
		}
		first, second := p.s.List(), p.s.List()
		for i, f := range first {
			spoil(f)
			for j, g := range first[i+1:] {
				if !same(g, p.want[i+1+j].Frame) {
					t.Fatalf("two frames of List() share their words: %+v", first)
				}
			}
		}
		clear(first[:cap(first)])
		for i, f := range second {
			if !same(f, p.want[i].Frame) {
				t.Fatalf("two answers of List() share their words: %+v", second)
			}
		}
		p.check()
		f, _ = p.s.Scan()
		spoil(f)
		for i := range p.want {
			p.want[i].fresh = i < p.s.Left()
		}
		p.check()
	}
	p.begin()
	for len(p.want) > 0 {
		l := p.s.List()
		want, _ := p.top()
		f, _, _ := p.s.Pop()
		spoil(f)
		p.want = p.want[:len(p.want)-1]
		p.check()
		if g := l[len(l)-1]; !same(g, want.Frame) {
			t.Fatalf("Pop()'s answer shares its words with List()'s: %+v", g)
		}
	}
}

// What was handed out stays as it is, whatever the stack is told behind that.
func TestP151HandedOutStays(t *testing.T) {
	p := made(t, 100)
	p.push(frame(1, 2), api.OK)
	p.push(frame(3, 4), api.OK)
	list := p.s.List()
	top, _ := p.s.Top()
	p.begin()
	scanned, _ := p.s.Scan()
	popped, _, _ := p.s.Pop()
	p.want = p.want[:1]
	for i := range 8 {
		p.push(frame(int64(50+i), int64(60+i)), api.OK)
	}
	for range 9 {
		p.pop()
	}
	p.push(frame(7, 8, 9), api.OK)
	for _, f := range []api.Frame{list[1], top, scanned, popped} {
		if !same(f, frame(3, 4)) {
			t.Errorf("a frame that was handed out is %+v now", f)
		}
	}
	if !same(list[0], frame(1, 2)) || len(list) != 2 {
		t.Errorf("List()'s answer is %+v now", list)
	}
}

// Stacks keep out of each other's way.
func TestP151Apart(t *testing.T) {
	p, q := made(t, 40), made(t, 40)
	shared := frame(1, 2, 3)
	p.push(shared, api.OK)
	q.push(shared, api.OK)
	p.begin()
	q.check()
	q.push(frame(4), api.OK)
	q.begin()
	p.scan()
	q.check()
	q.pop()
	p.check()
	q.pop()
	p.check()
	p.pop()
}

func TestP152Scan(t *testing.T) {
	p := made(t, 60)
	for i := range 5 {
		p.push(frame(int64(i)), api.OK)
	}
	p.scan() // without a Begin there is none to be scanned
	p.begin()
	for left := 5; left > 0; left-- {
		if n := p.s.Left(); n != left {
			t.Errorf("Left() = %d; want %d", n, left)
		}
		if f, ok := p.s.Scan(); !ok || !same(f, frame(int64(left-1))) {
			t.Errorf("Scan() = %+v, %v; want the word %d", f, ok, left-1)
		}
	}
	for range 2 {
		if f, ok := p.s.Scan(); ok || !isZero(f) {
			t.Errorf("Scan() = %+v, %v; want none", f, ok)
		}
	}
	if n := p.s.Left(); n != 0 {
		t.Errorf("Left() = %d; want 0", n)
	}
	if n, used := p.s.Len(), p.s.Used(); n != 5 || used != 15 {
		t.Errorf("behind the scans there are %d frames of %d words; want 5 of 15", n, used)
	}
}

// Frames that come in behind a Begin aren't to be scanned, be it by Scan or Pop.
func TestP152PushedBehind(t *testing.T) {
	p := made(t, 60)
	p.push(frame(1), api.OK)
	p.push(frame(2), api.OK)
	p.begin()
	p.push(frame(3), api.OK)
	p.push(frame(4), api.OK)
	if n := p.s.Left(); n != 2 {
		t.Errorf("Left() = %d; want 2", n)
	}
	if f, ok := p.s.Scan(); !ok || !same(f, frame(2)) {
		t.Errorf("Scan() = %+v, %v; want the word 2", f, ok)
	}
	p.want[1].fresh = false
	p.check()
	p.pop()
	p.pop()
	p.pop()
	p.push(frame(5), api.OK) // where a scanned one lay
	p.pop()
	p.pop() // it was still to be scanned
	p.push(frame(6), api.OK)
	p.push(frame(7), api.OK) // where one lay that was to be scanned
	if n := p.s.Left(); n != 0 {
		t.Errorf("Left() = %d; want 0", n)
	}
	p.scan()
}

// A Begin begins anew, wherever the last one's scan is.
func TestP152BeginAnew(t *testing.T) {
	for scans := range 6 {
		for pops := range 5 {
			for pushes := range 4 {
				p := made(t, 60)
				for i := range 4 {
					p.push(frame(int64(i)), api.OK)
				}
				p.begin()
				for range scans {
					p.scan()
				}
				for range pops {
					p.pop()
				}
				for i := range pushes {
					p.push(frame(int64(10+i), 5), api.OK)
				}
				p.begin()
				if n := p.s.Left(); n != 4-pops+pushes {
					t.Fatalf("Left() = %d; want %d", n, 4-pops+pushes)
				}
				p.begin()
				for range 4 - pops + pushes + 1 {
					p.scan()
				}
			}
		}
	}
}

func TestP152BeginOfNone(t *testing.T) {
	p := made(t, 9)
	p.begin()
	p.scan()
	p.push(frame(1), api.OK)
	p.scan()
	p.pop()
	p.begin()
	p.pop()
	p.scan()
}

func TestP152PopSays(t *testing.T) {
	for scans := range 5 {
		p := made(t, 60)
		for i := range 4 {
			p.push(frame(int64(i)), api.OK)
		}
		p.begin()
		for range scans {
			p.scan()
		}
		for i := 3; i >= 0; i-- {
			want := i < 4-scans
			if f, fresh, ok := p.s.Pop(); !ok || fresh != want || !same(f, frame(int64(i))) {
				t.Errorf("behind %d scans Pop() = %+v, %v, %v; want the word %d, %v", scans, f, fresh, ok, i, want)
			}
			if n := p.s.Left(); n != min(i, 4-scans) {
				t.Errorf("behind %d scans and a Pop Left() = %d; want %d", scans, n, min(i, 4-scans))
			}
		}
	}
}

// Of the frames of a Begin each is told just once, by Scan or by Pop, and no
// other one is; whatever comes and goes between.
func TestP153JustOnce(t *testing.T) {
	draw := draws()
	for range 400 {
		s, _ := stack.New(200)
		node := 0
		push := func() {
			node++
			s.Push(drawn(draw, node, 4))
		}
		for range draw(30) {
			push()
		}
		var of, told []int
		for range 3 { // Begins, the later ones behind all was told
			s.Begin()
			of, told = nil, nil
			for _, f := range s.List() {
				of = append(of, f.Node)
			}
			for calls := 0; s.Left() > 0; calls++ {
				if calls == 10000 {
					t.Fatalf("behind %d calls %d are still to be told", calls, s.Left())
				}
				switch draw(3) {
				case 0:
					push()
				case 1:
					if f, fresh, ok := s.Pop(); ok && fresh {
						told = append(told, f.Node)
					}
				default:
					if f, ok := s.Scan(); ok {
						told = append(told, f.Node)
					}
				}
			}
			slices.Reverse(told) // from the top downwards, whoever tells
			if !slices.Equal(told, of) {
				t.Fatalf("told, from below: %v; want %v", told, of)
			}
			if f, ok := s.Scan(); ok {
				t.Fatalf("Scan() = %+v, though all were told", f)
			}
			for range s.Len() - draw(s.Len()+1) {
				if f, fresh, _ := s.Pop(); fresh {
					t.Fatalf("Pop() = %+v, still to be scanned, though all were told", f)
				}
			}
			push()
		}
	}
}
