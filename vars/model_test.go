package vars_test

import (
	"slices"
	"strconv"
	"testing"

	"treadwheel/api"
	"treadwheel/parse"
	"treadwheel/show"
	"treadwheel/vars"
)

// The chapter's words from the inside out: what is free in an expression's
// parts, but what the expression binds there.

// but is a list's names that aren't among the others.
func but(list, others []string) []string {
	return slices.DeleteFunc(slices.Clone(list), func(x string) bool { return slices.Contains(others, x) })
}

// joined is the names of lists, each once.
func joined(lists ...[]string) []string {
	var names []string
	for _, x := range slices.Concat(lists...) {
		if !slices.Contains(names, x) {
			names = append(names, x)
		}
	}
	return names
}

func modelFree(e api.Expr) []string {
	var parts [][]string
	if e.Kind == api.EVar {
		parts = append(parts, []string{e.Name})
	}
	var bound []string
	for _, b := range e.Binds {
		bound = append(bound, b.Name)
		parts = append(parts, but(modelFree(b.Body), b.Params))
	}
	for _, k := range e.Kids {
		parts = append(parts, but(modelFree(k), e.Params))
	}
	for _, a := range e.Alts {
		names := a.Names
		if a.Kind == api.AElse {
			names = []string{a.Name}
		}
		parts = append(parts, but(modelFree(a.Body), names))
	}
	return but(joined(parts...), bound)
}

// wantModel holds Free and Body against the model, and answers what is free.
func wantModel(t *testing.T, params []string, e api.Expr) []string {
	t.Helper()
	names := modelFree(e)
	want(t, e, names...)
	wantBody(t, params, e, but(names, params)...)
	return names
}

// draw makes expressions such as layer 8 tells, of a few names.
type draw struct {
	seed  uint64
	names []string
}

func (d *draw) below(n int) int {
	d.seed = d.seed*6364136223846793005 + 1442695040888963407
	return int(d.seed >> 33 % uint64(n))
}

func (d *draw) name() string { return d.names[d.below(len(d.names))] }

func (d *draw) some(least int) []string {
	var some []string
	for range least + d.below(3) {
		some = append(some, d.name())
	}
	return some
}

func (d *draw) kids(n, size int) []api.Expr {
	var kids []api.Expr
	for range n {
		kids = append(kids, d.expr(size))
	}
	return kids
}

func (d *draw) expr(size int) api.Expr {
	if size == 0 || d.below(9) == 0 {
		return []api.Expr{v(d.name()), v(d.name()), v(d.name()), num(int64(d.below(9))), con("C")}[d.below(5)]
	}
	size--
	switch d.below(9) {
	case 0:
		return con("C", d.kids(1+d.below(2), size)...)
	case 1:
		name := []string{"weak", "seq", "deref"}[d.below(3)]
		return op(name, d.kids(1+d.below(3), size)...)
	case 2:
		return op([]string{"+", "==.", "<"}[d.below(3)], d.kids(2, size)...)
	case 3, 4:
		var binds []api.Bind
		for range 1 + d.below(3) {
			binds = append(binds, bind(d.name(), d.some(0), d.expr(size)))
		}
		return let(d.expr(size), binds...)
	case 5, 6:
		var alts []api.Alt
		for range d.below(4) {
			alts = append(alts, d.alt(size))
		}
		return choice(d.expr(size), alts...)
	case 7:
		return lam(d.some(1), d.expr(size))
	}
	kids := d.kids(2+d.below(2), size)
	if kids[0].Kind == api.ECon || kids[0].Kind == api.ENum {
		kids[0] = v(d.name())
	}
	return app(kids...)
}

func (d *draw) alt(size int) api.Alt {
	switch d.below(4) {
	case 0:
		return numAlt(int64(d.below(9)), d.expr(size))
	case 1:
		return elseAlt(d.name(), d.expr(size))
	}
	return conAlt("C", d.some(0), d.expr(size))
}

var letters = []string{"a", "b", "c", "d", "e", "f", "g", "h"}

// TestP121Drawn holds drawn expressions against the model, and as their sources
// tell them.
func TestP121Drawn(t *testing.T) {
	counts := map[int]int{}
	parsed := 0
	for _, names := range [][]string{letters[:1], letters[:2], letters[:3], letters} {
		d := &draw{seed: uint64(len(names)), names: names}
		for range 2500 {
			e, params := d.expr(1+d.below(6)), d.some(0)
			counts[len(wantModel(t, params, e))]++
			if m, f, _ := parse.Parse("m = " + show.Expr(e) + ";"); f == api.OK {
				wantModel(t, params, m.Binds[0].Body)
				parsed++
			}
			if t.Failed() {
				return
			}
		}
	}
	for n := range len(letters) + 1 {
		if counts[n] < 50 {
			t.Errorf("%v: too few of %d names", counts, n)
		}
	}
	if parsed < 9000 {
		t.Errorf("%d: too few were parsed", parsed)
	}
}

// everywhere is all that has one of an expression's parts, itself too, changed.
func everywhere(e api.Expr, change func(api.Expr) api.Expr) []api.Expr {
	some := []api.Expr{change(e)}
	for i, b := range e.Binds {
		for _, part := range everywhere(b.Body, change) {
			x := e
			x.Binds = slices.Clone(e.Binds)
			x.Binds[i].Body = part
			some = append(some, x)
		}
	}
	for i, k := range e.Kids {
		for _, part := range everywhere(k, change) {
			x := e
			x.Kids = slices.Clone(e.Kids)
			x.Kids[i] = part
			some = append(some, x)
		}
	}
	for i, a := range e.Alts {
		for _, part := range everywhere(a.Body, change) {
			x := e
			x.Alts = slices.Clone(e.Alts)
			x.Alts[i].Body = part
			some = append(some, x)
		}
	}
	return some
}

// TestP122Drawn puts what binds a name that isn't free in it around each part of
// drawn expressions.
func TestP122Drawn(t *testing.T) {
	d := &draw{seed: 7, names: letters[:4]}
	count := 0
	for range 300 {
		e := d.expr(1 + d.below(3))
		names := vars.Free(e)
		for i := range binders("new", e) {
			change := func(part api.Expr) api.Expr {
				// k1 and k2 are bound there too, and new is no part's.
				return binders("new", part)[i]
			}
			for _, x := range everywhere(e, change) {
				want(t, x, names...)
				count++
			}
		}
		for _, x := range but(letters, names) {
			for _, outer := range binders(x, e) {
				want(t, outer, names...)
			}
		}
		if t.Failed() {
			return
		}
	}
	if count < 20000 {
		t.Errorf("%d: too few to tell", count)
	}
}

// TestP122DrawnPlain has drawn expressions without binders.
func TestP122DrawnPlain(t *testing.T) {
	d := &draw{seed: 9, names: letters}
	for range 2000 {
		var kids []api.Expr
		var names []string
		for range d.below(12) {
			x := d.name()
			names = append(names, x)
			kids = append(kids, []api.Expr{v(x), app(num(1), v(x)), con("C", num(1), v(x)), op("seq", v(x)), choice(v(x), numAlt(1, num(1))), choice(num(1), numAlt(1, num(1)), conAlt("C", nil, v(x)))}[d.below(6)])
		}
		for len(kids) > 2 {
			at := d.below(len(kids) - 1)
			kids = slices.Replace(kids, at, at+2, app(kids[at], kids[at+1]))
		}
		want(t, app(kids...), joined(names)...)
		if t.Failed() {
			return
		}
	}
}

// TestP121DrawnAround has drawn expressions where a name is bound, and that
// where it isn't.
func TestP121DrawnAround(t *testing.T) {
	d := &draw{seed: 11, names: letters[:3]}
	for i := range 100 {
		e := app(v("c"), d.expr(4), v("b"), v("a"))
		x := letters[i%3]
		for _, outer := range binders(x, e) {
			for _, more := range beside(x, outer) {
				wantModel(t, all("a", "k"+strconv.Itoa(i%3)), more)
			}
		}
		if t.Failed() {
			return
		}
	}
}
