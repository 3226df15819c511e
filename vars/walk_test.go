package vars

import (
	"testing"

	"treadwheel/api"
)

// TestOutsideBrokenOff breaks the range off at each name: none is told behind,
// whatever the expression is.
func TestOutsideBrokenOff(t *testing.T) {
	x := api.Expr{Kind: api.EVar, Name: "x"}
	three := []api.Expr{x, x, x}
	lam := api.Expr{Kind: api.ELam, Params: []string{"y"}, Kids: three}
	let := api.Expr{Kind: api.ELet, Binds: []api.Bind{{Name: "a", Body: x}, {Name: "b", Params: []string{"y"}, Body: x}}, Kids: []api.Expr{x}}
	choice := api.Expr{Kind: api.ECase, Kids: []api.Expr{x}, Alts: []api.Alt{{Kind: api.ACon, Names: []string{"y"}, Body: x}, {Kind: api.AElse, Name: "y", Body: x}, {Kind: api.ANum, Body: x}}}
	e := api.Expr{Kind: api.EApp, Kids: []api.Expr{lam, let, choice, x}}
	for most := 1; most <= 12; most++ {
		told := 0
		for name := range outside([]string{"y"}, e) {
			if told++; name != "x" || told == most {
				break
			}
		}
		if want := min(most, 11); told != want {
			t.Errorf("broken off at %d: %d told, want %d", most, told, want)
		}
	}
}
