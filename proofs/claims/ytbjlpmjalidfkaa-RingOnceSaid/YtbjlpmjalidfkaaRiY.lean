/- The document's ring: any call. -/
import Derived.Test.YtbjlpmjalidfkaaRiV
import Derived.Test.YtbjlpmjalidfkaaRiW
import Derived.Test.YtbjlpmjalidfkaaRiX
namespace Go.Proofs.Ytbjlpmjalidfkaa
open Go.RowKit Go.Shelf

theorem rdo_any (w : World) (q n : Nat) (R : Rows) (hR : Ref w q n R) (K N : Int) (hp : ∀ x, x ∈ R.all → 1 ≤ x) (hn : n ≤ 65536) (hs : R.all.length ≤ 1000) : DoSaid q n K N R w := by
  by_cases k0 : K = 0
  · subst k0
    exact rdo_grow w q n R hR N hp hn hs
  by_cases k2 : K = 2
  · subst k2
    exact rdo_grey_2 w q n R hR N hp hs
  by_cases k3 : K = 3
  · subst k3
    exact rdo_grey_3 w q n R hR N hp hs
  by_cases k4 : K = 4
  · subst k4
    exact rdo_grey_4 w q n R hR N hp hs
  by_cases k5 : K = 5
  · subst k5
    exact rdo_begin w q n R hR N hs
  by_cases k6 : K = 6
  · subst k6
    by_cases g : R.grey = []
    · exact rdo_end_some w q n R hR N hs g
    · exact rdo_end_not w q n R hR N hs g
  by_cases g : R.white = []
  · exact rdo_full w q n R hR K N (by omega) hs g
  obtain ⟨c, l, hcl⟩ := List.exists_cons_of_ne_nil g
  by_cases k1 : K = 1
  · subst k1
    exact rdo_alloc_some w q n R hR N hs c l hcl
  · exact rdo_drop_some w q n R hR K N (by omega) hs c l hcl

end Go.Proofs.Ytbjlpmjalidfkaa
