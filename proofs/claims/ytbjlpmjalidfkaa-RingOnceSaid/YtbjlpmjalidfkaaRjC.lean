/- The document's row of all cells. -/
import Derived.Test.YtbjlpmjalidfkaaRiR
import Derived.Deep.DeepCutAuto
namespace Go.Proofs.Ytbjlpmjalidfkaa
open Go.RowKit Go.Shelf

set_option maxHeartbeats 4000000 in
theorem ref_around (v0 v1 v2 v3 : Value) (R : Rows) (lo hi : Nat) (w : World) (ha : Fours w lo hi v0 v1 v2 v3 R) (hs : R.all.length ≤ 1000) (h1 : hi ≤ w.heap.size) :
    Calls Try.prog 13 #[.agg #[v0, v1, v2, v3]] w fun e w' => ∃ v, e = .returned v ∧ Row w' w.heap.size w'.heap.size v R.all ∧ Below w.heap.size w w' := by
  have hsum : R.white.length + R.frm.length + R.grey.length + R.black.length ≤ 1000 := by
    have : R.all.length = R.white.length + (R.frm.length + (R.grey.length + R.black.length)) := by unfold Rows.all; simp
    omega
  have hB := (Below.refl w.heap.size w).alloc (Nat.le_refl _) (.cells #[v0, v1, v2, v3] 40)
  have ha' := ha.below hB h1
  have c0 : (w.alloc (.cells #[v0, v1, v2, v3] 40)).cell? ⟨w.heap.size, 0, none⟩ = some v0 := by simp [go_sem]
  have c1 : (w.alloc (.cells #[v0, v1, v2, v3] 40)).cell? ⟨w.heap.size, 1, none⟩ = some v1 := by simp [go_sem]
  have c2 : (w.alloc (.cells #[v0, v1, v2, v3] 40)).cell? ⟨w.heap.size, 2, none⟩ = some v2 := by simp [go_sem]
  have c3 : (w.alloc (.cells #[v0, v1, v2, v3] 40)).cell? ⟨w.heap.size, 3, none⟩ = some v3 := by simp [go_sem]
  have hz : (w.alloc (.cells #[v0, v1, v2, v3] 40)).heap.size = w.heap.size + 1 := by simp
  go_enter Try.func13, Try.ntmps13
  go_upto_region 1 with fail
  generalize (w.alloc (.cells #[v0, v1, v2, v3] 40)) = W1 at *
  obtain ⟨⟨o0, p0, e0, -⟩, ⟨o1, p1, e1, -⟩, ⟨o2, p2, e2, -⟩, ⟨o3, p3, e3, -⟩⟩ := ha
  subst e0 e1 e2 e3
  have hb1 : Below W1.heap.size W1 (W1.alloc (.cells #[] 3)) := (Below.refl _ _).alloc (Nat.le_refl _) _
  have d0 := later' hb1 c0
  have HS := Lib.hid (And.intro ((ha'.1.below hb1 (by omega)).src) (And.intro hb1 (And.intro (show hi ≤ W1.heap.size by omega) (And.intro hB hz))))
  have HA := Lib.hid ha'
  have HC := Lib.hid (And.intro c0 (And.intro c1 (And.intro c2 c3)))
  clear ha' hb1 hB hz h1 c0 c1 c2 c3
  go_wp2_with (first
    | (at_builtin; refine list_onto rfl (.tmp 4) (.tmp 6) rfl _ W1.heap.size 0 _ [] rfl (own_nil W1) _ R.white rfl HS.out.1 R.white.length ?b1 ?b2 ?b3 ?_; (case b1 => omega); (case b2 => omega); (case b3 => exact HS.out.2.1.size); intro ao1 cap1 w2 hown1 hgr1; have hb2 := below_onto HS.out.2.1 (own_nil W1) HS.out.2.1.size hgr1; have q1 := later' hb2 HC.out.2.1; have hsr1 := (HA.out.2.1.below hb2 HS.out.2.2.1).src; clear hgr1)
    | (at_builtin; refine list_onto rfl (.tmp 8) (.tmp 10) rfl _ W1.heap.size R.white.length _ ([] ++ R.white) rfl hown1 _ R.frm rfl hsr1 (R.white.length + R.frm.length) ?b1 ?b2 ?b3 ?_; (case b1 => rfl); (case b2 => omega); (case b3 => exact hb2.size); intro ao2 cap2 w3 hown2 hgr2; have hb3 := below_onto hb2 hown1 hb2.size hgr2; have q2 := later' hb3 HC.out.2.2.1; have hsr2 := (HA.out.2.2.1.below hb3 HS.out.2.2.1).src; clear hgr2)
    | (at_builtin; refine list_onto rfl (.tmp 12) (.tmp 14) rfl _ W1.heap.size (R.white.length + R.frm.length) _ ([] ++ R.white ++ R.frm) rfl hown2 _ R.grey rfl hsr2 (R.white.length + R.frm.length + R.grey.length) ?b1 ?b2 ?b3 ?_; (case b1 => rfl); (case b2 => omega); (case b3 => exact hb3.size); intro ao3 cap3 w4 hown3 hgr3; have hb4 := below_onto hb3 hown2 hb3.size hgr3; have q3 := later' hb4 HC.out.2.2.2; have hsr3 := (HA.out.2.2.2.below hb4 HS.out.2.2.1).src; clear hgr3)
    | (at_builtin; refine list_onto rfl (.tmp 16) (.tmp 18) rfl _ W1.heap.size (R.white.length + R.frm.length + R.grey.length) _ ([] ++ R.white ++ R.frm ++ R.grey) rfl hown3 _ R.black rfl hsr3 (R.white.length + R.frm.length + R.grey.length + R.black.length) ?b1 ?b2 ?b3 ?_; (case b1 => rfl); (case b2 => omega); (case b3 => exact hb4.size); intro ao4 cap4 w5 hown4 hgr4; have hb5 := below_onto hb4 hown3 hb4.size hgr4; clear hgr4))
  go_ret
  have he : [] ++ R.white ++ R.frm ++ R.grey ++ R.black = R.all := by unfold Rows.all; simp
  rw [he] at hown4
  exact ⟨_, rfl, (Row.of_own hown4).mono (by have := HS.out.2.2.2.2; omega) (Nat.le_refl _), onB' HS.out.2.2.2.1 hb5⟩

set_option maxHeartbeats 1000000 in
theorem ref_all (w : World) (q n : Nat) (R : Rows) (hR : Ref w q n R) (hs : R.all.length ≤ 1000) :
    Calls Try.prog 78 #[.pointer (some ⟨q, 0, none⟩)] w fun e w' => ∃ v, e = .returned v ∧ Row w' w.heap.size w'.heap.size v R.all ∧ Below w.heap.size w w' := by
  obtain ⟨v0, v1, v2, v3, c0, c1, c2, c3, -, -, hF, -⟩ := hR
  have HA := Lib.hid (ref_around v0 v1 v2 v3 R _ _ w hF hs (Nat.le_refl _))
  clear hF
  go_enter Try.func78, Try.ntmps78
  go_wp2_with fail
  refine HA.out.mono ?_
  rintro e w2 ⟨v, rfl, hr, hb⟩
  have HR := Lib.hid (And.intro hr hb)
  clear hr hb HA
  go_wp2_with fail
  go_ret
  exact ⟨_, rfl, HR.out.1, HR.out.2⟩

end Go.Proofs.Ytbjlpmjalidfkaa
