/- The document's example. -/
import Derived.Test.YtpnojoldcfghfaaExM
namespace Go.Proofs.Ytpnojoldcfghfaa
open Go.RowKit Go.Sort

/-- A list that is written out. -/
theorem listed_lit (w : World) (L : List (Int × Int)) : Listed (w.alloc (.cells (flat L).toArray 45)) (some ⟨w.heap.size, 0, none⟩) L := fun _ =>
  ⟨w.heap.size, rfl, by simp, fun k x hx => by
    have := flat_get hx
    rw [World.cell?_alloc_at _ _ _ _ rfl, World.cell?_alloc_at _ _ _ _ rfl, List.getElem?_toArray, List.getElem?_toArray]
    exact this⟩
theorem ex_give : giveB [] (5, 4) [(12, 3)] = [] ++ (5, 4) :: [(12, 3)] := by decide

set_option maxHeartbeats 2000000 in
/-- THE DOCUMENT's EXAMPLE. -/
theorem awake_any (w : World) : Calls Try.prog 7 #[] w fun e w' => e = .returned (.bool true) ∧ Below w.heap.size w w' := by
  go_enter Try.func7, Try.ntmps7
  go_wp2_with fail
  refine (new_some 5 10 _ (by decide) (by decide)).mono ?_
  rintro e w1 ⟨p, g, rfl, hA, hB, lp, lg⟩
  have HA := Lib.hid hA
  have HB := Lib.hid hB
  clear hA hB
  go_wp2_with fail
  refine (take_hit p g 1 5 10 4 [] [] 5 10 w1 HA.out (by decide) (fun x hx => by cases hx) (by decide) (by decide) (by decide) (by decide)).mono ?_
  rintro e w2 ⟨rfl, hA, hq⟩
  have HA2 := Lib.hid (show At w2 p g 1 5 10 [(9, 6)] from hA)
  have HB2 := Lib.hid (HB.out.trans (hq.below lp lg HB.out.size))
  clear hA hq
  go_wp2_with fail
  refine (take_hit p g 1 5 10 3 [] [] 9 6 w2 HA2.out (by decide) (fun x hx => by cases hx) (by decide) (by decide) (by decide) (by decide)).mono ?_
  rintro e w3 ⟨rfl, hA, hq⟩
  have HA3 := Lib.hid (show At w3 p g 1 5 10 ([] ++ [(12, 3)]) from hA)
  have HB3 := Lib.hid (HB2.out.trans (hq.below lp lg HB2.out.size))
  clear hA hq
  go_wp2_with fail
  refine (give_ok p g 1 0 5 10 5 4 [] [(12, 3)] w3 HA3.out (by decide) (by decide) (by decide) (by decide) (by decide) rfl (by decide) (by intro x hx; simp at hx; subst hx; decide) (by intro x hx; simp at hx; subst hx; decide) (fun x hx => by cases hx) (by intro y B' e; cases e; decide) ⟨by decide, by decide, by decide, trivial⟩).mono ?_
  rintro e w4 ⟨rfl, g', cap', m, B', M, h1, hA, hq, hg, hM⟩
  have hM4 : M = [(5, 4), (12, 3)] := by
    rw [ex_give] at h1
    simp at h1
    obtain ⟨rfl, rfl⟩ := h1
    rcases hM with ⟨_, rfl⟩ | ⟨A', z, h, _⟩
    · rfl
    · simp at h
  subst hM4
  have HA4 := Lib.hid hA
  have HB4 := Lib.hid (HB3.out.trans (hq.below lp lg HB3.out.size))
  clear hA hq hM h1 hg
  go_wp2_with fail
  refine (list_at p g' cap' 5 10 _ w4 HA4.out (by decide)).mono ?_
  rintro e w5 ⟨ao, c, rfl, hL, hb⟩
  have HA5 := Lib.hid (HA4.out.later hb)
  have HB5 := Lib.hid (onB HB4.out hb)
  have HL := Lib.hid hL
  clear hb hL
  go_wp2_with fail
  refine (same_any ao (some ⟨w5.heap.size, 0, none⟩) 2 c 2 [(5, 4), (12, 3)] _ rfl (HL.out.later ((Below.refl _ _).alloc (Nat.le_refl _) _)) (listed_lit w5 [(5, 4), (12, 3)]) (by decide)).mono ?_
  rintro e w6 ⟨rfl, hb⟩
  have HA6 := Lib.hid ((HA5.out.later ((Below.refl _ _).alloc (Nat.le_refl _) _)).later hb)
  have HB6 := Lib.hid (onB (HB5.out.alloc HB5.out.size _) hb)
  clear hb
  go_wp2_with fail
  refine (free_at p g' cap' 5 10 _ w6 HA6.out (by decide) ⟨by decide, by decide, by decide, by decide, by decide, by decide, trivial⟩ (by decide) (by decide)).mono ?_
  rintro e w7 ⟨rfl, hb⟩
  have HB7 := Lib.hid (onB HB6.out hb)
  clear hb
  have ht : total [((5 : Int), (4 : Int)), (12, 3)] = 7 := by decide
  go_wp2_with fail
  go_ret
  exact ⟨rfl, HB7.out⟩

end Go.Proofs.Ytpnojoldcfghfaa
