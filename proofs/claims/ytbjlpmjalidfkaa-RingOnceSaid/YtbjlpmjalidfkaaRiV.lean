/- The document's ring: Begin, End. -/
import Derived.Test.YtbjlpmjalidfkaaRiU
import Derived.Deep.DeepCutAuto
namespace Go.Proofs.Ytbjlpmjalidfkaa
open Go.RowKit Go.Shelf

theorem Row.of_nil (W : World) (lo hi : Nat) : Row W lo hi (.slice none 0 0) [] := ⟨none, 0, rfl, fun h => absurd h (Nat.not_lt_zero _)⟩

set_option maxHeartbeats 4000000 in
theorem rdo_begin (w : World) (q n : Nat) (R : Rows) (hR : Ref w q n R) (N : Int) (hs : R.all.length ≤ 1000) : DoSaid q n 5 N R w := by
  obtain ⟨v, hO⟩ := hR.op
  have hst := two_st hO 5 N
  have q0 := hst.cell 0 (by decide)
  have q1 := hst.cell 1 (by decide)
  have q2 := hst.cell 2 (by decide)
  have q3 := hst.cell 3 (by decide)
  obtain ⟨a0, s0, e0, -⟩ := hO.row 0 (by decide)
  obtain ⟨a1, s1, e1, -⟩ := hO.row 1 (by decide)
  obtain ⟨a2, s2, e2, -⟩ := hO.row 2 (by decide)
  obtain ⟨a3, s3, e3, -⟩ := hO.row 3 (by decide)
  rw [e0] at q0
  rw [e1] at q1
  rw [e2] at q2
  rw [e3] at q3
  change (twoBoxes w 5 N).cell? ⟨q, 0, none⟩ = some (.slice a0 R.white.length (R.white.length + s0)) at q0
  change (twoBoxes w 5 N).cell? ⟨q, 1, none⟩ = some (.slice a1 R.frm.length (R.frm.length + s1)) at q1
  change (twoBoxes w 5 N).cell? ⟨q, 2, none⟩ = some (.slice a2 R.grey.length (R.grey.length + s2)) at q2
  change (twoBoxes w 5 N).cell? ⟨q, 3, none⟩ = some (.slice a3 R.black.length (R.black.length + s3)) at q3
  have z0 := hst.fz 0
  have z1 := hst.fz 1
  have z2 := hst.fz 2
  have z3 := hst.fz 3
  have r0 := hst.r0
  have r1 := hst.r1
  have r2 := hst.r2
  have y0 := hst.rz 0
  have y1 := hst.rz 1
  have y2 := hst.rz 2
  have hb := two_below w 5 N
  have hzz := two_size w 5 N
  have hac := two_act w 5 N
  have x0 := hac.1
  have x1 := hac.2
  have lq := hO.lq
  have hs0 := (all_le hs).1
  have hs1 := (all_le hs).2.1
  have hs2 := (all_le hs).2.2.1
  have hs3 := (all_le hs).2.2.2
  have hq1 : q ≠ w.heap.size := by omega
  have hq2 : q ≠ w.heap.size + 1 := by omega
  have htell : tellC 5 R = 0 ∧ tellB 5 R = false := ⟨rfl, rfl⟩
  have hz0 : IntKind.i64.wrap ((R.frm.length : Int) + (R.grey.length : Int)) = (R.frm.length : Int) + (R.grey.length : Int) := by rw [IntKind.wrap_i64]; omega
  have HO := Lib.hid hO
  have HS := Lib.hid (And.intro hst (And.intro hb hzz))
  have HE := Lib.hid (And.intro e0 (And.intro e1 (And.intro e2 e3)))
  unfold DoSaid
  rw [htell.1, htell.2]
  by_cases g : R.frm = [] ∧ R.grey = []
  · have g1 : (R.frm.length : Int) + (R.grey.length : Int) = 0 := by rw [g.1, g.2]; rfl
    have g2 : decide (0 < (R.frm.length : Int) + (R.grey.length : Int)) = false := decide_eq_false (by omega)
    have ha : after n 5 N R = R.begin := by unfold after; simp [g]
    have he : tellE n 5 N R = 0 := by unfold tellE; simp [g]
    rw [ha, he]
    clear hO hst hb hzz hac hR htell ha he e0 e1 e2 e3
    go_enter Try.func12, Try.ntmps12
    go_upto_region 9 with fail
    change Code.wp _ _ _ _ (twoBoxes w 5 N)
    generalize twoBoxes w 5 N = W at *
    go_quiet (fail)
    go_wp2_with fail
    have hS := ((HS.out.1.later (W' := W.drewN nq) ⟨rfl, rfl, rfl, Nat.le_refl _, fun _ _ => rfl⟩).put 1 (by decide) (.slice a3 R.black.length (R.black.length + s3))).put 3 (by decide) (.slice none 0 0)
    have hd := hS.done (R' := R.begin) HO.out 0 false 0 (fun k hk => by
      have h1 := HS.out.2.1
      have h2 := HS.out.2.2
      obtain rfl | rfl | rfl | rfl : k = 0 ∨ k = 1 ∨ k = 2 ∨ k = 3 := by omega
      · exact Or.inl ⟨rfl, rfl⟩
      · refine Or.inr ⟨q + 1, w.heap.size, Or.inr (Nat.le_succ _), Nat.lt_succ_self _, by simp [World.setCell, World.drewN]; omega, ?_⟩
        rw [if_neg (by decide), if_pos rfl]
        have hrow := (HO.out.row 3 (by decide))
        rw [HE.out.2.2.2] at hrow
        exact ((hrow.below h1 (Nat.le_refl _)).set _ _ _ (Or.inl (Nat.lt_succ_self _))).set _ _ _ (Or.inl (Nat.lt_succ_self _))
      · exact Or.inl ⟨rfl, rfl⟩
      · exact Or.inr ⟨w.heap.size + 2, w.heap.size + 2, Or.inl (by omega), by omega, by simp [World.setCell, World.drewN]; omega, by rw [if_pos rfl]; exact Row.of_nil _ _ _⟩)
    obtain ⟨t0, t1, t2⟩ := hS.told 0 false 0
    unfold tolds at hd t0 t1 t2
    exact bodyPost_ret (v := told 0 false 0) (by simp [told, results, Try.results12, go_sem, t0, t1, t2]) rfl ⟨rfl, hd⟩
  · have g1 : 0 < (R.frm.length : Int) + (R.grey.length : Int) := by
      rcases Nat.eq_zero_or_pos R.frm.length with h1 | h1
      · rcases Nat.eq_zero_or_pos R.grey.length with h2 | h2
        · exact absurd ⟨List.eq_nil_of_length_eq_zero h1, List.eq_nil_of_length_eq_zero h2⟩ g
        · omega
      · omega
    have ha : after n 5 N R = R := by unfold after; simp [g]
    have he : tellE n 5 N R = 18 := by unfold tellE; simp [g]
    rw [ha, he]
    clear hO hst hb hzz hac hR htell ha he e0 e1 e2 e3
    go_enter Try.func12, Try.ntmps12
    go_upto_region 9 with fail
    change Code.wp _ _ _ _ (twoBoxes w 5 N)
    generalize twoBoxes w 5 N = W at *
    go_quiet (fail)
    go_wp2_with fail
    have hS := HS.out.1.later (W' := W.drewN nq) ⟨rfl, rfl, rfl, Nat.le_refl _, fun _ _ => rfl⟩
    have hd := hS.done (R' := R) HO.out 0 false 18 (fun k hk => Or.inl ⟨rfl, rfl⟩)
    obtain ⟨t0, t1, t2⟩ := hS.told 0 false 18
    unfold tolds at hd t0 t1 t2
    exact bodyPost_ret (v := told 0 false 18) (by simp [told, results, Try.results12, go_sem, t0, t1, t2]) rfl ⟨rfl, hd⟩

end Go.Proofs.Ytbjlpmjalidfkaa
