/- The document's ring: End. -/
import Derived.Test.YtbjlpmjalidfkaaRiU
import Derived.Deep.DeepCutAuto
namespace Go.Proofs.Ytbjlpmjalidfkaa
open Go.RowKit Go.Shelf


set_option maxHeartbeats 4000000 in
theorem rdo_end_not (w : World) (q n : Nat) (R : Rows) (hR : Ref w q n R) (N : Int) (hs : R.all.length ≤ 1000) (g : R.grey ≠ []) : DoSaid q n 6 N R w := by
  obtain ⟨v, hO⟩ := hR.op
  have hst := two_st hO 6 N
  have q0 := hst.cell 0 (by decide)
  have q1 := hst.cell 1 (by decide)
  have q2 := hst.cell 2 (by decide)
  have q3 := hst.cell 3 (by decide)
  obtain ⟨a0, s0, e0, -⟩ := hO.row 0 (by decide)
  obtain ⟨a1, s1, e1, -⟩ := hO.row 1 (by decide)
  obtain ⟨a2, s2, e2, -⟩ := hO.row 2 (by decide)
  obtain ⟨a3, s3, e3, -⟩ := hO.row 3 (by decide)
  rw [e0] at q0
  rw [e1] at q1
  rw [e2] at q2
  rw [e3] at q3
  change (twoBoxes w 6 N).cell? ⟨q, 0, none⟩ = some (.slice a0 R.white.length (R.white.length + s0)) at q0
  change (twoBoxes w 6 N).cell? ⟨q, 1, none⟩ = some (.slice a1 R.frm.length (R.frm.length + s1)) at q1
  change (twoBoxes w 6 N).cell? ⟨q, 2, none⟩ = some (.slice a2 R.grey.length (R.grey.length + s2)) at q2
  change (twoBoxes w 6 N).cell? ⟨q, 3, none⟩ = some (.slice a3 R.black.length (R.black.length + s3)) at q3
  have z0 := hst.fz 0
  have z1 := hst.fz 1
  have z2 := hst.fz 2
  have z3 := hst.fz 3
  have r0 := hst.r0
  have r1 := hst.r1
  have r2 := hst.r2
  have y0 := hst.rz 0
  have y1 := hst.rz 1
  have y2 := hst.rz 2
  have hb := two_below w 6 N
  have hzz := two_size w 6 N
  have hac := two_act w 6 N
  have x0 := hac.1
  have x1 := hac.2
  have lq := hO.lq
  have hs0 := (all_le hs).1
  have hs1 := (all_le hs).2.1
  have hs2 := (all_le hs).2.2.1
  have hs3 := (all_le hs).2.2.2
  have hq1 : q ≠ w.heap.size := by omega
  have hq2 : q ≠ w.heap.size + 1 := by omega
  have htell : tellC 6 R = 0 ∧ tellB 6 R = false := ⟨rfl, rfl⟩
  have HO := Lib.hid hO
  have HS := Lib.hid hst
  unfold DoSaid
  rw [htell.1, htell.2]
  have hl := List.length_pos_iff.2 g
  have g1 : 0 < (R.grey.length : Int) := by omega
  have ha : after n 6 N R = R := by unfold after; simp [g]
  have he : tellE n 6 N R = 18 := by unfold tellE; simp [g]
  rw [ha, he]
  clear hO hst hb hzz hac hR htell ha he e0 e1 e2 e3
  go_enter Try.func12, Try.ntmps12
  go_upto_region 15 with fail
  change Code.wp _ _ _ _ (twoBoxes w 6 N)
  generalize twoBoxes w 6 N = W at *
  go_wp2_with fail
  have hS := HS.out
  have hd := hS.done (R' := R) HO.out 0 false 18 (fun k hk => Or.inl ⟨rfl, rfl⟩)
  obtain ⟨t0, t1, t2⟩ := hS.told 0 false 18
  unfold tolds at hd t0 t1 t2
  exact bodyPost_ret (v := told 0 false 18) (by simp [told, results, Try.results12, go_sem, t0, t1, t2]) rfl ⟨rfl, hd⟩

set_option maxHeartbeats 8000000 in
theorem rdo_end_some (w : World) (q n : Nat) (R : Rows) (hR : Ref w q n R) (N : Int) (hs : R.all.length ≤ 1000) (g : R.grey = []) : DoSaid q n 6 N R w := by
  obtain ⟨v, hO⟩ := hR.op
  have hst := two_st hO 6 N
  have q0 := hst.cell 0 (by decide)
  have q1 := hst.cell 1 (by decide)
  have q2 := hst.cell 2 (by decide)
  have q3 := hst.cell 3 (by decide)
  obtain ⟨a0, s0, e0, -⟩ := hO.row 0 (by decide)
  obtain ⟨a1, s1, e1, -⟩ := hO.row 1 (by decide)
  obtain ⟨a2, s2, e2, -⟩ := hO.row 2 (by decide)
  obtain ⟨a3, s3, e3, -⟩ := hO.row 3 (by decide)
  rw [e0] at q0
  rw [e1] at q1
  rw [e2] at q2
  rw [e3] at q3
  change (twoBoxes w 6 N).cell? ⟨q, 0, none⟩ = some (.slice a0 R.white.length (R.white.length + s0)) at q0
  change (twoBoxes w 6 N).cell? ⟨q, 1, none⟩ = some (.slice a1 R.frm.length (R.frm.length + s1)) at q1
  change (twoBoxes w 6 N).cell? ⟨q, 2, none⟩ = some (.slice a2 R.grey.length (R.grey.length + s2)) at q2
  change (twoBoxes w 6 N).cell? ⟨q, 3, none⟩ = some (.slice a3 R.black.length (R.black.length + s3)) at q3
  have z0 := hst.fz 0
  have z1 := hst.fz 1
  have z2 := hst.fz 2
  have z3 := hst.fz 3
  have r0 := hst.r0
  have r1 := hst.r1
  have r2 := hst.r2
  have y0 := hst.rz 0
  have y1 := hst.rz 1
  have y2 := hst.rz 2
  have hb := two_below w 6 N
  have hzz := two_size w 6 N
  have hac := two_act w 6 N
  have x0 := hac.1
  have x1 := hac.2
  have lq := hO.lq
  have hs0 := (all_le hs).1
  have hs1 := (all_le hs).2.1
  have hs2 := (all_le hs).2.2.1
  have hs3 := (all_le hs).2.2.2
  have hq1 : q ≠ w.heap.size := by omega
  have hq2 : q ≠ w.heap.size + 1 := by omega
  have htell : tellC 6 R = 0 ∧ tellB 6 R = false := ⟨rfl, rfl⟩
  have g1 : decide (0 < (R.grey.length : Int)) = false := by rw [g]; rfl
  have ha : after n 6 N R = R.fin := by unfold after; simp [g]
  have he : tellE n 6 N R = 0 := by unfold tellE; simp [g]
  have hsrc0 := ((hO.row 0 (by decide)).below hb (Nat.le_refl _))
  have hsrc1 := ((hO.row 1 (by decide)).below hb (Nat.le_refl _))
  rw [e0] at hsrc0
  rw [e1] at hsrc1
  change Row _ _ _ (.slice a0 R.white.length (R.white.length + s0)) R.white at hsrc0
  change Row _ _ _ (.slice a1 R.frm.length (R.frm.length + s1)) R.frm at hsrc1
  have hss : R.white.length + R.frm.length ≤ 1000 := by
    have : R.all.length = R.white.length + (R.frm.length + (R.grey.length + R.black.length)) := by unfold Rows.all; simp
    omega
  have HO := Lib.hid hO
  unfold DoSaid
  rw [htell.1, htell.2, ha, he]
  clear hO hac hR htell ha he e2 e3
  go_enter Try.func12, Try.ntmps12
  go_upto_region 15 with fail
  change Code.wp _ _ _ _ (twoBoxes w 6 N)
  generalize hW : twoBoxes w 6 N = W at *
  clear hW
  have hb5 : Below (w.heap.size + 2) W (W.alloc (.cells #[] 3)).drew := by
    rw [← hzz]
    exact ((Below.refl _ _).alloc (Nat.le_refl _) _).drew
  have hown : (W.alloc (.cells #[] 3)).drew.ownsRow (w.heap.size + 2) 3 1 (.slice (some ⟨w.heap.size + 2, 0, none⟩) 0 0) 0 (([] : List Int).map (.int .i64)) := by
    have := own_nil W
    rw [hzz] at this
    exact this
  have hsr := ((hsrc0.below hb5 (by omega)).src)
  have p3 : (W.alloc (.cells #[] 3)).cell? ⟨q, 0, none⟩ = some (.slice a0 R.white.length (R.white.length + s0)) := later' ((Below.refl _ _).alloc (Nat.le_refl _) _) q0
  have p5 : (W.alloc (.cells #[] 3)).cell? ⟨q, 1, none⟩ = some (.slice a1 R.frm.length (R.frm.length + s1)) := later' ((Below.refl _ _).alloc (Nat.le_refl _) _) q1
  have hz5 : w.heap.size + 2 ≤ (W.alloc (.cells #[] 3)).drew.heap.size := by
    have := hb5.size
    rw [hzz] at this
    exact this
  have HS := Lib.hid (And.intro hst (And.intro hsrc1 (And.intro hb5 (And.intro hown (And.intro hsr (And.intro hzz (And.intro hb hz5)))))))
  have HE := Lib.hid (And.intro e0 e1)
  clear hst hsrc0 hsrc1 hb5 hown hsr hb e0 e1 hz5
  go_upto_region 17 with fail
  go_region_law (first
    | (refine step_onto rfl (.tmp 63) (.tmp 68) rfl _ (w.heap.size + 2) 0 _ [] rfl HS.out.2.2.2.1 _ R.white rfl HS.out.2.2.2.2.1 R.white.length ?b1 ?b2 ?b3 ?_; (case b1 => omega); (case b2 => omega); (case b3 => exact HS.out.2.2.2.2.2.2.2); intro ao1 cap1 w6 hown1 hgr1; have hb6 := below_onto HS.out.2.2.1 HS.out.2.2.2.1 HS.out.2.2.2.2.2.2.2 hgr1; have hsr1 := (HS.out.2.1.below hb6 (by omega)).src; have hz6 := Nat.le_trans HS.out.2.2.2.2.2.2.2 hgr1.size; have p4 := (HS.out.1.from hb6 (Nat.lt_succ_self _)).cell 1 (by decide); rw [HE.out.2] at p4; clear hgr1)
    | (refine step_onto rfl (.tmp 69) (.tmp 74) rfl _ (w.heap.size + 2) R.white.length _ ([] ++ R.white) rfl hown1 _ R.frm rfl hsr1 (R.white.length + R.frm.length) ?b4 ?b5 ?b6 ?_; (case b4 => rfl); (case b5 => omega); (case b6 => exact hz6); intro ao2 cap2 w7 hown2 hgr2; have hb7 := below_onto hb6 hown1 hz6 hgr2; clear hgr2; have hS7 := HS.out.1.from hb7 (Nat.lt_succ_self _); have p0 := hS7.cell 0 (by decide); rw [HE.out.1] at p0; have p1 := hS7.fz 0; have HT := Lib.hid (And.intro hS7 (And.intro (Row.of_own hown2) hb7)); clear hS7 hown2 hb7))
  all_goals
    have hS2 := HT.out.1.put 0 (by decide) (.slice ao2 (R.white.length + R.frm.length) cap2)
    have hr2 := HT.out.2.1.set q 0 (.slice ao2 (R.white.length + R.frm.length) cap2) (Or.inl (by omega))
    have hz2 : w7.heap.size = (w7.setCell ⟨q, 0, none⟩ (.slice ao2 (R.white.length + R.frm.length) cap2)).heap.size := by simp [World.setCell]
    rw [hz2] at hr2
    clear p0 p1 p3 p4 p5 hz2 HT q0 q1 q2 q3 r0 r1 r2 y0 y1 y2 z0 z1 z2 z3
    generalize (w7.setCell ⟨q, 0, none⟩ (.slice ao2 (R.white.length + R.frm.length) cap2)) = w8 at hS2 hr2 ⊢
    have q1 := hS2.cell 1 (by decide)
    rw [if_neg (by decide), HE.out.2] at q1
    have q2 := hS2.fz 1
    have q5 := hS2.r0
    have q6 := hS2.r1
    have q7 := hS2.r2
    have q8 := hS2.rz 0
    have q9 := hS2.rz 1
    have q10 := hS2.rz 2
    have HS8 := Lib.hid (And.intro hS2 hr2)
    clear hS2 hr2
    go_wp2_with fail
    have hS := HS8.out.1.put 1 (by decide) (.slice none 0 0)
    have hd := hS.done (R' := R.fin) HO.out 0 false 0 (fun k hk => by
      obtain rfl | rfl | rfl | rfl : k = 0 ∨ k = 1 ∨ k = 2 ∨ k = 3 := by omega
      · refine Or.inr ⟨w.heap.size + 2, w8.heap.size, Or.inl (by omega), by omega, by simp [World.setCell], ?_⟩
        rw [if_neg (by decide), if_pos rfl]
        exact HS8.out.2.set _ _ _ (Or.inl (by omega))
      · refine Or.inr ⟨w.heap.size + 2, w8.heap.size, Or.inl (by omega), by omega, by simp [World.setCell], ?_⟩
        rw [if_pos rfl]
        exact ⟨none, 0, rfl, fun h => absurd h (Nat.not_lt_zero _)⟩
      · exact Or.inl ⟨rfl, rfl⟩
      · exact Or.inl ⟨rfl, rfl⟩)
    obtain ⟨t0, t1, t2⟩ := hS.told 0 false 0
    unfold tolds at hd t0 t1 t2
    exact bodyPost_ret (v := told 0 false 0) (by simp [told, results, Try.results12, go_sem, t0, t1, t2]) rfl ⟨rfl, hd⟩

end Go.Proofs.Ytbjlpmjalidfkaa
