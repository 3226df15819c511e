/- The document's ring: Alloc, Drop. -/
import Derived.Test.YtbjlpmjalidfkaaRiU
import Derived.Deep.DeepCutAuto
namespace Go.Proofs.Ytbjlpmjalidfkaa
open Go.RowKit Go.Shelf


theorem tell_other {K : Int} (hK : K = 1 ∨ K < 0 ∨ 6 < K) (n : Nat) (N : Int) (R : Rows) : tellC K R = R.white.head?.getD 0 ∧ tellB K R = false ∧ tellE n K N R = (if R.white = [] then 2 else 0) ∧ after n K N R = (if R.white = [] then R else if K = 1 then R.alloc else R.drop) := by
  have n0 : ¬ K = 0 := by omega
  have n2 : ¬ K = 2 := by omega
  have n3 : ¬ K = 3 := by omega
  have n4 : ¬ K = 4 := by omega
  have n5 : ¬ K = 5 := by omega
  have n6 : ¬ K = 6 := by omega
  unfold tellC tellB tellE after
  simp only [n0, n2, n3, n4, n5, n6, if_false, false_or]
  exact ⟨trivial, trivial, trivial, trivial⟩

set_option maxHeartbeats 4000000 in
theorem rdo_full (w : World) (q n : Nat) (R : Rows) (hR : Ref w q n R) (K N : Int) (hK : K = 1 ∨ K < 0 ∨ 6 < K) (hs : R.all.length ≤ 1000) (g : R.white = []) : DoSaid q n K N R w := by
  obtain ⟨v, hO⟩ := hR.op
  have hst := two_st hO K N
  have q0 := hst.cell 0 (by decide)
  have q1 := hst.cell 1 (by decide)
  have q2 := hst.cell 2 (by decide)
  have q3 := hst.cell 3 (by decide)
  obtain ⟨a0, s0, e0, -⟩ := hO.row 0 (by decide)
  obtain ⟨a1, s1, e1, -⟩ := hO.row 1 (by decide)
  obtain ⟨a2, s2, e2, -⟩ := hO.row 2 (by decide)
  obtain ⟨a3, s3, e3, -⟩ := hO.row 3 (by decide)
  rw [e0] at q0
  rw [e1] at q1
  rw [e2] at q2
  rw [e3] at q3
  change (twoBoxes w K N).cell? ⟨q, 0, none⟩ = some (.slice a0 R.white.length (R.white.length + s0)) at q0
  change (twoBoxes w K N).cell? ⟨q, 1, none⟩ = some (.slice a1 R.frm.length (R.frm.length + s1)) at q1
  change (twoBoxes w K N).cell? ⟨q, 2, none⟩ = some (.slice a2 R.grey.length (R.grey.length + s2)) at q2
  change (twoBoxes w K N).cell? ⟨q, 3, none⟩ = some (.slice a3 R.black.length (R.black.length + s3)) at q3
  have z0 := hst.fz 0
  have z1 := hst.fz 1
  have z2 := hst.fz 2
  have z3 := hst.fz 3
  have r0 := hst.r0
  have r1 := hst.r1
  have r2 := hst.r2
  have y0 := hst.rz 0
  have y1 := hst.rz 1
  have y2 := hst.rz 2
  have hb := two_below w K N
  have hzz := two_size w K N
  have hac := two_act w K N
  have x0 := hac.1
  have x1 := hac.2
  have lq := hO.lq
  have hs0 := (all_le hs).1
  have hs1 := (all_le hs).2.1
  have hs2 := (all_le hs).2.2.1
  have hs3 := (all_le hs).2.2.2
  have hq1 : q ≠ w.heap.size := by omega
  have hq2 : q ≠ w.heap.size + 1 := by omega
  have k0 : (K == 0) = false := by simp; omega
  have k2 : (K == 2) = false := by simp; omega
  have k3 : (K == 3) = false := by simp; omega
  have k4 : (K == 4) = false := by simp; omega
  have k5 : (K == 5) = false := by simp; omega
  have k6 : (K == 6) = false := by simp; omega
  obtain ⟨hc, hbb, he, ha⟩ := tell_other hK n N R
  rw [g, if_pos rfl] at he ha
  rw [g] at hc
  change tellC K R = 0 at hc
  have HO := Lib.hid hO
  have HS := Lib.hid hst
  unfold DoSaid
  rw [hc, hbb, he, ha]
  have g1 : ((R.white.length : Int) == 0) = true := by rw [g]; rfl
  clear hO hst hb hzz hac hR hc hbb he ha e0 e1 e2 e3 hK
  go_enter Try.func12, Try.ntmps12
  go_upto_region 20 with fail
  change Code.wp _ _ _ _ (twoBoxes w K N)
  generalize twoBoxes w K N = W at *
  go_wp2_with fail
  have hS := HS.out
  have hd := hS.done (R' := R) HO.out 0 false 2 (fun k hk => Or.inl ⟨rfl, rfl⟩)
  obtain ⟨t0, t1, t2⟩ := hS.told 0 false 2
  unfold tolds at hd t0 t1 t2
  exact bodyPost_ret (v := told 0 false 2) (by simp [told, results, Try.results12, go_sem, t0, t1, t2]) rfl ⟨rfl, hd⟩

set_option maxHeartbeats 8000000 in
theorem rdo_drop_some (w : World) (q n : Nat) (R : Rows) (hR : Ref w q n R) (K N : Int) (hK : K < 0 ∨ 6 < K) (hs : R.all.length ≤ 1000) (c : Int) (l : List Int) (g : R.white = c :: l) : DoSaid q n K N R w := by
  obtain ⟨v, hO⟩ := hR.op
  have hst := two_st hO K N
  have q0 := hst.cell 0 (by decide)
  have q1 := hst.cell 1 (by decide)
  have q2 := hst.cell 2 (by decide)
  have q3 := hst.cell 3 (by decide)
  obtain ⟨a0, s0, e0, -⟩ := hO.row 0 (by decide)
  obtain ⟨a1, s1, e1, -⟩ := hO.row 1 (by decide)
  obtain ⟨a2, s2, e2, -⟩ := hO.row 2 (by decide)
  obtain ⟨a3, s3, e3, -⟩ := hO.row 3 (by decide)
  rw [e0] at q0
  rw [e1] at q1
  rw [e2] at q2
  rw [e3] at q3
  change (twoBoxes w K N).cell? ⟨q, 0, none⟩ = some (.slice a0 R.white.length (R.white.length + s0)) at q0
  change (twoBoxes w K N).cell? ⟨q, 1, none⟩ = some (.slice a1 R.frm.length (R.frm.length + s1)) at q1
  change (twoBoxes w K N).cell? ⟨q, 2, none⟩ = some (.slice a2 R.grey.length (R.grey.length + s2)) at q2
  change (twoBoxes w K N).cell? ⟨q, 3, none⟩ = some (.slice a3 R.black.length (R.black.length + s3)) at q3
  have z0 := hst.fz 0
  have z1 := hst.fz 1
  have z2 := hst.fz 2
  have z3 := hst.fz 3
  have r0 := hst.r0
  have r1 := hst.r1
  have r2 := hst.r2
  have y0 := hst.rz 0
  have y1 := hst.rz 1
  have y2 := hst.rz 2
  have hb := two_below w K N
  have hzz := two_size w K N
  have hac := two_act w K N
  have x0 := hac.1
  have x1 := hac.2
  have lq := hO.lq
  have hs0 := (all_le hs).1
  have hs1 := (all_le hs).2.1
  have hs2 := (all_le hs).2.2.1
  have hs3 := (all_le hs).2.2.2
  have hq1 : q ≠ w.heap.size := by omega
  have hq2 : q ≠ w.heap.size + 1 := by omega
  have k0 : (K == 0) = false := by simp; omega
  have k2 : (K == 2) = false := by simp; omega
  have k3 : (K == 3) = false := by simp; omega
  have k4 : (K == 4) = false := by simp; omega
  have k5 : (K == 5) = false := by simp; omega
  have k6 : (K == 6) = false := by simp; omega
  have k1 : (K == 1) = false := by simp; omega
  obtain ⟨hc, hbb, he, ha⟩ := tell_other (K := K) (Or.inr hK) n N R
  have gl : R.white.length = l.length + 1 := by rw [g]; simp
  rw [if_neg (by rw [g]; exact List.cons_ne_nil _ _)] at he ha
  rw [g] at hc
  change tellC K R = c at hc
  rw [if_neg (by omega)] at ha
  obtain ⟨a0', s0', e0', hx0⟩ := hO.row 0 (by decide)
  obtain ⟨b, hb0, b1, b2, hx⟩ := hx0 (by show 0 < R.white.length; omega)
  subst hb0
  have ea : a0 = some ⟨b, 0, none⟩ ∧ s0 = s0' := by
    rw [e0] at e0'
    injection e0' with h1 h2 h3
    exact ⟨h1, by omega⟩
  obtain ⟨rfl, rfl⟩ := ea
  have cx : (twoBoxes w K N).cell? ⟨b, 0, none⟩ = some (.int .i64 c) := later' hb (hx 0 c (by show R.white[0]? = some c; rw [g]; rfl))
  have hrow0 := ((hO.row 0 (by decide)).below hb (Nat.le_refl _))
  rw [e0] at hrow0
  change Row _ _ _ (.slice (some ⟨b, 0, none⟩) R.white.length (R.white.length + s0)) R.white at hrow0
  have hwo := without_any (.slice (some ⟨b, 0, none⟩) R.white.length (R.white.length + s0)) R.white (q + 1) w.heap.size (twoBoxes w K N) hrow0 0 (by omega) hs0
  rw [show R.white.eraseIdx 0 = l by rw [g]; rfl] at hwo
  have hrow3 := ((hO.row 3 (by decide)).below hb (Nat.le_refl _))
  rw [e3] at hrow3
  change Row _ _ _ (.slice a3 R.black.length (R.black.length + s3)) R.black at hrow3
  have HO := Lib.hid hO
  have HS := Lib.hid (And.intro hst (And.intro hb hzz))
  have HW := Lib.hid hwo
  have HR3 := Lib.hid hrow3
  have HE := Lib.hid (And.intro e0 e3)
  unfold DoSaid
  rw [hc, hbb, he, ha]
  have g1 : ((R.white.length : Int) == 0) = false := by rw [gl]; simp; omega
  have g2 : (0 : Int) < (R.white.length : Int) := by omega
  have hb1 : b ≠ w.heap.size := by omega
  have hb2 : b ≠ w.heap.size + 1 := by omega
  clear hO hst hb hzz hac hR hc hbb he ha e0 e1 e2 e3 hwo hrow0 hrow3 hx hx0 e0' hK
  go_enter Try.func12, Try.ntmps12
  go_upto_region 20 with fail
  change Code.wp _ _ _ _ (twoBoxes w K N)
  generalize hW : twoBoxes w K N = W at *
  clear hW
  go_wp2_with fail
  rw [gl] at HW
  refine HW.out.mono ?_
  rintro e w5 ⟨v', rfl, hrow, hb5⟩
  obtain ⟨ax, sx, rfl, -⟩ := id hrow
  have hS5 := HS.out.1.later hb5
  have p0 := hS5.cell 0 (by decide)
  rw [HE.out.1] at p0
  have p1 := hS5.fz 0
  have p3 := hS5.cell 3 (by decide)
  rw [HE.out.2] at p3
  have p4 := hS5.fz 3
  have p5 := hS5.r0
  have p6 := hS5.r1
  have p7 := hS5.r2
  have p8 := hS5.rz 0
  have p9 := hS5.rz 1
  have p10 := hS5.rz 2
  have p11 := later' hb5 x0
  have hs5 : w.heap.size + 2 ≤ W.heap.size ∧ W.heap.size ≤ w5.heap.size := ⟨by rw [HS.out.2.2]; exact Nat.le_refl _, hb5.size⟩
  have hr3 := HR3.out.below hb5 (by omega)
  have HS5 := Lib.hid (And.intro hS5 (And.intro hrow (And.intro hs5 hr3)))
  clear hS5 hrow hb5 hs5 hr3 q0 q1 q2 q3 z0 z1 z2 z3 r0 r1 r2 y0 y1 y2 x0 x1 cx HW HR3
  go_wp2_with fail
  have hS := HS5.out.1.put 0 (by decide) (.slice ax l.length (l.length + sx))
  have hd := hS.done (R' := R.drop) HO.out c false 0 (fun k hk => by
    have h1 := HS5.out.2.2.1
    obtain rfl | rfl | rfl | rfl : k = 0 ∨ k = 1 ∨ k = 2 ∨ k = 3 := by omega
    · refine Or.inr ⟨W.heap.size, w5.heap.size, Or.inl (by omega), by omega, by simp [World.setCell], ?_⟩
      rw [if_pos rfl]
      have : R.drop.row 0 = l := by show R.white.tail = l; rw [g]; rfl
      rw [this]
      exact HS5.out.2.1.set _ _ _ (Or.inl (by omega))
    · exact Or.inl ⟨rfl, rfl⟩
    · exact Or.inl ⟨rfl, rfl⟩
    · exact Or.inl ⟨rfl, rfl⟩)
  obtain ⟨t0, t1, t2⟩ := hS.told c false 0
  unfold tolds at hd t0 t1 t2
  exact bodyPost_ret (v := told c false 0) (by simp [told, results, Try.results12, go_sem, t0, t1, t2]) rfl ⟨rfl, hd⟩

set_option maxHeartbeats 8000000 in
theorem rdo_alloc_some (w : World) (q n : Nat) (R : Rows) (hR : Ref w q n R) (N : Int) (hs : R.all.length ≤ 1000) (c : Int) (l : List Int) (g : R.white = c :: l) : DoSaid q n 1 N R w := by
  obtain ⟨v, hO⟩ := hR.op
  have hst := two_st hO 1 N
  have q0 := hst.cell 0 (by decide)
  have q1 := hst.cell 1 (by decide)
  have q2 := hst.cell 2 (by decide)
  have q3 := hst.cell 3 (by decide)
  obtain ⟨a0, s0, e0, -⟩ := hO.row 0 (by decide)
  obtain ⟨a1, s1, e1, -⟩ := hO.row 1 (by decide)
  obtain ⟨a2, s2, e2, -⟩ := hO.row 2 (by decide)
  obtain ⟨a3, s3, e3, -⟩ := hO.row 3 (by decide)
  rw [e0] at q0
  rw [e1] at q1
  rw [e2] at q2
  rw [e3] at q3
  change (twoBoxes w 1 N).cell? ⟨q, 0, none⟩ = some (.slice a0 R.white.length (R.white.length + s0)) at q0
  change (twoBoxes w 1 N).cell? ⟨q, 1, none⟩ = some (.slice a1 R.frm.length (R.frm.length + s1)) at q1
  change (twoBoxes w 1 N).cell? ⟨q, 2, none⟩ = some (.slice a2 R.grey.length (R.grey.length + s2)) at q2
  change (twoBoxes w 1 N).cell? ⟨q, 3, none⟩ = some (.slice a3 R.black.length (R.black.length + s3)) at q3
  have z0 := hst.fz 0
  have z1 := hst.fz 1
  have z2 := hst.fz 2
  have z3 := hst.fz 3
  have r0 := hst.r0
  have r1 := hst.r1
  have r2 := hst.r2
  have y0 := hst.rz 0
  have y1 := hst.rz 1
  have y2 := hst.rz 2
  have hb := two_below w 1 N
  have hzz := two_size w 1 N
  have hac := two_act w 1 N
  have x0 := hac.1
  have x1 := hac.2
  have lq := hO.lq
  have hs0 := (all_le hs).1
  have hs1 := (all_le hs).2.1
  have hs2 := (all_le hs).2.2.1
  have hs3 := (all_le hs).2.2.2
  have hq1 : q ≠ w.heap.size := by omega
  have hq2 : q ≠ w.heap.size + 1 := by omega
  obtain ⟨hc, hbb, he, ha⟩ := tell_other (K := 1) (Or.inl rfl) n N R
  have gl : R.white.length = l.length + 1 := by rw [g]; simp
  rw [if_neg (by rw [g]; exact List.cons_ne_nil _ _)] at he ha
  rw [g] at hc
  change tellC 1 R = c at hc
  rw [if_pos rfl] at ha
  obtain ⟨a0', s0', e0', hx0⟩ := hO.row 0 (by decide)
  obtain ⟨b, hb0, b1, b2, hx⟩ := hx0 (by show 0 < R.white.length; omega)
  subst hb0
  have ea : a0 = some ⟨b, 0, none⟩ ∧ s0 = s0' := by
    rw [e0] at e0'
    injection e0' with h1 h2 h3
    exact ⟨h1, by omega⟩
  obtain ⟨rfl, rfl⟩ := ea
  have cx : (twoBoxes w 1 N).cell? ⟨b, 0, none⟩ = some (.int .i64 c) := later' hb (hx 0 c (by show R.white[0]? = some c; rw [g]; rfl))
  have hrow0 := ((hO.row 0 (by decide)).below hb (Nat.le_refl _))
  rw [e0] at hrow0
  change Row _ _ _ (.slice (some ⟨b, 0, none⟩) R.white.length (R.white.length + s0)) R.white at hrow0
  have hwo := without_any (.slice (some ⟨b, 0, none⟩) R.white.length (R.white.length + s0)) R.white (q + 1) w.heap.size (twoBoxes w 1 N) hrow0 0 (by omega) hs0
  rw [show R.white.eraseIdx 0 = l by rw [g]; rfl] at hwo
  have hrow3 := ((hO.row 3 (by decide)).below hb (Nat.le_refl _))
  rw [e3] at hrow3
  change Row _ _ _ (.slice a3 R.black.length (R.black.length + s3)) R.black at hrow3
  have HO := Lib.hid hO
  have HS := Lib.hid (And.intro hst (And.intro hb hzz))
  have HW := Lib.hid hwo
  have HR3 := Lib.hid hrow3
  have HE := Lib.hid (And.intro e0 e3)
  unfold DoSaid
  rw [hc, hbb, he, ha]
  have g1 : ((R.white.length : Int) == 0) = false := by rw [gl]; simp; omega
  have g2 : (0 : Int) < (R.white.length : Int) := by omega
  have hb1 : b ≠ w.heap.size := by omega
  have hb2 : b ≠ w.heap.size + 1 := by omega
  clear hO hst hb hzz hac hR hc hbb he ha e0 e1 e2 e3 hwo hrow0 hrow3 hx hx0 e0' 
  go_enter Try.func12, Try.ntmps12
  go_upto_region 20 with fail
  change Code.wp _ _ _ _ (twoBoxes w 1 N)
  generalize hW : twoBoxes w 1 N = W at *
  clear hW
  go_wp2_with fail
  rw [gl] at HW
  refine HW.out.mono ?_
  rintro e w5 ⟨v', rfl, hrow, hb5⟩
  obtain ⟨ax, sx, rfl, -⟩ := id hrow
  have hS5 := HS.out.1.later hb5
  have p0 := hS5.cell 0 (by decide)
  rw [HE.out.1] at p0
  have p1 := hS5.fz 0
  have p3 := hS5.cell 3 (by decide)
  rw [HE.out.2] at p3
  have p4 := hS5.fz 3
  have p5 := hS5.r0
  have p6 := hS5.r1
  have p7 := hS5.r2
  have p8 := hS5.rz 0
  have p9 := hS5.rz 1
  have p10 := hS5.rz 2
  have p11 := later' hb5 x0
  have hs5 : w.heap.size + 2 ≤ W.heap.size ∧ W.heap.size ≤ w5.heap.size := ⟨by rw [HS.out.2.2]; exact Nat.le_refl _, hb5.size⟩
  have hr3 := HR3.out.below hb5 (by omega)
  have HS5 := Lib.hid (And.intro hS5 (And.intro hrow (And.intro hs5 hr3)))
  clear hS5 hrow hb5 hs5 hr3 q0 q1 q2 q3 z0 z1 z2 z3 r0 r1 r2 y0 y1 y2 x0 x1 cx HW HR3
  go_upto_region 25 with fail
  have hS6 := HS5.out.1.put 0 (by decide) (.slice ax l.length (l.length + sx))
  have hr6 := HS5.out.2.1.set q 0 (.slice ax l.length (l.length + sx)) (Or.inl (by have := HS5.out.2.2.1; omega))
  have hg6 := HS5.out.2.2.2.set q 0 (.slice ax l.length (l.length + sx)) (Or.inl (Nat.lt_succ_self _))
  have hz6 : w5.heap.size = (w5.setCell ⟨q, 0, none⟩ (.slice ax l.length (l.length + sx))).heap.size := by simp [World.setCell]
  have hz5 := HS5.out.2.2.1
  rw [hz6] at hr6 hz5
  clear hz6 p0 p1 p3 p4 p5 p6 p7 p8 p9 p10 p11 HS5
  generalize (w5.setCell ⟨q, 0, none⟩ (.slice ax l.length (l.length + sx))) = w6 at hS6 hr6 hg6 hz5 ⊢
  have hb6 : Below w6.heap.size w6 (w6.alloc (.cells #[] 3)) := (Below.refl _ _).alloc (Nat.le_refl _) _
  have d3 := (hS6.later hb6).cell 3 (by decide)
  rw [if_neg (by decide), HE.out.2] at d3
  have hgs := (hg6.below hb6 (by omega)).src
  have HS6 := Lib.hid (And.intro hS6 (And.intro hr6 (And.intro hgs (And.intro hb6 hz5))))
  clear hS6 hr6 hg6 hb6 hz5 hgs
  go_wp2_with (first
    | (at_builtin; refine list_onto rfl (.tmp 113) (.tmp 118) rfl _ w6.heap.size 0 _ [] rfl (own_nil w6) _ R.black rfl HS6.out.2.2.1 R.black.length ?b1 ?b2 ?b3 ?_; (case b1 => omega); (case b2 => omega); (case b3 => exact HS6.out.2.2.2.1.size); intro ao1 cap1 w7 hown1 hgr1; have hb7 := below_onto HS6.out.2.2.2.1 (own_nil w6) HS6.out.2.2.2.1.size hgr1; clear hgr1)
    | (at_builtin; refine list_onto rfl (.tmp 119) (.tmp 121) rfl _ w6.heap.size R.black.length _ ([] ++ R.black) rfl (hown1.alloc _) _ [c] rfl (src_one w7 c) (R.black.length + 1) ?b4 ?b5 ?b6 ?_; (case b4 => rfl); (case b5 => omega); (case b6 => exact (hb7.alloc hb7.size _).size); intro ao2 cap2 w8 hown2 hgr2; have hb8 := below_onto (hb7.alloc hb7.size _) (hown1.alloc _) (hb7.alloc hb7.size _).size hgr2; clear hgr2; have hS8 := HS6.out.1.from hb8 (by have := HS6.out.2.2.2.2; omega); have q1 := hS8.cell 3 (by decide); rw [if_neg (by decide), HE.out.2] at q1; have q2 := hS8.fz 3; have q5 := hS8.r0; have q6 := hS8.r1; have q7 := hS8.r2; have q8 := hS8.rz 0; have q9 := hS8.rz 1; have q10 := hS8.rz 2; have HS8 := Lib.hid (And.intro hS8 (And.intro (Row.of_own hown2) (And.intro hb8 (HS6.out.2.1.below hb8 (Nat.le_refl _))))); clear hS8 hown2 hb8))
  have hS := HS8.out.1.put 3 (by decide) (.slice ao2 (R.black.length + 1) cap2)
  have hd := hS.done (R' := R.alloc) HO.out c false 0 (fun k hk => by
    have h1 := HS6.out.2.2.2.2
    have h4 := HS8.out.2.2.1.size
    obtain rfl | rfl | rfl | rfl : k = 0 ∨ k = 1 ∨ k = 2 ∨ k = 3 := by omega
    · refine Or.inr ⟨W.heap.size, w6.heap.size, Or.inl (by omega), by omega, by simp [World.setCell]; omega, ?_⟩
      rw [if_neg (by decide), if_pos rfl]
      have : R.alloc.row 0 = l := by show R.white.tail = l; rw [g]; rfl
      rw [this]
      exact HS8.out.2.2.2.set _ _ _ (Or.inl (by omega))
    · exact Or.inl ⟨rfl, rfl⟩
    · exact Or.inl ⟨rfl, rfl⟩
    · refine Or.inr ⟨w6.heap.size, w8.heap.size, Or.inl (by omega), by omega, by simp [World.setCell], ?_⟩
      rw [if_pos rfl]
      have : R.alloc.row 3 = [] ++ R.black ++ [c] := by show R.black ++ R.white.take 1 = _; rw [g]; rfl
      rw [this]
      exact HS8.out.2.1.set _ _ _ (Or.inl (by omega)))
  obtain ⟨t0, t1, t2⟩ := hS.told c false 0
  unfold tolds at hd t0 t1 t2
  exact bodyPost_ret (v := told c false 0) (by simp [told, results, Try.results12, go_sem, t0, t1, t2]) rfl ⟨rfl, hd⟩

end Go.Proofs.Ytbjlpmjalidfkaa
