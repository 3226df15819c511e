/- The document's ring: Shade of one. -/
import Derived.Test.YtbjlpmjalidfkaaRiS
import Derived.Deep.DeepCutAuto
namespace Go.Proofs.Ytbjlpmjalidfkaa
open Go.RowKit Go.Shelf

set_option maxHeartbeats 8000000 in
theorem rshade_some (w : World) (q n : Nat) (R : Rows) (hR : Ref w q n R) (N : Int) (c : Int) (hc : shadedAt N R = c) (h0 : 0 ≤ c) (hW : R.frm ≠ []) (hs : R.all.length ≤ 1000) :
    Calls Try.prog 49 #[.pointer (some ⟨q, 0, none⟩), .agg #[.int .i64 2, .int .i64 N]] w fun e w' => e = .returned (told 0 false 0) ∧ Ref w' q n (R.shade c) ∧ One q w w' := by
  obtain ⟨l, m, hcl, hf, he⟩ := List.exists_erase_eq (by rw [← hc]; exact shaded_mem hW : c ∈ R.frm)
  obtain ⟨v, hO⟩ := hR.op
  obtain ⟨a1, s1, e1, hc1⟩ := hO.row 1 (by decide)
  obtain ⟨a2, s2, e2, -⟩ := hO.row 2 (by decide)
  have c1 : w.cell? ⟨q, 1, none⟩ = some (v 1) := hO.cell 1 (by decide)
  have c2 : w.cell? ⟨q, 2, none⟩ = some (v 2) := hO.cell 2 (by decide)
  rw [e1] at c1
  rw [e2] at c2
  change w.cell? ⟨q, 1, none⟩ = some (.slice a1 R.frm.length (R.frm.length + s1)) at c1
  change w.cell? ⟨q, 2, none⟩ = some (.slice a2 R.grey.length (R.grey.length + s2)) at c2
  replace hc1 : 0 < R.frm.length → _ := hc1
  have lq := hO.lq
  have hl1 : R.frm.length ≤ 1000 := (all_le hs).2.1
  have hl2 : R.grey.length ≤ 1000 := (all_le hs).2.2.1
  have hq1 : q ≠ w.heap.size := by omega
  have hq2 : q ≠ w.heap.size + 1 := by omega
  have e5 : R.frm.length = l.length + m.length + 1 := by rw [hf]; simp; omega
  obtain ⟨b, rfl, b1, b2, hx⟩ := hc1 (by omega)
  have hst := two_st hO 2 N
  have hbt := two_below w 2 N
  have hsz := two_size w 2 N
  have hsh := shaded_any (twoBoxes w 2 N) q n R (hR.later hbt) N hs
  rw [hc] at hsh
  have hrow1 : Row (twoBoxes w 2 N) (q + 1) w.heap.size (.slice (some ⟨b, 0, none⟩) R.frm.length (R.frm.length + s1)) R.frm := by
    have := (hO.row 1 (by decide)).below hbt (Nat.le_refl _)
    rw [e1] at this
    exact this
  have hrow2 : Row (twoBoxes w 2 N) (q + 1) w.heap.size (.slice a2 R.grey.length (R.grey.length + s2)) R.grey := by
    have := (hO.row 2 (by decide)).below hbt (Nat.le_refl _)
    rw [e2] at this
    exact this
  have hxl : ∀ i, i ≤ l.length → ∃ y, (twoBoxes w 2 N).cell? ⟨b, i, none⟩ = some (.int .i64 y) ∧ (y == c) = decide (i = l.length) := fun i hi => by
    rcases Nat.lt_or_eq_of_le hi with hlt | heq
    · have hy : R.frm[i]? = some (l[i]'hlt) := by rw [hf, List.getElem?_append_left hlt, List.getElem?_eq_getElem hlt]
      refine ⟨l[i]'hlt, later' hbt (hx i _ hy), ?_⟩
      have hne : ¬ l[i]'hlt = c := fun e => hcl (e ▸ List.getElem_mem hlt)
      have hni : ¬ i = l.length := by omega
      rw [decide_eq_false hni]
      simpa using hne
    · subst heq
      have hy : R.frm[l.length]? = some c := by rw [hf]; simp
      exact ⟨c, later' hbt (hx _ _ hy), by simp⟩
  have hwo := without_any (.slice (some ⟨b, 0, none⟩) R.frm.length (R.frm.length + s1)) R.frm (q + 1) w.heap.size (twoBoxes w 2 N) hrow1 l.length (by omega) hl1
  have her : R.frm.eraseIdx l.length = l ++ m := by
    rw [hf, List.eraseIdx_append_of_length_le (Nat.le_refl _)]
    simp
  rw [her] at hwo
  have hfin : (R.shade c).frm = l ++ m := he
  have hll : l.length < R.frm.length := by omega
  have HO := Lib.hid hO
  have HS := Lib.hid (And.intro hst (And.intro hrow2 hbt))
  have HSH := Lib.hid hsh
  have HXL := Lib.hid hxl
  have HWO := Lib.hid hwo
  have HE := Lib.hid (And.intro hfin (And.intro (show v 2 = .slice a2 R.grey.length (R.grey.length + s2) from e2) (show v 1 = .slice (some ⟨b, 0, none⟩) R.frm.length (R.frm.length + s1) from e1)))
  have k1 : (twoBoxes w 2 N).cell? ⟨q, 1, none⟩ = some (.slice (some ⟨b, 0, none⟩) R.frm.length (R.frm.length + s1)) := later' hbt c1
  have HK := Lib.hid k1
  have g0 : decide (c < 0) = false := decide_eq_false (by omega)
  generalize hL : l.length = L at *
  clear hO hR hx hst hbt hsz hsh hxl hwo e1 e2 hrow1 hrow2 hc1 hf he hcl her hfin hc k1 hL e5
  unfold twoBoxes at HSH
  go_enter Try.func49, Try.ntmps49
  go_wp2_with fail
  refine HSH.out.mono ?_
  rintro e w3 ⟨rfl, hw3⟩
  clear HSH
  change w3 = twoBoxes w 2 N at hw3
  rw [← hw3] at HS HXL HWO HK
  clear hw3 c1
  go_wp2_with fail
  go_loopw [7] (fun s7 wr => ∃ i : Nat, i ≤ L ∧ s7 = .int .i64 i ∧ w3 = wr) (fun s7 _ => L - (intOf s7).toNat)
  case atStart => exact ⟨0, Nat.zero_le _, rfl, rfl⟩
  case round =>
    obtain ⟨i, hi, rfl, rfl⟩ := hrel
    obtain ⟨y, hy, hyc⟩ := HXL.out i hi
    have hk1 := HK.out
    have hif : (i : Int) < (R.frm.length : Int) := by omega
    by_cases hlt : i = L
    · subst hlt
      rw [decide_eq_true rfl] at hyc
      go_wp2_with fail
      refine HWO.out.mono ?_
      rintro e w4 ⟨v', rfl, hrow, hb4⟩
      obtain ⟨ax, sx, rfl, -⟩ := id hrow
      have hS4 := HS.out.1.later hb4
      have hg4 := HS.out.2.1.below hb4 (by have := HS.out.2.2.size; exact this)
      have q1 := hS4.cell 1 (by decide)
      rw [HE.out.2.2] at q1
      have q2 := hS4.fz 1
      have hs4 := hb4.size
      have hs3 := HS.out.2.2.size
      have HS4 := Lib.hid (And.intro hS4 (And.intro hrow (And.intro hg4 (And.intro hs4 (And.intro hs3 hS4.lrb)))))
      have h3rb : w.heap.size + 1 < w3.heap.size := HS.out.1.lrb
      clear hS4 hrow hg4 hb4 hs4 hs3 hy hyc hk1 HWO HK HXL
      go_upto_region 12 with fail
      have hS5 := HS4.out.1.put 1 (by decide) (.slice ax (l ++ m).length ((l ++ m).length + sx))
      have hr5 := HS4.out.2.1.set q 1 (.slice ax (l ++ m).length ((l ++ m).length + sx)) (Or.inl (by omega))
      have hg5 := HS4.out.2.2.1.set q 1 (.slice ax (l ++ m).length ((l ++ m).length + sx)) (Or.inl (Nat.lt_succ_self _))
      have hz5 : w4.heap.size = (w4.setCell ⟨q, 1, none⟩ (.slice ax (l ++ m).length ((l ++ m).length + sx))).heap.size := by simp [World.setCell]
      have hz4 := HS4.out.2.2.2.2.2
      have hz3 := HS4.out.2.2.2.1
      rw [hz5] at hz4 hz3 hr5
      clear hz5 q1 q2 HS4
      rw [List.length_append] at hS5 hr5 hg5 hz4 hz3
      generalize (w4.setCell ⟨q, 1, none⟩ (.slice ax (l.length + m.length) (l.length + m.length + sx))) = w5 at hS5 hr5 hg5 hz4 hz3 ⊢
      have hb5 : Below w5.heap.size w5 (w5.alloc (.cells #[] 3)) := (Below.refl _ _).alloc (Nat.le_refl _) _
      have d2 := (hS5.later hb5).cell 2 (by decide)
      rw [if_neg (by decide), HE.out.2.1] at d2
      have hgs := (hg5.below hb5 (by omega)).src
      have HS5 := Lib.hid (And.intro hS5 (And.intro hr5 (And.intro hgs (And.intro hb5 (And.intro hz4 hz3)))))
      clear hS5 hr5 hg5 hb5 hz4 hz3 hgs
      go_wp2_with (first
        | (at_builtin; refine list_onto rfl (.tmp 57) (.tmp 62) rfl _ w5.heap.size 0 _ [] rfl (own_nil w5) _ R.grey rfl HS5.out.2.2.1 R.grey.length ?b1 ?b2 ?b3 ?_; (case b1 => omega); (case b2 => omega); (case b3 => exact HS5.out.2.2.2.1.size); intro ao1 cap1 w6 hown1 hgr1; have hb6 := below_onto HS5.out.2.2.2.1 (own_nil w5) HS5.out.2.2.2.1.size hgr1; clear hgr1)
        | (at_builtin; refine list_onto rfl (.tmp 63) (.tmp 65) rfl _ w5.heap.size R.grey.length _ ([] ++ R.grey) rfl (hown1.alloc _) _ [c] rfl (src_one w6 c) (R.grey.length + 1) ?b4 ?b5 ?b6 ?_; (case b4 => rfl); (case b5 => omega); (case b6 => exact (hb6.alloc hb6.size _).size); intro ao2 cap2 w7 hown2 hgr2; have hb7 := below_onto (hb6.alloc hb6.size _) (hown1.alloc _) (hb6.alloc hb6.size _).size hgr2; clear hgr2; have hS7 := HS5.out.1.from hb7 HS5.out.2.2.2.2.1; have q1 := hS7.cell 2 (by decide); rw [if_neg (by decide), HE.out.2.1] at q1; have q2 := hS7.fz 2; have q5 := hS7.r0; have q6 := hS7.r1; have q7 := hS7.r2; have q8 := hS7.rz 0; have q9 := hS7.rz 1; have q10 := hS7.rz 2; have HS7 := Lib.hid (And.intro hS7 (And.intro (Row.of_own hown2) (And.intro hb7 (HS5.out.2.1.below hb7 (Nat.le_refl _))))); clear hS7 hown2 hb7))
      have hS := HS7.out.1.put 2 (by decide) (.slice ao2 (R.grey.length + 1) cap2)
      have hd := hS.done (R' := R.shade c) HO.out 0 false 0 (fun k hk => by
        have h1 := HS5.out.2.2.2.2.1
        have h2 := HS5.out.2.2.2.2.2
        have h4 := HS7.out.2.2.1.size
        obtain rfl | rfl | rfl | rfl : k = 0 ∨ k = 1 ∨ k = 2 ∨ k = 3 := by omega
        · exact Or.inl ⟨rfl, rfl⟩
        · refine Or.inr ⟨w3.heap.size, w5.heap.size, Or.inl (by omega), by omega, by simp [World.setCell]; omega, ?_⟩
          rw [if_neg (by decide), if_pos rfl]
          have : (R.shade c).row 1 = l ++ m := HE.out.1
          rw [this]
          exact HS7.out.2.2.2.set _ _ _ (Or.inl (by omega))
        · refine Or.inr ⟨w5.heap.size, w7.heap.size, Or.inl (by omega), by omega, by simp [World.setCell], ?_⟩
          rw [if_pos rfl]
          exact HS7.out.2.1.set _ _ _ (Or.inl (by omega))
        · exact Or.inl ⟨rfl, rfl⟩)
      obtain ⟨t0, t1, t2⟩ := hS.told 0 false 0
      unfold tolds at hd t0 t1 t2
      exact bodyPost_ret (v := told 0 false 0) (by simp [told, results, Try.results49, go_sem, t0, t1, t2]) rfl ⟨rfl, hd⟩
    · have hlt' : ¬ i = L := hlt
      rw [decide_eq_false hlt'] at hyc
      go_wp2_with fail
      exact ⟨⟨i + 1, by omega, by go_num, by first | rfl | trivial⟩, by simp [intOf]; omega⟩

end Go.Proofs.Ytbjlpmjalidfkaa
