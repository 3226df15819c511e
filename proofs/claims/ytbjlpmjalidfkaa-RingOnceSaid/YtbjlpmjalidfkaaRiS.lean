/- The document's ring: Done of one, Shade of one. -/
import Derived.Test.YtbjlpmjalidfkaaRiR
namespace Go.Proofs.Ytbjlpmjalidfkaa
open Go.RowKit Go.Shelf

theorem dropLast_erase (l : List Int) (c : Int) : (l ++ [c]).eraseIdx l.length = l := by
  rw [List.eraseIdx_append_of_length_le (Nat.le_refl _)]
  simp

set_option maxHeartbeats 8000000 in
theorem rdone_some (w : World) (q n : Nat) (R : Rows) (hR : Ref w q n R) (N : Int) (c : Int) (l : List Int) (hlc : R.grey = l ++ [c]) (hs : R.all.length ≤ 1000) :
    Calls Try.prog 49 #[.pointer (some ⟨q, 0, none⟩), .agg #[.int .i64 4, .int .i64 N]] w fun e w' => e = .returned (told 0 false 0) ∧ Ref w' q n R.done ∧ One q w w' := by
  obtain ⟨v, hO⟩ := hR.op
  obtain ⟨a2, s2, e2, hc2⟩ := hO.row 2 (by decide)
  obtain ⟨a3, s3, e3, -⟩ := hO.row 3 (by decide)
  have c2 : w.cell? ⟨q, 2, none⟩ = some (v 2) := hO.cell 2 (by decide)
  have c3 : w.cell? ⟨q, 3, none⟩ = some (v 3) := hO.cell 3 (by decide)
  rw [e2] at c2
  rw [e3] at c3
  change w.cell? ⟨q, 2, none⟩ = some (.slice a2 R.grey.length (R.grey.length + s2)) at c2
  change w.cell? ⟨q, 3, none⟩ = some (.slice a3 R.black.length (R.black.length + s3)) at c3
  replace hc2 : 0 < R.grey.length → _ := hc2
  have lq := hO.lq
  have hl : R.grey.length ≤ 1000 := (all_le hs).2.2.1
  have hb3 : R.black.length ≤ 1000 := (all_le hs).2.2.2
  have hq1 : q ≠ w.heap.size := by omega
  have hq2 : q ≠ w.heap.size + 1 := by omega
  have hq3 : q ≠ w.heap.size + 1 + 1 := by omega
  have e5 : R.grey.length = l.length + 1 := by rw [hlc]; simp
  obtain ⟨b, rfl, b1, b2, hx⟩ := hc2 (by omega)
  have cx : w.cell? ⟨b, l.length, none⟩ = some (.int .i64 c) := hx l.length c (by show R.grey[l.length]? = some c; rw [hlc]; simp)
  have hn1 : b ≠ w.heap.size := by omega
  have hn2 : b ≠ w.heap.size + 1 := by omega
  have hrow2 : Row w (q + 1) w.heap.size (.slice (some ⟨b, 0, none⟩) (l.length + 1) (l.length + 1 + s2)) R.grey := by
    have := hO.row 2 (by decide)
    rw [e2] at this
    change Row w (q + 1) w.heap.size (.slice (some ⟨b, 0, none⟩) R.grey.length (R.grey.length + s2)) R.grey at this
    rwa [e5] at this
  rw [e5] at c2 hl
  have hst := two_st hO 4 N
  have hbt := two_below w 4 N
  have hsz := two_size w 4 N
  have hsrc := ((hO.row 3 (by decide)).below hbt (Nat.le_refl _)).src
  rw [e3] at hsrc
  change Src (twoBoxes w 4 N) (.slice a3 R.black.length (R.black.length + s3)) R.black at hsrc
  have i3 : ((l.length : Int) + 1 - 1) = (l.length : Int) := by omega
  have i4 : IntKind.i64.wrap ((l.length : Int) + 1 - 1) = (l.length : Int) := by rw [i3, IntKind.wrap_i64]; omega
  have i5 : (l.length : Int) < (l.length : Int) + 1 := by omega
  have i7 : IntKind.i64.wrap (l.length : Int) = (l.length : Int) := by rw [IntKind.wrap_i64]; omega
  have i6 : (((l.length : Int) + 1) == 0) = false := by simp; omega
  have hown := own_one (twoBoxes w 4 N) c (w.heap.size + 2) (by rw [hsz]; exact Nat.le_refl _)
  rw [hsz] at hown
  have hsrc2 : Src ((twoBoxes w 4 N).alloc (.cells #[.int .i64 c] 3)) (.slice a3 R.black.length (R.black.length + s3)) R.black := by
    obtain ⟨ao, cap, e, hc⟩ := hsrc
    refine ⟨ao, cap, e, fun h0 => ?_⟩
    obtain ⟨g, off, e1, h1⟩ := hc h0
    exact ⟨g, off, e1, fun i y hy => later' ((Below.refl _ _).alloc (Nat.le_refl _) _) (h1 i y hy)⟩
  have hwo := fun (W : World) (v' : Value) (h : Row W (q + 1) w.heap.size v' R.grey) => without_any v' R.grey (q + 1) w.heap.size W h l.length (by rw [e5]; omega) (by omega)
  have d3 : (((w.alloc (.cells #[.int .i64 4, .int .i64 N] 32)).alloc (.cells #[.int .i64 0, .bool false, .int .i64 0] 34)).alloc (.cells #[.int .i64 c] 3)).cell? ⟨q, 3, none⟩ = some (.slice a3 R.black.length (R.black.length + s3)) := later' ((((Below.refl _ _).alloc (Nat.le_refl _) _).alloc (by simp) _).alloc (by simp; omega) _) c3
  have HO := Lib.hid hO
  have hownd : ((twoBoxes w 4 N).alloc (.cells #[.int .i64 c] 3)).drew.ownsRow (w.heap.size + 2) 3 1 (.slice (some ⟨w.heap.size + 2, 0, none⟩) 1 1) 1 ([c].map (.int .i64)) := hown
  have hsrcd : Src ((twoBoxes w 4 N).alloc (.cells #[.int .i64 c] 3)).drew (.slice a3 R.black.length (R.black.length + s3)) R.black := hsrc2
  have hszd : w.heap.size + 2 ≤ ((twoBoxes w 4 N).alloc (.cells #[.int .i64 c] 3)).drew.heap.size := by
    show w.heap.size + 2 ≤ ((twoBoxes w 4 N).alloc (.cells #[.int .i64 c] 3)).heap.size
    rw [World.size_alloc, hsz]
    omega
  have hbtd : Below w.heap.size w ((twoBoxes w 4 N).alloc (.cells #[.int .i64 c] 3)).drew := (hbt.alloc hbt.size _).drew
  have hstd := hst.later (((Below.refl _ _).alloc (Nat.le_refl _) (.cells #[.int .i64 c] 3)).drew)
  have HS := Lib.hid (And.intro hstd (And.intro hownd (And.intro hsrcd (And.intro hszd (And.intro hbtd hrow2)))))
  have HWO := Lib.hid hwo
  have HSZ := Lib.hid hsz
  have HE := Lib.hid (And.intro hlc e5)
  have HE2 : Hid (v 2 = .slice (some ⟨b, 0, none⟩) (l.length + 1) (l.length + 1 + s2)) := Lib.hid (by rw [e2]; show Value.slice (some ⟨b, 0, none⟩) R.grey.length (R.grey.length + s2) = _; rw [e5])
  clear hO hR hx hst hbt hsz hsrc hown hsrc2 hwo e2 e5 hlc hrow2 hc2 hownd hsrcd hszd hbtd hstd
  unfold twoBoxes at HS HSZ
  go_enter Try.func49, Try.ntmps49
  go_wp2_with fail
  go_region_law (refine step_onto rfl (.tmp 99) (.tmp 104) rfl _ (w.heap.size + 2) 1 _ [c] rfl HS.out.2.1 _ R.black rfl HS.out.2.2.1 (R.black.length + 1) ?b1 ?b2 ?b3 ?_; (case b1 => omega); (case b2 => omega); (case b3 => exact HS.out.2.2.2.1); intro ao1 cap1 w1 hown1 hgr1; have hb1 := below_onto (Below.refl (w.heap.size + 2) _) HS.out.2.1 HS.out.2.2.2.1 hgr1; have hst1 := HS.out.1.from hb1 (Nat.lt_succ_self _); have q0 := hst1.cell 3 (by decide); rw [e3] at q0; have q1 := hst1.fz 3; have hbw1 := HS.out.2.2.2.2.1.trans (hb1.mono (Nat.le_add_right _ 2)); have HT := Lib.hid (And.intro hst1 (And.intro (Row.of_own hown1) (And.intro hb1 hbw1))); clear hst1 hown1 hgr1 hb1 hbw1)
  all_goals
    have hS4 := HT.out.1.put 3 (by decide) (.slice ao1 (R.black.length + 1) cap1)
    have hr4 := (HS.out.2.2.2.2.2.below HT.out.2.2.2 (Nat.le_refl _)).set q 3 (.slice ao1 (R.black.length + 1) cap1) (Or.inl (Nat.lt_succ_self _))
    have hn4 := HT.out.2.1.set q 3 (.slice ao1 (R.black.length + 1) cap1) (Or.inl (by omega))
    have hz4 : w1.heap.size = (w1.setCell ⟨q, 3, none⟩ (.slice ao1 (R.black.length + 1) cap1)).heap.size := by simp [World.setCell]
    rw [hz4] at hn4
    have hlt4 : w.heap.size + 2 ≤ (w1.setCell ⟨q, 3, none⟩ (.slice ao1 (R.black.length + 1) cap1)).heap.size := by
      rw [← hz4]
      have := HT.out.2.2.1.size
      have := HS.out.2.2.2.1
      omega
    clear q0 q1 hz4 HT
    generalize (w1.setCell ⟨q, 3, none⟩ (.slice ao1 (R.black.length + 1) cap1)) = w4 at hS4 hr4 hn4 hlt4 ⊢
    have q2 := hS4.cell 2 (by decide)
    rw [if_neg (by decide), HE2.out] at q2
    have HS4 := Lib.hid (And.intro hS4 (And.intro hr4 (And.intro hn4 hlt4)))
    clear hS4 hr4 hn4 hlt4
    go_wp2_with fail
    refine (HWO.out w4 _ HS4.out.2.1).mono ?_
    rintro e w5 ⟨v', rfl, hrow, hb5⟩
    rw [HE.out.1, dropLast_erase] at hrow
    obtain ⟨ax, sx, rfl, -⟩ := id hrow
    have hS5 := HS4.out.1.later hb5
    have hn5 := (HS4.out.2.2.1.below hb5 (Nat.le_refl _))
    have q3 := hS5.cell 2 (by decide)
    rw [if_neg (by decide), HE2.out] at q3
    have q4 := hS5.fz 2
    have q5 := hS5.r0
    have q6 := hS5.r1
    have q7 := hS5.r2
    have q8 := hS5.rz 0
    have q9 := hS5.rz 1
    have q10 := hS5.rz 2
    have hs5 := hb5.size
    have HS5 := Lib.hid (And.intro hS5 (And.intro hrow (And.intro hn5 hs5)))
    clear hS5 hrow hn5 hb5 hs5 q2
    go_wp2_with fail
    have hS := HS5.out.1.put 2 (by decide) (.slice ax l.length (l.length + sx))
    have hd := hS.done (R' := R.done) HO.out 0 false 0 (fun k hk => by
      have h1 := HS4.out.2.2.2
      have h2 := HS5.out.2.2.2
      obtain rfl | rfl | rfl | rfl : k = 0 ∨ k = 1 ∨ k = 2 ∨ k = 3 := by omega
      · exact Or.inl ⟨rfl, rfl⟩
      · exact Or.inl ⟨rfl, rfl⟩
      · refine Or.inr ⟨w4.heap.size, w5.heap.size, Or.inl (by omega), by omega, by simp [World.setCell], ?_⟩
        rw [if_pos rfl]
        have : R.done.row 2 = l := by show R.grey.dropLast = l; rw [HE.out.1]; simp
        rw [this]
        exact HS5.out.2.1.set _ _ _ (Or.inl (by omega))
      · refine Or.inr ⟨w.heap.size + 2, w4.heap.size, Or.inl (by omega), by omega, by simp [World.setCell]; omega, ?_⟩
        rw [if_neg (by decide), if_pos rfl]
        have : R.done.row 3 = [c] ++ R.black := by show R.grey.drop (R.grey.length - 1) ++ R.black = _; rw [HE.out.1]; simp
        rw [this]
        exact HS5.out.2.2.1.set _ _ _ (Or.inl (by omega)))
    obtain ⟨t0, t1, t2⟩ := hS.told 0 false 0
    unfold tolds at hd t0 t1 t2
    exact bodyPost_ret (v := told 0 false 0) (by simp [told, results, Try.results49, go_sem, t0, t1, t2]) rfl ⟨rfl, hd⟩

end Go.Proofs.Ytbjlpmjalidfkaa
