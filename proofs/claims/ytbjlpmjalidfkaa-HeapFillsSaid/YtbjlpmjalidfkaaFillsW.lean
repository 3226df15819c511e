/- HeapFills: its walk. -/
import Derived.Test.YtbjlpmjalidfkaaHpV
namespace Go.Proofs.Ytbjlpmjalidfkaa
open Go.RowKit

theorem HTurn.mapped {T T' : Nat → Nat} {a b c : World} {kb : Nat} (h : HTurn T T' a b) (hg : b.grownBy c (some kb)) (hk : a.heap.size ≤ kb) : HTurn T T' a c :=
  ⟨hg.os.trans h.os, hg.tape.trans h.tape, hg.output.trans h.output, Nat.le_trans h.size hg.size, fun q hq ht => by
    obtain ⟨h1, h2⟩ := h.block q hq ht
    exact ⟨h1, (hg.block q (Nat.lt_of_lt_of_le hq h.size) (fun e => by have := Option.some.inj e; omega)).trans h2⟩⟩

theorem wf_place {k : Int} (h1 : 1 ≤ k) (h2 : k ≤ 65536) : (Lit.int .i64 k).wf = true := by
  have hmin : IntKind.i64.min = -9223372036854775808 := rfl
  have hmax : IntKind.i64.max = 9223372036854775807 := rfl
  simp only [Lit.wf, Bool.and_eq_true, decide_eq_true_eq]
  omega

theorem rises_le {v : Nat → Int} {len : Nat} (h : Rise v len) {i j : Nat} (hij : i ≤ j) (hj : j < len) : v i ≤ v j := by
  induction j with
  | zero => obtain rfl : i = 0 := by omega
            omega
  | succ j ih =>
    by_cases e : i = j + 1
    · subst e; omega
    · have h1 := ih (by omega) (by omega)
      have h2 := (h (j + 1) hj).1
      rw [prev_succ] at h2
      omega

/-- A quotient: how many times a size goes into a room. -/
theorem quo_fits {a W : Int} (h0 : 0 ≤ a) (h1 : a ≤ 600) (hW : 3 ≤ W) : ∃ tot : Nat, wrap64 (a.tdiv W) = tot ∧ a / W = tot ∧ (tot : Int) * W ≤ a ∧ a < tot * W + W ∧ tot < 900 := by
  have e1 := Int.mul_ediv_add_emod a W
  have e2 := Int.emod_nonneg a (show W ≠ 0 by omega)
  have e3 := Int.emod_lt_of_pos a (show 0 < W by omega)
  have e4 : 0 ≤ a / W := Int.ediv_nonneg h0 (by omega)
  have e5 := Int.mul_le_mul_of_nonneg_left hW e4
  rw [Int.mul_comm] at e1
  refine ⟨(a / W).toNat, ?_, by omega, ?_, ?_, ?_⟩
  · rw [Int.tdiv_eq_ediv_of_nonneg h0]
    have : ((a / W).toNat : Int) = a / W := by omega
    rw [this]
    have h := IntKind.wrap_i64 (a / W)
    unfold IntKind.wrap at h
    try simp only at h
    unfold wrap64
    omega
  · rw [show ((a / W).toNat : Int) = a / W by omega]; omega
  · rw [show ((a / W).toNat : Int) = a / W by omega]; omega
  · omega

set_option maxHeartbeats 16000000 in
set_option maxRecDepth 100000 in
theorem fills_walk (words large x2 x3 x4 x5 size : Int) (a0 : Option Addr) (len cap : Nat) (v : Nat → Int) (w : World) (hs : Sizes w a0 len v) :
    Calls Try.prog 6 #[.agg #[.int .i64 words, .int .i64 large, .int .i64 x2, .int .i64 x3, .int .i64 x4, .int .i64 x5, .slice a0 len cap], .int .i64 size] w fun e w' => e = .returned (.bool true) ∧ Below w.heap.size w w' := by
  have q : ∀ (w : World) (a : Nat), (binOp .eql 46 (.pointer (some ⟨a, 0, none⟩)) (.pointer none)).run Try.prog w = .ok (.bool false) w := fun w a => rfl
  have hb : Below w.heap.size w (w.alloc (.cells #[.int .i64 words, .int .i64 large, .int .i64 x2, .int .i64 x3, .int .i64 x4, .int .i64 x5, .slice a0 len cap] 44)) := (Below.refl _ _).alloc (Nat.le_refl _) _
  have c0 : ∀ i u, [Value.int .i64 words, .int .i64 large, .int .i64 x2, .int .i64 x3, .int .i64 x4, .int .i64 x5, .slice a0 len cap][i]? = some u → (w.alloc (.cells #[.int .i64 words, .int .i64 large, .int .i64 x2, .int .i64 x3, .int .i64 x4, .int .i64 x5, .slice a0 len cap] 44)).cell? ⟨w.heap.size, i, none⟩ = some u := fun i u hu => by
    have hi := (List.getElem?_eq_some_iff.1 hu).1
    simp only [List.length_cons, List.length_nil] at hi
    obtain rfl | rfl | rfl | rfl | rfl | rfl | rfl : i = 0 ∨ i = 1 ∨ i = 2 ∨ i = 3 ∨ i = 4 ∨ i = 5 ∨ i = 6 := by omega
    all_goals (simp at hu; subst hu; simp [go_sem])
  have HS := Lib.hid (hs.below hb)
  have HB := Lib.hid hb
  have d0 := c0 0 _ rfl
  have d1 := c0 1 _ rfl
  have d2 := c0 2 _ rfl
  have d3 := c0 3 _ rfl
  have d4 := c0 4 _ rfl
  have d5 := c0 5 _ rfl
  have d6 := c0 6 _ rfl
  have hl0 : w.heap.size < (w.alloc (.cells #[.int .i64 words, .int .i64 large, .int .i64 x2, .int .i64 x3, .int .i64 x4, .int .i64 x5, .slice a0 len cap] 44)).heap.size := by simp
  clear hs hb c0
  go_enter Try.func6, Try.ntmps6
  go_upto_region 1 with fail
  generalize (w.alloc (.cells #[.int .i64 words, .int .i64 large, .int .i64 x2, .int .i64 x3, .int .i64 x4, .int .i64 x5, .slice a0 len cap] 44)) = W at *
  go_wp2_with fail
  refine (hawake_any W).mono ?_
  rintro e w1 ⟨rfl, hb⟩
  replace d0 := later' hb d0
  replace d1 := later' hb d1
  replace d2 := later' hb d2
  replace d3 := later' hb d3
  replace d4 := later' hb d4
  replace d5 := later' hb d5
  replace d6 := later' hb d6
  have HS1 := Lib.hid (HS.out.below hb)
  have HB1 := Lib.hid (onB' HB.out hb)
  clear hb HS HB
  go_wp2_with fail
  refine (right_any words large x2 x3 x4 x5 a0 len cap v w1 HS1.out).mono ?_
  rintro e w2 ⟨r, rfl, hr, hb⟩
  replace d0 := later' hb d0
  replace d1 := later' hb d1
  replace d2 := later' hb d2
  replace d3 := later' hb d3
  replace d4 := later' hb d4
  replace d5 := later' hb d5
  replace d6 := later' hb d6
  have HS2 := Lib.hid (HS1.out.below hb)
  have HB2 := Lib.hid (onB' HB1.out hb)
  have HR := Lib.hid hr
  clear hb HS1 HB1 hr
  cases r with
  | false =>
    go_wp2_with fail
    go_ret
    exact ⟨rfl, HB2.out⟩
  | true =>
    by_cases gwords : 600 < words
    · have fwords : decide (600 < words) = true := decide_eq_true gwords
      go_wp2_with fail
      go_ret
      exact ⟨rfl, HB2.out⟩
    have fwords : decide (600 < words) = false := decide_eq_false gwords
    by_cases gs1 : size < 0
    · have fs1 : decide (size < 0) = true := decide_eq_true gs1
      go_wp2_with fail
      go_ret
      exact ⟨rfl, HB2.out⟩
    have fs1 : decide (size < 0) = false := decide_eq_false gs1
    by_cases gs2 : 31 < size
    · have fs2 : decide (31 < size) = true := decide_eq_true gs2
      go_wp2_with fail
      go_ret
      exact ⟨rfl, HB2.out⟩
    have fs2 : decide (31 < size) = false := decide_eq_false gs2
    go_wp2_with fail
    clear fwords fs1 fs2
    refine (heap_new words large x2 x3 x4 x5 a0 len cap v w2 HS2.out (HR.out trivial)).mono ?_
    rintro e w3 ⟨x, T, rfl, f1, f2, f3, f4, h1, hb1, hT⟩
    have hz2 := HB2.out.size
    have hz3 := hb1.size
    have hRP := HR.out trivial
    have hp0 := hRP.w1
    have hp1 := hRP.w2
    have hp2 := hRP.l1
    have hp3 := hRP.l2
    have hp4 := hRP.k1
    have hp5 := hRP.k2
    subst f4
    subst f3
    subst f1
    obtain rfl : large = x.n - x.lim := by omega
    clear f2
    have hI1 := inv_new (L := Ex.whole x.lim (x.n - x.lim : Int)) (show 1 ≤ x.lim by omega) (by omega) (by omega) hRP.rise.pos
    have HRP := Lib.hid hRP
    obtain ⟨g0, off, rfl, hg0, hcs⟩ := HS2.out hp4
    have hlast := hcs (x.k - 1) (by omega)
    have hlc := World.block_lt_of_cell? _ _ d6
    simp only at hlc
    have H1 := Lib.hid (And.intro h1 (And.intro (HB2.out.trans (hb1.mono hz2)) hI1))
    have HT := Lib.hid hT
    replace d0 := later' hb1 d0
    replace d1 := later' hb1 d1
    replace d6 := later' hb1 d6
    replace hlast := later' hb1 hlast
    clear h1 hb1 hI1 hT d2 d3 d4 d5 hRP HR HS2 hcs
    have elen : IntKind.i64.wrap ((x.k : Int) - 1) = (x.k : Int) - 1 := by rw [IntKind.wrap_i64]; omega
    have er1 : IntKind.i64.wrap ((x.n : Int) - (x.n - x.lim)) = x.lim := by rw [IntKind.wrap_i64]; omega
    have er2 : IntKind.i64.wrap ((x.lim : Int) - 1) = x.lim - 1 := by rw [IntKind.wrap_i64]; omega
    obtain ⟨i, hC⟩ := cls_ex x.sz x.k size
    have hmk : ∀ W, (Instr.makeMap 76 none).run Try.prog W = .ok (.map (some W.heap.size)) (W.alloc (.map #[] 0)) := fun W => rfl
    have hq0 : Fil x size i 0 (fun _ => 0) (fun _ => none4) 1 0 (Ex.whole x.lim (x.n - x.lim : Int)) [] [] := ⟨rfl, fun _ _ _ => rfl, H1.out.2.2, Or.inl rfl, fun _ => ⟨by simp, Or.inl rfl⟩, fun _ => ⟨rfl, by simp, fun c hc => by cases hc⟩⟩
    by_cases gi : i < x.k
    · have hle : ¬ x.sz (x.k - 1) < size := by
        have h1 := hC.fits gi
        have := rises_le HRP.out.rise (show i ≤ x.k - 1 by omega) (by omega)
        omega
      have flast : decide (x.sz (x.k - 1) < size) = false := decide_eq_false hle
      have hsz := H1.out.2.2.sz i gi
      obtain ⟨tot, edv, edv2, dv1, dv2, dv3⟩ := quo_fits (a := ((x.lim : Int) - 1)) (W := x.sz i + 3) (by omega) (by omega) (by omega)
      have hz0 : ¬ (x.sz i + 3 = 0) := by omega
      have hW : Wants x size i tot := ⟨by omega, by omega, hC, fun _ => ⟨by omega, by omega⟩, fun e => by omega, dv3⟩
      go_wp2_with fail
      refine (round_any x T _ _ 1 0 _ w3 H1.out.1 size (by omega) i hC (H1.out.2.2.sz i)).mono ?_
      rintro e w4 ⟨rfl, hb⟩
      rw [if_pos gi]
      have hL4 := H1.out.1.later hb
      have H4 := Lib.hid (And.intro hL4 (And.intro (H1.out.2.1.trans (hb.mono (by omega))) (hb.size)))
      replace d6 := later' hb d6
      replace hlast := later' hb hlast
      clear hb hL4
      go_wp2_with fail
      try rw [edv]
      try rw [edv2]
      have HW := Lib.hid hW
      have HF0 := Lib.hid (show Fil x size i tot (fun _ => 0) (fun _ => none4) 1 0 (Ex.whole x.lim (x.n - x.lim : Int)) [] [] from ⟨hq0.row, hq0.rest, hq0.inv, hq0.par, fun g => ⟨(hq0.small g).1, Or.inl rfl⟩, hq0.big⟩)
      have HD := Lib.hid (And.intro d6 hlast)
      clear hW hq0 dv1 dv2 hC d0 d1 d6 hlast edv edv2 er1 er2 H1
      go_loopw [9] (fun s9 wr => ∃ (t : Nat) (T' : Nat → Nat) (D : Nat → Int) (R : Nat → Rows) (top par : Int) (L : List (Int × Int)) (Wh : List Int), t ≤ 2 ∧ s9 = .int .i64 t ∧ HLies x T' D R top par L wr ∧ HTurn T T' w4 wr ∧ Fil x size i tot D R top par L [] Wh) (fun s9 _ => 2 - (intOf s9).toNat)
      case atStart => exact ⟨0, T, _, _, _, _, _, [], Nat.zero_le _, rfl, H4.out.1, HTurn.refl T w4, HF0.out⟩
      case round =>
        obtain ⟨t, T', D, R, top, par, L, Wh, ht, rfl, hl, htn, hf⟩ := hrel
        have HH := Lib.hid (And.intro hl (And.intro htn hf))
        clear hl htn hf HF0
        by_cases gt : t < 2
        · have gt' : (t : Int) < 2 := by omega
          go_wp2_with fail
          obtain ⟨r1, r2⟩ := HH.out.1.retag
          have hx := (Below.refl wr.heap.size wr).alloc (Nat.le_refl _) (.map #[] 0)
          have hM := bmap_made wr
          have hk0 : retag T' wr.heap.size wr.heap.size = 1000 := if_neg (Nat.lt_irrefl _)
          have HX := Lib.hid (And.intro (r1.later hx) (And.intro ((HH.out.2.1.trans r2).trans (HTurn.of_below hx)) (And.intro HH.out.2.2 (And.intro hM (And.intro hk0 HH.out.2.1.size)))))
          clear r1 r2 hx hM hk0
          generalize retag T' wr.heap.size = T1 at *
          generalize wr.alloc (.map #[] 0) = w5 at *
          generalize hkb : wr.heap.size = kb at *
          go_loopw [11] (fun s11 wr => ∃ (k : Nat) (T2 : Nat → Nat) (D2 : Nat → Int) (R2 : Nat → Rows) (top2 : Int) (L2 : List (Int × Int)) (B Wh2 : List Int), k ≤ tot ∧ s11 = .int .i64 k ∧ B.length = k ∧ HLies x T2 D2 R2 top2 par L2 wr ∧ HTurn T T2 w4 wr ∧ Fil x size i tot D2 R2 top2 par L2 B Wh2 ∧ BMap wr kb k B ∧ T2 kb = 1000) (fun s11 _ => tot - (intOf s11).toNat)
          case atStart => exact ⟨0, T1, D, R, top, L, [], Wh, Nat.zero_le _, rfl, rfl, HX.out.1, HX.out.2.1, HX.out.2.2.1, HX.out.2.2.2.1, HX.out.2.2.2.2.1⟩
          case round =>
            obtain ⟨k, T2, D2, R2, top2, L2, B, Wh2, hk, rfl, hBk, hl2, ht2, hf2, hm2, hkb2⟩ := hrel
            have hpe : Ce.pe 7 size 0 par = 0 := Ce.pe_ok ⟨by omega, by omega, by omega, by have := hf2.par; omega⟩
            have HY := Lib.hid (And.intro hl2 (And.intro ht2 (And.intro hf2 (And.intro hm2 hkb2))))
            clear hl2 ht2 hf2 hm2 hkb2 HH
            by_cases gk : k < tot
            · have gk' : (k : Int) < (tot : Int) := by omega
              go_wp2_with fail
              refine (alloc_any x T2 D2 R2 top2 par L2 _ HY.out.1 HY.out.2.2.1.inv 7 0 size).mono ?_
              intro e w6 h6
              obtain ⟨at', T3, D3, R3, top3, L3, Wh3, rfl, hl3, ht3, hf3, hni, p1, p2⟩ := fill_step HW.out HY.out.1 HY.out.2.2.1 (by omega) hpe h6
              have hm3 := HY.out.2.2.2.1.turn ht3 HY.out.2.2.2.2
              have hk3 := (ht3.block kb HY.out.2.2.2.1.lt HY.out.2.2.2.2).1
              have hlk := hm3.look at' (wf_place p1 p2)
              rw [decide_eq_false hni] at hlk
              have HZ := Lib.hid (And.intro hl3 (And.intro (HY.out.2.1.trans ht3) (And.intro hf3 (And.intro hm3 hk3))))
              clear hl3 ht3 hf3 hm3 hk3 h6 hni
              go_wp2_with (at_mapUpdate; refine wp_bput _ rfl _ _ _ rfl kb k B rfl HZ.out.2.2.2.1 (by omega) at' rfl rfl (wf_place p1 p2) ?_; intro w7 hM7 hg7; have HV := Lib.hid (And.intro (HZ.out.1.mapped hg7 HZ.out.2.2.2.2 hg7.size) (And.intro (HZ.out.2.1.mapped hg7 (by have := HX.out.2.2.2.2.2; omega)) hM7)); clear hM7 hg7 hlk)
              exact ⟨⟨k + 1, T3, D3, R3, top3, L3, B ++ [at'], Wh3, by omega, by go_num, by simp [hBk], HV.out.1, HV.out.2.1, HZ.out.2.2.1, HV.out.2.2, HZ.out.2.2.2.2⟩, by simp [intOf]; omega⟩
            · obtain rfl : tot = k := by omega
              go_wp2_with fail
              refine (alloc_any x T2 D2 R2 top2 par L2 _ HY.out.1 HY.out.2.2.1.inv 7 0 size).mono ?_
              intro e w6 h6
              obtain ⟨rfl, T3, rfl, hl3, ht3⟩ := fill_full HW.out HY.out.2.2.1 hBk hpe h6
              have HZ := Lib.hid (And.intro hl3 (HY.out.2.1.trans ht3))
              clear hl3 ht3 h6
              go_wp2_with fail
              have hfr : ∀ j, j ≤ x.k → (R2 j).frm = [] := fun j hj => by
                by_cases e : j = i
                · subst e; rw [HY.out.2.2.1.row]
                · rw [HY.out.2.2.1.rest j hj e]; rfl
              have hgr : ∀ j, j ≤ x.k → (R2 j).grey = [] := fun j hj => by
                by_cases e : j = i
                · subst e; rw [HY.out.2.2.1.row]
                · rw [HY.out.2.2.1.rest j hj e]; rfl
              refine (hbegin_any x T3 D2 R2 top2 par L2 w6 HZ.out.1 (by omega) HY.out.2.2.1.par hfr hgr).mono ?_
              rintro e w7 ⟨rfl, T4, hl4, ht4⟩
              have H7 := Lib.hid (And.intro hl4 (And.intro (HZ.out.2.trans ht4) (show ∀ j, j ≤ x.k → (mix Rows.begin R2 (x.k + 1) j).grey = [] from fun j hj => by
                unfold mix
                rw [if_pos (by omega)]
                exact hgr j hj)))
              have HSW := Lib.hid (fill_swept HW.out.cls.le HY.out.2.2.1 hBk)
              clear hl4 ht4 hfr hgr HZ HX
              go_wp2_with fail
              refine (hend_any x T4 D2 _ top2 (1 - par) L2 w7 H7.out.1 (by omega) H7.out.2.2).mono ?_
              rintro e w8 ⟨rfl, T5, hl5, ht5⟩
              have HS := Lib.hid (And.intro (show HLies x T5 D2 (cycled x R2) top2 (1 - par) L2 w8 from hl5) (And.intro (H7.out.2.1.trans ht5) HSW.out))
              clear hl5 ht5 H7 HSW HY
              go_wp2_with fail
              generalize cycled x R2 = R5 at *
              generalize wr = wA at *
              go_loopw [16, 17] (fun s16 s17 wr => ∃ (j m : Nat) (T6 : Nat → Nat) (D6 : Nat → Int) (R6 : Nat → Rows) (L6 : List (Int × Int)) (Wh6 : List Int), j ≤ tot + 1 ∧ s16 = .int .i64 m ∧ s17 = .int .i64 j ∧ m ≤ j ∧ HLies x T6 D6 R6 top2 (1 - par) L6 wr ∧ HTurn T T6 w4 wr ∧ Swp x size i tot D6 R6 top2 (1 - par) L6 Wh6 m ∧ (i = x.k → Wh6 = [] ∨ m = j)) (fun _ s17 _ => tot + 1 - (intOf s17).toNat)
              case atStart => exact ⟨0, 0, T5, D2, R5, L2, B, Nat.zero_le _, rfl, rfl, Nat.le_refl _, HS.out.1, HS.out.2.1, HS.out.2.2, fun _ => Or.inr rfl⟩
              case round =>
                obtain ⟨j, m, T6, D6, R6, L6, Wh6, hj, rfl, rfl, hmj, hl6, ht6, hs6, hwm⟩ := hrel
                have HQ := Lib.hid (And.intro hl6 (And.intro ht6 (And.intro hs6 hwm)))
                clear hl6 ht6 hs6 hwm HS
                by_cases gj : j ≤ tot
                · have gj' : (j : Int) ≤ (tot : Int) := by omega
                  go_wp2_with fail
                  refine (sweep_none x T6 D6 R6 top2 (1 - par) L6 _ HQ.out.1 (by rw [HQ.out.2.2.1.rest x.k (Nat.le_refl _) (by omega)]; rfl)).mono ?_
                  rintro e w9 ⟨rfl, rfl⟩
                  go_wp2_with fail
                  exact ⟨⟨j + 1, m, T6, D6, R6, L6, Wh6, by omega, rfl, by go_num, by omega, HQ.out.1, HQ.out.2.1, HQ.out.2.2.1, fun e => by omega⟩, by simp [intOf]; omega⟩
                · obtain rfl : j = tot + 1 := by omega
                  have c6 := HQ.out.2.1.cell HD.out.1 (HT.out _ hlc)
                  have cl := HQ.out.2.1.cell HD.out.2 (HT.out _ hg0)
                  have gj' : ¬ ((tot + 1 : Nat) : Int) ≤ (tot : Int) := by omega
                  go_wp2_with fail
                  exact ⟨⟨t + 1, T6, D6, R6, top2, 1 - par, L6, Wh6, by omega, by go_num, HQ.out.1, HQ.out.2.1, swept_fill HQ.out.1.good HQ.out.2.2.1 (fun e => by omega)⟩, by simp [intOf]; omega⟩
        · obtain rfl : t = 2 := by omega
          go_wp2_with fail
          go_ret
          exact ⟨rfl, H4.out.2.1.trans (HH.out.2.1.below (fun b hb => HT.out b (by omega)) (by have := H4.out.2.2; omega))⟩
    · obtain rfl : i = x.k := by have := hC.le; omega
      have hle : x.sz (x.k - 1) < size := hC.low _ (by omega)
      have flast : decide (x.sz (x.k - 1) < size) = true := decide_eq_true hle
      obtain ⟨tot, edv, edv2, dv1, dv2, dv3⟩ := quo_fits (a := ((x.n : Int) - x.lim)) (W := size + 3) (by omega) (by omega) (by omega)
      have hz0 : ¬ (size + 3 = 0) := by omega
      have hW : Wants x size x.k tot := ⟨by omega, by omega, hC, fun g => absurd g (Nat.lt_irrefl _), fun _ => ⟨by omega, by omega⟩, dv3⟩
      go_wp2_with fail
      refine (round_any x T _ _ 1 0 _ w3 H1.out.1 size (by omega) x.k hC (H1.out.2.2.sz x.k)).mono ?_
      rintro e w4 ⟨rfl, hb⟩
      rw [if_neg (Nat.lt_irrefl _)]
      have hL4 := H1.out.1.later hb
      have H4 := Lib.hid (And.intro hL4 (And.intro (H1.out.2.1.trans (hb.mono (by omega))) (hb.size)))
      replace d6 := later' hb d6
      replace hlast := later' hb hlast
      clear hb hL4
      go_wp2_with fail
      try rw [edv]
      try rw [edv2]
      have HW := Lib.hid hW
      have HF0 := Lib.hid (show Fil x size x.k tot (fun _ => 0) (fun _ => none4) 1 0 (Ex.whole x.lim (x.n - x.lim : Int)) [] [] from ⟨hq0.row, hq0.rest, hq0.inv, hq0.par, fun g => ⟨(hq0.small g).1, Or.inl rfl⟩, hq0.big⟩)
      have HD := Lib.hid (And.intro d6 hlast)
      clear hW hq0 dv1 dv2 hC d0 d1 d6 hlast edv edv2 er1 er2 H1
      go_loopw [9] (fun s9 wr => ∃ (t : Nat) (T' : Nat → Nat) (D : Nat → Int) (R : Nat → Rows) (top par : Int) (L : List (Int × Int)) (Wh : List Int), t ≤ 2 ∧ s9 = .int .i64 t ∧ HLies x T' D R top par L wr ∧ HTurn T T' w4 wr ∧ Fil x size x.k tot D R top par L [] Wh) (fun s9 _ => 2 - (intOf s9).toNat)
      case atStart => exact ⟨0, T, _, _, _, _, _, [], Nat.zero_le _, rfl, H4.out.1, HTurn.refl T w4, HF0.out⟩
      case round =>
        obtain ⟨t, T', D, R, top, par, L, Wh, ht, rfl, hl, htn, hf⟩ := hrel
        have HH := Lib.hid (And.intro hl (And.intro htn hf))
        clear hl htn hf HF0
        by_cases gt : t < 2
        · have gt' : (t : Int) < 2 := by omega
          go_wp2_with fail
          obtain ⟨r1, r2⟩ := HH.out.1.retag
          have hx := (Below.refl wr.heap.size wr).alloc (Nat.le_refl _) (.map #[] 0)
          have hM := bmap_made wr
          have hk0 : retag T' wr.heap.size wr.heap.size = 1000 := if_neg (Nat.lt_irrefl _)
          have HX := Lib.hid (And.intro (r1.later hx) (And.intro ((HH.out.2.1.trans r2).trans (HTurn.of_below hx)) (And.intro HH.out.2.2 (And.intro hM (And.intro hk0 HH.out.2.1.size)))))
          clear r1 r2 hx hM hk0
          generalize retag T' wr.heap.size = T1 at *
          generalize wr.alloc (.map #[] 0) = w5 at *
          generalize hkb : wr.heap.size = kb at *
          go_loopw [11] (fun s11 wr => ∃ (k : Nat) (T2 : Nat → Nat) (D2 : Nat → Int) (R2 : Nat → Rows) (top2 : Int) (L2 : List (Int × Int)) (B Wh2 : List Int), k ≤ tot ∧ s11 = .int .i64 k ∧ B.length = k ∧ HLies x T2 D2 R2 top2 par L2 wr ∧ HTurn T T2 w4 wr ∧ Fil x size x.k tot D2 R2 top2 par L2 B Wh2 ∧ BMap wr kb k B ∧ T2 kb = 1000) (fun s11 _ => tot - (intOf s11).toNat)
          case atStart => exact ⟨0, T1, D, R, top, L, [], Wh, Nat.zero_le _, rfl, rfl, HX.out.1, HX.out.2.1, HX.out.2.2.1, HX.out.2.2.2.1, HX.out.2.2.2.2.1⟩
          case round =>
            obtain ⟨k, T2, D2, R2, top2, L2, B, Wh2, hk, rfl, hBk, hl2, ht2, hf2, hm2, hkb2⟩ := hrel
            have hpe : Ce.pe 7 size 0 par = 0 := Ce.pe_ok ⟨by omega, by omega, by omega, by have := hf2.par; omega⟩
            have HY := Lib.hid (And.intro hl2 (And.intro ht2 (And.intro hf2 (And.intro hm2 hkb2))))
            clear hl2 ht2 hf2 hm2 hkb2 HH
            by_cases gk : k < tot
            · have gk' : (k : Int) < (tot : Int) := by omega
              go_wp2_with fail
              refine (alloc_any x T2 D2 R2 top2 par L2 _ HY.out.1 HY.out.2.2.1.inv 7 0 size).mono ?_
              intro e w6 h6
              obtain ⟨at', T3, D3, R3, top3, L3, Wh3, rfl, hl3, ht3, hf3, hni, p1, p2⟩ := fill_step HW.out HY.out.1 HY.out.2.2.1 (by omega) hpe h6
              have hm3 := HY.out.2.2.2.1.turn ht3 HY.out.2.2.2.2
              have hk3 := (ht3.block kb HY.out.2.2.2.1.lt HY.out.2.2.2.2).1
              have hlk := hm3.look at' (wf_place p1 p2)
              rw [decide_eq_false hni] at hlk
              have HZ := Lib.hid (And.intro hl3 (And.intro (HY.out.2.1.trans ht3) (And.intro hf3 (And.intro hm3 hk3))))
              clear hl3 ht3 hf3 hm3 hk3 h6 hni
              go_wp2_with (at_mapUpdate; refine wp_bput _ rfl _ _ _ rfl kb k B rfl HZ.out.2.2.2.1 (by omega) at' rfl rfl (wf_place p1 p2) ?_; intro w7 hM7 hg7; have HV := Lib.hid (And.intro (HZ.out.1.mapped hg7 HZ.out.2.2.2.2 hg7.size) (And.intro (HZ.out.2.1.mapped hg7 (by have := HX.out.2.2.2.2.2; omega)) hM7)); clear hM7 hg7 hlk)
              exact ⟨⟨k + 1, T3, D3, R3, top3, L3, B ++ [at'], Wh3, by omega, by go_num, by simp [hBk], HV.out.1, HV.out.2.1, HZ.out.2.2.1, HV.out.2.2, HZ.out.2.2.2.2⟩, by simp [intOf]; omega⟩
            · obtain rfl : tot = k := by omega
              go_wp2_with fail
              refine (alloc_any x T2 D2 R2 top2 par L2 _ HY.out.1 HY.out.2.2.1.inv 7 0 size).mono ?_
              intro e w6 h6
              obtain ⟨rfl, T3, rfl, hl3, ht3⟩ := fill_full HW.out HY.out.2.2.1 hBk hpe h6
              have HZ := Lib.hid (And.intro hl3 (HY.out.2.1.trans ht3))
              clear hl3 ht3 h6
              go_wp2_with fail
              have hfr : ∀ j, j ≤ x.k → (R2 j).frm = [] := fun j hj => by
                by_cases e : j = x.k
                · rw [e, HY.out.2.2.1.row]
                · rw [HY.out.2.2.1.rest j hj e]; rfl
              have hgr : ∀ j, j ≤ x.k → (R2 j).grey = [] := fun j hj => by
                by_cases e : j = x.k
                · rw [e, HY.out.2.2.1.row]
                · rw [HY.out.2.2.1.rest j hj e]; rfl
              refine (hbegin_any x T3 D2 R2 top2 par L2 w6 HZ.out.1 (by omega) HY.out.2.2.1.par hfr hgr).mono ?_
              rintro e w7 ⟨rfl, T4, hl4, ht4⟩
              have H7 := Lib.hid (And.intro hl4 (And.intro (HZ.out.2.trans ht4) (show ∀ j, j ≤ x.k → (mix Rows.begin R2 (x.k + 1) j).grey = [] from fun j hj => by
                unfold mix
                rw [if_pos (by omega)]
                exact hgr j hj)))
              have HSW := Lib.hid (fill_swept HW.out.cls.le HY.out.2.2.1 hBk)
              clear hl4 ht4 hfr hgr HZ HX
              go_wp2_with fail
              refine (hend_any x T4 D2 _ top2 (1 - par) L2 w7 H7.out.1 (by omega) H7.out.2.2).mono ?_
              rintro e w8 ⟨rfl, T5, hl5, ht5⟩
              have HS := Lib.hid (And.intro (show HLies x T5 D2 (cycled x R2) top2 (1 - par) L2 w8 from hl5) (And.intro (H7.out.2.1.trans ht5) HSW.out))
              clear hl5 ht5 H7 HSW HY
              go_wp2_with fail
              generalize cycled x R2 = R5 at *
              generalize wr = wA at *
              go_loopw [16, 17] (fun s16 s17 wr => ∃ (j m : Nat) (T6 : Nat → Nat) (D6 : Nat → Int) (R6 : Nat → Rows) (L6 : List (Int × Int)) (Wh6 : List Int), j ≤ tot + 1 ∧ s16 = .int .i64 m ∧ s17 = .int .i64 j ∧ m ≤ j ∧ HLies x T6 D6 R6 top2 (1 - par) L6 wr ∧ HTurn T T6 w4 wr ∧ Swp x size x.k tot D6 R6 top2 (1 - par) L6 Wh6 m ∧ (x.k = x.k → Wh6 = [] ∨ m = j)) (fun _ s17 _ => tot + 1 - (intOf s17).toNat)
              case atStart => exact ⟨0, 0, T5, D2, R5, L2, B, Nat.zero_le _, rfl, rfl, Nat.le_refl _, HS.out.1, HS.out.2.1, HS.out.2.2, fun _ => Or.inr rfl⟩
              case round =>
                obtain ⟨j, m, T6, D6, R6, L6, Wh6, hj, rfl, rfl, hmj, hl6, ht6, hs6, hwm⟩ := hrel
                have HQ := Lib.hid (And.intro hl6 (And.intro ht6 (And.intro hs6 hwm)))
                clear hl6 ht6 hs6 hwm HS
                by_cases gj : j ≤ tot
                · have gj' : (j : Int) ≤ (tot : Int) := by omega
                  obtain ⟨q1, q2, q3⟩ := HQ.out.2.2.1.big rfl
                  cases hwq : Wh6 with
                  | nil =>
                    go_wp2_with fail
                    refine (sweep_none x T6 D6 R6 top2 (1 - par) L6 _ HQ.out.1 (by rw [HQ.out.2.2.1.row, hwq])).mono ?_
                    rintro e w9 ⟨rfl, rfl⟩
                    go_wp2_with fail
                    exact ⟨⟨j + 1, m, T6, D6, R6, L6, Wh6, by omega, rfl, by go_num, by omega, HQ.out.1, HQ.out.2.1, HQ.out.2.2.1, fun _ => Or.inl hwq⟩, by simp [intOf]; omega⟩
                  | cons c l =>
                    subst hwq
                    obtain ⟨kd, a, mk, hd⟩ := q3 c (List.mem_cons_self ..)
                    have hmj' : m = j := by
                      rcases HQ.out.2.2.2 rfl with h | h
                      · cases h
                      · exact h
                    go_wp2_with fail
                    refine (sweep_any x T6 D6 R6 top2 (1 - par) L6 _ HQ.out.1 HQ.out.2.2.1.inv c l (by rw [HQ.out.2.2.1.row]) kd size a mk hd).mono ?_
                    rintro e w9 ⟨rfl, T7, D7, M7, hl7, ht7, hD7, hG7⟩
                    have HQ7 := Lib.hid (And.intro hl7 (And.intro (HQ.out.2.1.trans ht7) (swept_step rfl HQ.out.1.good HQ.out.2.2.1 ((HQ.out.1.rings x.k (Nat.le_refl _)).fit.nodup) hD7 hG7)))
                    clear hl7 ht7 hD7 hG7
                    go_wp2_with fail
                    exact ⟨⟨j + 1, m + 1, T7, D7, _, M7, l, by omega, by go_num, by go_num, by omega, HQ7.out.1, HQ7.out.2.1, HQ7.out.2.2, fun _ => Or.inr (by omega)⟩, by simp [intOf]; omega⟩
                · obtain rfl : j = tot + 1 := by omega
                  obtain ⟨q1, q2, q3⟩ := HQ.out.2.2.1.big rfl
                  have hwq : Wh6 = [] := by
                    rcases HQ.out.2.2.2 rfl with h | h
                    · exact h
                    · omega
                  obtain rfl : tot = m := by rw [hwq] at q1; simpa using q1.symm
                  have c6 := HQ.out.2.1.cell HD.out.1 (HT.out _ hlc)
                  have cl := HQ.out.2.1.cell HD.out.2 (HT.out _ hg0)
                  have gj' : ¬ ((tot + 1 : Nat) : Int) ≤ (tot : Int) := by omega
                  go_wp2_with fail
                  exact ⟨⟨t + 1, T6, D6, R6, top2, 1 - par, L6, Wh6, by omega, by go_num, HQ.out.1, HQ.out.2.1, swept_fill HQ.out.1.good HQ.out.2.2.1 (fun _ => hwq)⟩, by simp [intOf]; omega⟩
        · obtain rfl : t = 2 := by omega
          go_wp2_with fail
          go_ret
          exact ⟨rfl, H4.out.2.1.trans (HH.out.2.1.below (fun b hb => HT.out b (by omega)) (by have := H4.out.2.2; omega))⟩

end Go.Proofs.Ytbjlpmjalidfkaa
