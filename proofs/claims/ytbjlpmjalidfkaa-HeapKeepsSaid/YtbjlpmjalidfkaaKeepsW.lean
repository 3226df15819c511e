/- HeapKeeps: its walk. -/
import Derived.Test.YtbjlpmjalidfkaaHpN
namespace Go.Proofs.Ytbjlpmjalidfkaa
open Go.RowKit

set_option maxHeartbeats 16000000 in
set_option maxRecDepth 100000 in
theorem keeps_walk (words large x2 x3 x4 x5 a b k word kind : Int) (a0 : Option Addr) (len cap : Nat) (v : Nat → Int) (w : World) (hs : Sizes w a0 len v) :
    Calls Try.prog 7 #[.agg #[.int .i64 words, .int .i64 large, .int .i64 x2, .int .i64 x3, .int .i64 x4, .int .i64 x5, .slice a0 len cap], .int .i64 a, .int .i64 b, .int .i64 k, .int .i64 word, .int .i64 kind] w fun e w' => e = .returned (.bool true) ∧ Below w.heap.size w w' := by
  have q : ∀ (w : World) (a : Nat), (binOp .eql 46 (.pointer (some ⟨a, 0, none⟩)) (.pointer none)).run Try.prog w = .ok (.bool false) w := fun w a => rfl
  have hb : Below w.heap.size w (w.alloc (.cells #[.int .i64 words, .int .i64 large, .int .i64 x2, .int .i64 x3, .int .i64 x4, .int .i64 x5, .slice a0 len cap] 44)) := (Below.refl _ _).alloc (Nat.le_refl _) _
  have c0 : ∀ i u, [Value.int .i64 words, .int .i64 large, .int .i64 x2, .int .i64 x3, .int .i64 x4, .int .i64 x5, .slice a0 len cap][i]? = some u → (w.alloc (.cells #[.int .i64 words, .int .i64 large, .int .i64 x2, .int .i64 x3, .int .i64 x4, .int .i64 x5, .slice a0 len cap] 44)).cell? ⟨w.heap.size, i, none⟩ = some u := fun i u hu => by
    have hi := (List.getElem?_eq_some_iff.1 hu).1
    simp only [List.length_cons, List.length_nil] at hi
    obtain rfl | rfl | rfl | rfl | rfl | rfl | rfl : i = 0 ∨ i = 1 ∨ i = 2 ∨ i = 3 ∨ i = 4 ∨ i = 5 ∨ i = 6 := by omega
    all_goals (simp at hu; subst hu; simp [go_sem])
  have HS := Lib.hid (hs.below hb)
  have HB := Lib.hid hb
  have d0 := c0 0 _ rfl
  have d1 := c0 1 _ rfl
  have d2 := c0 2 _ rfl
  have d3 := c0 3 _ rfl
  have d4 := c0 4 _ rfl
  have d5 := c0 5 _ rfl
  have d6 := c0 6 _ rfl
  have hl0 : w.heap.size < (w.alloc (.cells #[.int .i64 words, .int .i64 large, .int .i64 x2, .int .i64 x3, .int .i64 x4, .int .i64 x5, .slice a0 len cap] 44)).heap.size := by simp
  clear hs hb c0
  go_enter Try.func7, Try.ntmps7
  go_upto_region 1 with fail
  generalize (w.alloc (.cells #[.int .i64 words, .int .i64 large, .int .i64 x2, .int .i64 x3, .int .i64 x4, .int .i64 x5, .slice a0 len cap] 44)) = W at *
  go_wp2_with fail
  refine (hawake_any W).mono ?_
  rintro e w1 ⟨rfl, hb⟩
  replace d0 := later' hb d0
  replace d1 := later' hb d1
  replace d2 := later' hb d2
  replace d3 := later' hb d3
  replace d4 := later' hb d4
  replace d5 := later' hb d5
  replace d6 := later' hb d6
  have HS1 := Lib.hid (HS.out.below hb)
  have HB1 := Lib.hid (onB' HB.out hb)
  clear hb HS HB
  go_wp2_with fail
  refine (right_any words large x2 x3 x4 x5 a0 len cap v w1 HS1.out).mono ?_
  rintro e w2 ⟨r, rfl, hr, hb⟩
  replace d0 := later' hb d0
  replace d1 := later' hb d1
  replace d2 := later' hb d2
  replace d3 := later' hb d3
  replace d4 := later' hb d4
  replace d5 := later' hb d5
  replace d6 := later' hb d6
  have HS2 := Lib.hid (HS1.out.below hb)
  have HB2 := Lib.hid (onB' HB1.out hb)
  have HR := Lib.hid hr
  clear hb HS1 HB1 hr
  cases r with
  | false =>
    go_wp2_with fail
    go_ret
    exact ⟨rfl, HB2.out⟩
  | true =>
    by_cases gwords : 600 < words
    · have fwords : decide (600 < words) = true := decide_eq_true gwords
      go_wp2_with fail
      go_ret
      exact ⟨rfl, HB2.out⟩
    have fwords : decide (600 < words) = false := decide_eq_false gwords
    by_cases ga1 : a < 1
    · have fa1 : decide (a < 1) = true := decide_eq_true ga1
      go_wp2_with fail
      go_ret
      exact ⟨rfl, HB2.out⟩
    have fa1 : decide (a < 1) = false := decide_eq_false ga1
    by_cases ga2 : 31 < a
    · have fa2 : decide (31 < a) = true := decide_eq_true ga2
      go_wp2_with fail
      go_ret
      exact ⟨rfl, HB2.out⟩
    have fa2 : decide (31 < a) = false := decide_eq_false ga2
    by_cases gb1 : b < 1
    · have fb1 : decide (b < 1) = true := decide_eq_true gb1
      go_wp2_with fail
      go_ret
      exact ⟨rfl, HB2.out⟩
    have fb1 : decide (b < 1) = false := decide_eq_false gb1
    by_cases gb2 : 31 < b
    · have fb2 : decide (31 < b) = true := decide_eq_true gb2
      go_wp2_with fail
      go_ret
      exact ⟨rfl, HB2.out⟩
    have fb2 : decide (31 < b) = false := decide_eq_false gb2
    by_cases gk1 : k < 0
    · have fk1 : decide (k < 0) = true := decide_eq_true gk1
      go_wp2_with fail
      go_ret
      exact ⟨rfl, HB2.out⟩
    have fk1 : decide (k < 0) = false := decide_eq_false gk1
    by_cases gk2 : a ≤ k
    · have fk2 : decide (a ≤ k) = true := decide_eq_true gk2
      go_wp2_with fail
      go_ret
      exact ⟨rfl, HB2.out⟩
    have fk2 : decide (a ≤ k) = false := decide_eq_false gk2
    by_cases gq1 : kind < 0
    · have fq1 : decide (kind < 0) = true := decide_eq_true gq1
      go_wp2_with fail
      go_ret
      exact ⟨rfl, HB2.out⟩
    have fq1 : decide (kind < 0) = false := decide_eq_false gq1
    by_cases gq2 : 10 < kind
    · have fq2 : decide (10 < kind) = true := decide_eq_true gq2
      go_wp2_with fail
      go_ret
      exact ⟨rfl, HB2.out⟩
    have fq2 : decide (10 < kind) = false := decide_eq_false gq2
    go_wp2_with fail
    clear fwords fa1 fa2 fb1 fb2 fk1 fk2 fq1 fq2
    refine (heap_new words large x2 x3 x4 x5 a0 len cap v w2 HS2.out (HR.out trivial)).mono ?_
    rintro e w3 ⟨x, T, rfl, f1, f2, f3, f4, h1, hb1, hT⟩
    have hz2 := HB2.out.size
    have hz3 := hb1.size
    have hI1 := inv_new (L := Ex.whole x.lim (x.n - x.lim : Int)) (show 1 ≤ x.lim by have := (HR.out trivial).l2; omega) (by have := (HR.out trivial).l1; omega) (by have := (HR.out trivial).w2; omega) (by rw [f3, f4]; exact (HR.out trivial).rise.pos)
    have H1 := Lib.hid (And.intro h1 (And.intro (HB2.out.trans (hb1.mono hz2)) hI1))
    have HT := Lib.hid (fun b (hb : b < w.heap.size) => hT b (by omega))
    clear h1 hb1 hI1 hT d0 d1 d2 d3 d4 d5 d6 HS2 hl0
    go_wp2_with fail
    have hpa : Ce.pe 1 a 3 0 = 0 := Ce.pe_ok ⟨by omega, by omega, by omega, by omega⟩
    have hpb : Ce.pe 1 b 4 0 = 0 := Ce.pe_ok ⟨by omega, by omega, by omega, by omega⟩
    have hbase : w.heap.size ≤ w3.heap.size := by omega
    refine (alloc_any x T _ _ 1 0 _ w3 H1.out.1 H1.out.2.2 1 3 a).mono ?_
    intro e w4 h4
    rcases h4 with ⟨h0, -⟩ | ⟨-, at1, T1, D1, R1, top1, L1, rfl, hl1, ht1, hA1, hW1⟩ | ⟨-, T1, rfl, hl1, ht1, -⟩
    · exact absurd hpa h0
    · have hG1 := H1.out.1.good
      have hI1 := alloc_inv H1.out.2.2 hG1 hA1 hW1 (by omega) (sb_pw hpa) (fun i _ => by simp [none4, Rows.all])
      obtain ⟨i1, hi1, hC1, hm1, hne1, hmem1, hln1⟩ := hA1.cells
      have hwh1 : ∀ i, (R1 i).white = [] := fun i => by
        cases hA1 with
        | white i hC hi l hw hR ht hM => cases hw
        | fresh j hC hj hw hr ha hR ht hM =>
          rw [hR]
          unfold put1
          split <;> rfl
        | big hC he ha hR ht hM =>
          rw [hR]
          unfold put1
          split <;> rfl
      have hlen1 : ∀ i, i ≤ x.k → (R1 i).all.length < 999 := fun i hi => by
        by_cases e : i = i1
        · subst e
          have : (none4).all.length = 0 := rfl
          omega
        · rw [hne1 i e]
          show (none4).all.length < 999
          decide
      have H4 := Lib.hid (And.intro hl1 (And.intro ht1 (And.intro hI1 (And.intro hW1.hd (And.intro hi1 (And.intro hC1 (And.intro hm1 (And.intro hwh1 hlen1))))))))
      clear hl1 ht1 hA1 hW1 hI1 hi1 hC1 hm1 hne1 hmem1 hln1 hwh1 hlen1 hG1
      go_wp2_with fail
      refine (alloc_any x T1 D1 R1 top1 0 L1 w4 H4.out.1 H4.out.2.2.1 1 4 b).mono ?_
      intro e w5 h5
      rcases h5 with ⟨h0, -⟩ | ⟨-, at2, T2, D2, R2, top2, L2, rfl, hl2, ht2, hA2, hW2⟩ | ⟨-, T2, rfl, hl2, ht2, -⟩
      · exact absurd hpb h0
      · have hI1 := H4.out.2.2.1
        have hi1 := H4.out.2.2.2.2.1
        have hC1 := H4.out.2.2.2.2.2.1
        have hm1 := H4.out.2.2.2.2.2.2.1
        have hG2 := H4.out.1.good
        have hI2 := alloc_inv hI1 hG2 hA2 hW2 (by omega) (sb_pw hpb) H4.out.2.2.2.2.2.2.2.2
        obtain ⟨i2, hi2, hC2, hm2, hne2, hmem2, -⟩ := hA2.cells
        have hm12 : at1 ∈ (R2 i1).all := by
          by_cases e : i1 = i2
          · subst e
            exact (hmem2 _).2 (Or.inr hm1)
          · rw [hne2 i1 e]
            exact hm1
        have hne : at1 ≠ at2 := hA2.ne hI1 hG2 (by omega) hi1 ((H4.out.1.rings i1 hi1).fit.nodup) hm1 (by rw [H4.out.2.2.2.2.2.2.2.1]; exact List.not_mem_nil)
        obtain ⟨r1, r2, hcl⟩ := hA2.room hI1 hG2 (by omega)
        have hd1 : D2 at1.toNat = D1 at1.toNat := by
          have h1 := hcl i1 hi1 at1 hm12
          have h2 := hI1.one i1 hi1 at1 hm1
          have h3 := (hI2.obj hi1 hm12 (show (0 : Int) + 3 ≤ wid x D2 i1 at1 by have := wid_three hI2 i1 at1; omega)).word (by omega)
          exact hW2.keep at1.toNat (by omega) fun i hi hq => h3 i hi _ hq (by omega)
        have hw1 : D2 at1.toNat = Ce.pw 1 a 3 0 := hd1.trans H4.out.2.2.2.1
        have hw2 := hC1.wid (D := D2) (c := at1) (fun _ => by rw [hw1]; exact sb_pw hpa)
        have hw3 := hC2.wid (D := D2) (c := at2) (fun _ => by rw [hW2.hd]; exact sb_pw hpb)
        have hap := hI2.apart i1 hi1 i2 hi2 at1 hm12 at2 hm2 (fun _ => hne)
        have hdis : at1 + a + 3 ≤ at2 ∨ at2 + b + 3 ≤ at1 := by omega
        have hf1 : Ce.Fit 1 a 3 0 := (Ce.pe_fit _ _ _ _).1 hpa
        have hf2 : Ce.Fit 1 b 4 0 := (Ce.pe_fit _ _ _ _).1 hpb
        have hO1 := hI2.obj hi1 hm12 hw2
        have hO2 := hI2.obj hi2 hm2 hw3
        have HO := Lib.hid (And.intro hO1 hO2)
        have HHD := Lib.hid (And.intro (show Head D2 at1 1 a 3 0 from ⟨hf1, hw1.trans (Ce.pw_ok hf1)⟩) (show Head D2 at2 1 b 4 0 from ⟨hf2, hW2.hd.trans (Ce.pw_ok hf2)⟩))
        have HL := Lib.hid (And.intro hl2 (H4.out.2.1.trans ht2))
        have n6 := hI2.n6
        have p1 := hO1.one
        have p2 := hO1.le
        have p3 := hO2.one
        have p4 := hO2.le
        clear hl2 ht2 hA2 hW2 hI1 hi1 hC1 hm1 hG2 hI2 hi2 hC2 hm2 hne2 hmem2 hm12 r1 r2 hcl hd1 hw1 hw2 hw3 hap hf1 hf2 hO1 hO2
        go_wp2_with fail
        refine (set_in x T2 D2 R2 top2 0 L2 w5 HL.out.1 at1 1 a 3 0 p1 p2 n6 HHD.out.1 k word ⟨by omega, by omega⟩ (HO.out.1.words ⟨by omega, by omega⟩)).mono ?_
        rintro e w6 ⟨rfl, hS⟩
        have HL6 := Lib.hid (And.intro hS.1 (HL.out.2.trans hS.2))
        have HD6 := Lib.hid (And.intro (HHD.out.1.other (i := at1 + 3 + k) (v := word) (by omega)) (And.intro (HHD.out.2.other (i := at1 + 3 + k) (v := word) (by omega)) (putW_same (D := D2) (i := at1 + 3 + k) (v := word))))
        clear hS
        generalize putW D2 (at1 + 3 + k) word = D6 at *
        obtain ⟨nb, rfl⟩ : ∃ nb : Nat, b = nb := ⟨b.toNat, by omega⟩
        go_wp2_with fail
        clear HHD HL
        go_loopw [19] (fun s19 wr => ∃ (i : Nat) (D : Nat → Int), i ≤ nb ∧ s19 = .int .i64 i ∧ HLies x T2 D R2 top2 0 L2 wr ∧ HTurn T T2 w3 wr ∧ Head D at1 1 a 3 0 ∧ Head D at2 1 nb 4 0 ∧ D (at1 + 3 + k).toNat = word) (fun s19 _ => nb - (intOf s19).toNat)
        case atStart => exact ⟨0, D6, Nat.zero_le _, rfl, HL6.out.1, HL6.out.2, HD6.out.1, HD6.out.2.1, HD6.out.2.2⟩
        case round =>
          clear HL6 HD6
          obtain ⟨i, D, hi, rfl, h6, t6, hd1, hd2, hwd⟩ := hrel
          have HL := Lib.hid (And.intro h6 t6)
          have HD := Lib.hid (And.intro hd1 (And.intro hd2 hwd))
          clear h6 t6 hd1 hd2 hwd
          by_cases hlt : i < nb
          · have hlt' : (i : Int) < (nb : Int) := by omega
            have hset := fun u => set_in x T2 D R2 top2 0 L2 wr HL.out.1 at2 1 nb 4 0 p3 p4 n6 HD.out.2.1 i u ⟨by omega, by omega⟩ (HO.out.2.words ⟨by omega, by omega⟩)
            have HSET := Lib.hid hset
            clear hset
            go_wp2_with fail
            refine (HSET.out _).mono ?_
            rintro e w7 ⟨rfl, hS⟩
            have HL7 := Lib.hid (And.intro hS.1 (HL.out.2.trans hS.2))
            generalize hu : wrap64 ((i : Int) - word) = u at *
            have HD7 := Lib.hid (And.intro (HD.out.1.other (i := at2 + 3 + i) (v := u) (by omega)) (And.intro (HD.out.2.1.other (i := at2 + 3 + i) (v := u) (by omega)) ((putW_other (D := D) (i := at2 + 3 + i) (v := u) (m := (at1 + 3 + k).toNat) (by omega)).trans HD.out.2.2)))
            clear hS hu HSET
            generalize putW D (at2 + 3 + i) u = D7 at *
            go_wp2_with fail
            go_roundw
            case rel => exact ⟨i + 1, D7, by omega, by go_num, HL7.out.1, HL7.out.2, HD7.out.1, HD7.out.2.1, HD7.out.2.2⟩
            case measure => simp [intOf]; omega
          · obtain rfl : i = nb := by omega
            have hpk : Ce.pe kind a 9 0 = 0 := Ce.pe_ok ⟨by omega, by omega, by omega, by omega⟩
            have hfk : Ce.Fit kind a 9 0 := (Ce.pe_fit _ _ _ _).1 hpk
            go_wp2_with fail
            refine (become_any x T2 D R2 top2 0 L2 wr HL.out.1 at1 1 a 3 0 p1 (by omega) HD.out.1 kind 9 hpk (HO.out.1.word (by omega))).mono ?_
            rintro e w7 ⟨rfl, hS⟩
            have HL7 := Lib.hid (And.intro hS.1 (HL.out.2.trans hS.2))
            have HD7 := Lib.hid (And.intro (show Head (putW D at1 (Ce.pw kind a 9 0)) at1 kind a 9 0 from ⟨hfk, putW_same.trans (Ce.pw_ok hfk)⟩) (And.intro (HD.out.2.1.other (i := at1) (v := Ce.pw kind a 9 0) (by omega)) ((putW_other (D := D) (i := at1) (v := Ce.pw kind a 9 0) (m := (at1 + 3 + k).toNat) (by omega)).trans HD.out.2.2)))
            clear hS HL HD hfk hpk
            generalize putW D at1 (Ce.pw kind a 9 0) = D7 at *
            go_wp2_with fail
            refine (set_out x T2 D7 R2 top2 0 L2 w7 HL7.out.1 at1 kind a 9 0 p1 (by omega) HD7.out.1 a 1 (by omega)).mono ?_
            rintro e w8 ⟨rfl, hS⟩
            have HL8 := Lib.hid (And.intro hS.1 (HL7.out.2.trans hS.2))
            clear hS HL7
            go_wp2_with fail
            refine (set_out x T2 D7 R2 top2 0 L2 w8 HL8.out.1 at1 kind a 9 0 p1 (by omega) HD7.out.1 (-1) 1 (by omega)).mono ?_
            rintro e w9 ⟨rfl, hS⟩
            have HL9 := Lib.hid (And.intro hS.1 (HL8.out.2.trans hS.2))
            clear hS HL8
            go_wp2_with fail
            refine (cell_any x T2 D7 R2 top2 0 L2 w9 HL9.out.1 at1 kind a 9 0 p1 (by omega) HD7.out.1).mono ?_
            rintro e w10 ⟨rfl, hS⟩
            have HL10 := Lib.hid (And.intro hS.1 (HL9.out.2.trans hS.2))
            clear hS HL9
            go_wp2_with fail
            obtain ⟨hr1, hr2⟩ := HL10.out.1.retag
            have hx := (Below.refl w10.heap.size w10).alloc (Nat.le_refl _) (.cells #[.int .i64 kind, .int .i64 a, .int .i64 9, .int .i64 0] 69)
            have o0 : (w10.alloc (.cells #[.int .i64 kind, .int .i64 a, .int .i64 9, .int .i64 0] 69)).cell? ⟨w10.heap.size, 0, none⟩ = some (.int .i64 kind) := by simp [go_sem]
            have o1 : (w10.alloc (.cells #[.int .i64 kind, .int .i64 a, .int .i64 9, .int .i64 0] 69)).cell? ⟨w10.heap.size, 1, none⟩ = some (.int .i64 a) := by simp [go_sem]
            have o2 : (w10.alloc (.cells #[.int .i64 kind, .int .i64 a, .int .i64 9, .int .i64 0] 69)).cell? ⟨w10.heap.size, 2, none⟩ = some (.int .i64 9) := by simp [go_sem]
            have hto : retag T2 w10.heap.size w10.heap.size = 1000 := if_neg (Nat.lt_irrefl _)
            have HL11 := Lib.hid (And.intro (hr1.later hx) ((HL10.out.2.trans hr2).trans (HTurn.of_below hx)))
            generalize (w10.alloc (.cells #[.int .i64 kind, .int .i64 a, .int .i64 9, .int .i64 0] 69)) = w11 at *
            generalize retag T2 w10.heap.size = T3 at *
            generalize w10.heap.size = ob at *
            clear hr1 hr2 hx HL10
            refine (get_in x T3 D7 R2 top2 0 L2 w11 HL11.out.1 at1 kind a 9 0 p1 p2 n6 HD7.out.1 k ⟨by omega, by omega⟩).mono ?_
            rintro e w12 ⟨rfl, hS⟩
            rw [HD7.out.2.2]
            replace o0 := hS.2.cell o0 hto
            replace o1 := hS.2.cell o1 hto
            replace o2 := hS.2.cell o2 hto
            have HL12 := Lib.hid (And.intro hS.1 (HL11.out.2.trans hS.2))
            clear hS HL11
            go_wp2_with fail
            refine (cell_any x T3 D7 R2 top2 0 L2 w12 HL12.out.1 at2 1 _ 4 0 p3 (by omega) HD7.out.2.1).mono ?_
            rintro e w13 ⟨rfl, hS⟩
            have hx := (Below.refl w13.heap.size w13).alloc (Nat.le_refl _) (.cells #[.int .i64 1, .int .i64 i, .int .i64 4, .int .i64 0] 69)
            replace o0 := later' hx (hS.2.cell o0 hto)
            replace o1 := later' hx (hS.2.cell o1 hto)
            replace o2 := later' hx (hS.2.cell o2 hto)
            have HE := Lib.hid ((HL12.out.2.trans hS.2).trans (HTurn.of_below hx))
            clear hS HL12 hx
            go_wp2_with fail
            go_ret
            exact ⟨rfl, H1.out.2.1.trans (HE.out.below HT.out hbase)⟩
      · have HE := Lib.hid (And.intro hl2 (H4.out.2.1.trans ht2))
        clear hl2 ht2
        go_wp2_with fail
        go_ret
        exact ⟨rfl, H1.out.2.1.trans (HE.out.2.below HT.out hbase)⟩
    · have H4 := Lib.hid (And.intro hl1 ht1)
      clear hl1 ht1
      go_wp2_with fail
      refine (alloc_any x T1 _ _ 1 0 _ w4 H4.out.1 H1.out.2.2 1 4 b).mono ?_
      intro e w5 h5
      rcases h5 with ⟨h0, -⟩ | ⟨-, at2, T2, D2, R2, top2, L2, rfl, hl2, ht2, -, -⟩ | ⟨-, T2, rfl, hl2, ht2, -⟩
      · exact absurd hpb h0
      · have HE := Lib.hid (And.intro hl2 (H4.out.2.trans ht2))
        clear hl2 ht2
        go_wp2_with fail
        go_ret
        exact ⟨rfl, H1.out.2.1.trans (HE.out.2.below HT.out hbase)⟩
      · have HE := Lib.hid (And.intro hl2 (H4.out.2.trans ht2))
        clear hl2 ht2
        go_wp2_with fail
        go_ret
        exact ⟨rfl, H1.out.2.1.trans (HE.out.2.below HT.out hbase)⟩

end Go.Proofs.Ytbjlpmjalidfkaa
