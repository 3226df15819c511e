/- LexNumbers: its walk. -/
import Derived.Test.YtkeeglpbhjnmdaaDoorLnuA
namespace Go.Proofs.YtkeeglpbhjnmdaaDoor
open Go.RowKit Go.Lib

theorem num_eql (f : Bool) (x : Int) (w : World) : (binOp .eql 33 (.agg #[.bool f, .int .u64 x]) (.agg #[.bool f, .int .u64 x])).run Tryd.prog w = .ok (.bool true) w := by
  have he : (Op.equal 33 (.agg #[.bool f, .int .u64 x]) (.agg #[.bool f, .int .u64 x])).run Tryd.prog w = .ok true w := num_refl 9998 f x w
  generalize hq : Op.equal = E at he
  simp [binOp, hq, he]
theorem ndrewN {B : Nat} {w W : World} (h : Below B w W) (n : Nat) : Below B w (W.drewN n) := ⟨h.os, h.tape, h.output, h.size, h.block⟩

set_option maxHeartbeats 16000000 in
set_option maxRecDepth 100000 in
theorem numbers_walk (f : Bool) (x : Int) (h0 : 0 ≤ x) (h1 : x < 18446744073709551616) (w : World) (hS : SG w) (hE : EE w) :
    Calls Tryd.prog 7 #[.agg #[.bool f, .int .u64 x]] w fun e w' => e = .returned (.bool true) ∧ Below w.heap.size w w' := by
  have hx := (Below.refl w.heap.size w).alloc (Nat.le_refl _) (.cells #[.bool f, .int .u64 x] 33)
  have c0 : (w.alloc (.cells #[.bool f, .int .u64 x] 33)).cell? ⟨w.heap.size, 0, none⟩ = some (.bool f) := by simp [go_sem]
  have c1 : (w.alloc (.cells #[.bool f, .int .u64 x] 33)).cell? ⟨w.heap.size, 1, none⟩ = some (.int .u64 x) := by simp [go_sem]
  have HC := Lib.hid (And.intro c0 (And.intro c1 (And.intro hx (And.intro (hS.below hx) (hE.below hx)))))
  have HXX := Lib.hid (And.intro h0 h1)
  clear hS hE hx c0 c1 h0 h1
  go_enter Tryd.func7, Tryd.ntmps7
  go_upto_region 1 with fail
  generalize (w.alloc (.cells #[.bool f, .int .u64 x] 33)) = W at *
  go_wp2_with fail
  refine (lawake_any W HC.out.2.2.2.1 HC.out.2.2.2.2).mono ?_
  rintro e w1 ⟨rfl, hb⟩
  have H1 := Lib.hid (And.intro (onB' HC.out.2.2.1 hb) (And.intro (HC.out.2.2.2.1.below hb) (HC.out.2.2.2.2.below hb)))
  have c0 := later' hb HC.out.1
  have c1 := later' hb HC.out.2.1
  have HC1 := Lib.hid (And.intro c0 c1)
  clear hb HC
  go_wp2_with fail
  refine (refPrint_any f x HXX.out.1 HXX.out.2 w1).mono ?_
  rintro e w2 ⟨rfl, hb⟩
  have H2 := Lib.hid (And.intro (onB' H1.out.1 hb) (And.intro (H1.out.2.1.below hb) (H1.out.2.2.below hb)))
  have HC2 := Lib.hid (And.intro (later' hb c0) (later' hb c1))
  clear hb H1 HC1 c0 c1
  have hpl := print_len f x HXX.out.1 HXX.out.2
  -- the text as a source has it
  have hform : (∃ (c : UInt8) (hz : 0 < (⟨(printL f x).toArray⟩ : ByteArray).size), (⟨(printL f x).toArray⟩ : ByteArray)[0]'hz = c ∧ (((c.toNat : Int) == 45) = false ∧ Hid ((⟨(printL f x).toArray⟩ : ByteArray).data.toList = srcL f x) ∨ ((c.toNat : Int) == 45) = true ∧ Hid ((⟨#[35]⟩ ++ ⟨(printL f x).toArray⟩ : ByteArray).data.toList = srcL f x))) := by
    have hat : ∀ (c : UInt8) (r : List UInt8), printL f x = c :: r → ∃ hz : 0 < (⟨(printL f x).toArray⟩ : ByteArray).size, (⟨(printL f x).toArray⟩ : ByteArray)[0]'hz = c := by
      intro c r e
      have hz : 0 < (⟨(printL f x).toArray⟩ : ByteArray).size := by rw [back_size, e]; simp
      refine ⟨hz, ?_⟩
      have e2 : (⟨(printL f x).toArray⟩ : ByteArray)[0]'hz = (⟨(printL f x).toArray⟩ : ByteArray).data.toList[0]'(by rw [back_list, e]; simp) := rfl
      rw [e2]
      simp only [e, List.getElem_cons_zero]
    rcases print_form f x HXX.out.1 HXX.out.2 with ⟨c, r, e, hc, -⟩ | ⟨r, e, -, -⟩
    · obtain ⟨hz, hq⟩ := hat c r e
      rw [dgB_iff] at hc
      unfold Dg at hc
      refine ⟨c, hz, hq, Or.inl ⟨by simp; omega, Lib.hid ?_⟩⟩
      rw [back_list]
      unfold srcL
      rw [e, if_neg]
      simp only [List.head?_cons, Option.some.injEq]
      rintro rfl
      revert hc
      decide
    · obtain ⟨hz, hq⟩ := hat 45 r e
      refine ⟨45, hz, hq, Or.inr ⟨rfl, Lib.hid ?_⟩⟩
      rw [cat_list, back_list]
      unfold srcL
      rw [e]
      rfl
  obtain ⟨c, hz, hq, hway⟩ := hform
  have hps : (⟨(printL f x).toArray⟩ : ByteArray).size ≤ 1000 := by rw [back_size]; exact hpl
  have HWAY := Lib.hid hway
  clear hway hpl
  generalize (⟨(printL f x).toArray⟩ : ByteArray) = ps at *
  have hz2 : (0 : Int) < (ps.size : Int) := by omega
  have hkey : ∃ (S : ByteArray), S.data.toList = srcL f x ∧ S.size ≤ 1001 ∧ ((((c.toNat : Int) == 45) = false ∧ S = ps) ∨ (((c.toNat : Int) == 45) = true ∧ (⟨#[35]⟩ ++ ps : ByteArray) = S)) := by
    rcases HWAY.out with ⟨h1, h2⟩ | ⟨h1, h2⟩
    · exact ⟨ps, h2.out, by omega, Or.inl ⟨h1, rfl⟩⟩
    · refine ⟨_, h2.out, ?_, Or.inr ⟨h1, rfl⟩⟩
      rw [size_eq, h2.out]
      exact src_len f x HXX.out.1 HXX.out.2
  obtain ⟨S, hSl, hSz, hw⟩ := hkey
  obtain ⟨l1, l2⟩ := numbers_tail f x HXX.out.1 HXX.out.2 S hSl
  have hz3 : (⟨#[97, 32]⟩ ++ S ++ ⟨#[32, 98]⟩ : ByteArray).size ≤ 100000 := by rw [size_eq, cat_list, cat_list, List.length_append, List.length_append, ← size_eq S]; simp; omega
  have HL1 := Lib.hid (lex_any S (by omega) w2 H2.out.2.1 H2.out.2.2)
  have HL2 := Lib.hid (And.intro l1 (And.intro l2 hz3))
  have HSl := Lib.hid hSl
  clear l1 l2 hz3 hSl HWAY
  rcases hw with ⟨hw, rfl⟩ | ⟨hw, hw2⟩
  all_goals
    go_wp2_with fail
    refine HL1.out.mono ?_
    intro e w3 h3
    obtain ⟨T, a1, e1, er, line, rfl, hown, hb3, hv⟩ := h3.view
    rw [HL2.out.1] at hv
    rcases hv with ⟨q, rfl, rfl⟩ | ⟨q, -⟩
    rotate_left
    · cases q
    cases q
    have H3 := Lib.hid (And.intro (onB' H2.out.1 hb3) (And.intro (H2.out.2.1.below hb3) (H2.out.2.2.below hb3)))
    have HC3 := Lib.hid (And.intro (later' hb3 HC2.out.1) (later' hb3 HC2.out.2))
    have HO := Lib.hid hown
    have HL3 := Lib.hid (lex_any _ HL2.out.2.2 w3 H3.out.2.1 H3.out.2.2)
    clear h3 hown hb3 H2 HC2 hw
    go_wp2_with fail
    refine HL3.out.mono ?_
    intro e w4 h4
    obtain ⟨T2, a2, e2, er2, line2, rfl, hown2, hb4, hv2⟩ := h4.view
    rw [HL2.out.2.1] at hv2
    rcases hv2 with ⟨q, rfl, rfl⟩ | ⟨q, -⟩
    rotate_left
    · cases q
    cases q
    have H4 := Lib.hid (onB' H3.out.1 hb4)
    have c0 := later' hb4 HC3.out.1
    have c1 := later' hb4 HC3.out.2
    obtain ⟨g1, ea1, ht1⟩ := own_tok HO.out (j := 0) (by simp)
    obtain ⟨g2, ea2, ht2⟩ := own_tok hown2 (j := 1) (by simp)
    subst ea1
    subst ea2
    obtain ⟨p0, p1, p2, p3, p4⟩ := ht1.later hb4
    obtain ⟨q0, q1, q2, q3, q4⟩ := ht2
    have hbS : (⟨(srcL f x).toArray⟩ : ByteArray) = S := by rw [← HSl.out]
    simp only [List.getElem_cons_zero, List.getElem_cons_succ, Nat.zero_mul, Nat.one_mul, Nat.zero_add, Nat.reduceAdd] at p0 p1 p2 p3 p4 q0 q1 q2 q3 q4
    rw [hbS] at p1 q1
    have he := fun W => num_eql f x W
    clear h4 hown2 hb4 H3 HC3 HO HL1 HL2 HL3 HSl hbS
    go_wp2_with fail
    go_quiet (fail)
    go_wp2_with fail
    go_ret
    exact ⟨rfl, ndrewN H4.out _⟩

end Go.Proofs.YtkeeglpbhjnmdaaDoor
