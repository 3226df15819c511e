/- What the document's Print answers: the number's text. -/
import Derived.Test.YtkeeglpbhjnmdaaDoorTextP
namespace Go.Proofs.YtkeeglpbhjnmdaaDoor
open Go.RowKit

set_option maxRecDepth 100000 in
set_option maxHeartbeats 1000000 in
theorem refPrint_up (x : Int) (h0 : 0 ≤ x) (hx : x < 9223372036854775808) (w : World) :
    Calls Tryd.prog 14 #[.agg #[.bool false, .int .u64 x]] w fun e w' => e = .returned (.string ⟨(printL false x).toArray⟩) ∧ Below w.heap.size w w' := by
  have e : ((x.toNat : Nat) : Int) = x := Int.toNat_of_nonneg h0
  have hD : ∀ W, Calls Tryd.prog 21 #[.int .u64 x, .int .u64 10] W fun e w' => e = .returned (.string ⟨(printL false x).toArray⟩) ∧ Below W.heap.size W w' := fun W => by
    have h := digits_any x.toNat 10 W (by decide) (by decide) (by omega)
    have hp : printL false x = digs 10 x.toNat := by
      have := int_text_up x.toNat (by omega)
      rw [e] at this
      exact this.symm
    rw [e] at h
    rw [hp]
    exact h
  replace hD := Lib.hid hD
  clear e
  generalize (⟨(printL false x).toArray⟩ : ByteArray) = t at hD ⊢
  go_enter Tryd.func14, Tryd.ntmps14
  go_wp2_with fail
  refine (hD.out _).mono ?_
  rintro e w1 ⟨rfl, hb⟩
  have hB := stepB ((Below.refl _ _).alloc (Nat.le_refl _) _) hb
  clear hb
  go_wp2_with fail
  go_ret
  exact ⟨rfl, hB⟩

set_option maxRecDepth 100000 in
set_option maxHeartbeats 1000000 in
theorem refPrint_down (x : Int) (h0 : 9223372036854775808 ≤ x) (hx : x < 18446744073709551616) (w : World) :
    Calls Tryd.prog 14 #[.agg #[.bool false, .int .u64 x]] w fun e w' => e = .returned (.string ⟨(printL false x).toArray⟩) ∧ Below w.heap.size w w' := by
  have e : ((18446744073709551616 - x.toNat : Nat) : Int) = 18446744073709551616 - x := by omega
  have hw : IntKind.u64.wrap (0 - x) = 18446744073709551616 - x := by rw [IntKind.wrap_u64]; omega
  have hw' : IntKind.u64.wrap (-x) = 18446744073709551616 - x := by rw [IntKind.wrap_u64]; omega
  obtain ⟨t, ht⟩ : ∃ t : ByteArray, t = ⟨(digs 10 (18446744073709551616 - x.toNat)).toArray⟩ := ⟨_, rfl⟩
  have hD : ∀ W, Calls Tryd.prog 21 #[.int .u64 (18446744073709551616 - x), .int .u64 10] W fun e w' => e = .returned (.string t) ∧ Below W.heap.size W w' := fun W => by
    have h := digits_any (18446744073709551616 - x.toNat) 10 W (by decide) (by decide) (by omega)
    rw [e, ← ht] at h
    exact h
  have hp : (⟨#[45]⟩ : ByteArray) ++ t = ⟨(printL false x).toArray⟩ := by
    have h := int_text_down x.toNat (by omega) (by omega)
    rw [show ((x.toNat : Nat) : Int) = x by omega] at h
    rw [ht, show printL false x = 45 :: digs 10 (18446744073709551616 - x.toNat) from h.symm]
    apply ByteArray.ext
    rw [ByteArray.data_append]
    apply Array.ext'
    simp
  have hl : t.size < 100 := by
    have h := Lib.itoa_length_le (wrap64 x) (wrap64_range x).1 (wrap64_range x).2
    have h2 := congrArg ByteArray.size hp
    rw [ByteArray.size_append, Lib.size_eq ⟨(printL false x).toArray⟩] at h2
    have h3 : (printL false x).length ≤ 21 := h
    have h4 : (⟨#[45]⟩ : ByteArray).size = 1 := rfl
    simp only at h2
    omega
  rw [← hp]
  replace hD := Lib.hid hD
  clear e ht hp
  go_enter Tryd.func14, Tryd.ntmps14
  go_wp2_with fail
  refine (hD.out _).mono ?_
  rintro e w1 ⟨rfl, hb⟩
  have hB := stepB ((Below.refl _ _).alloc (Nat.le_refl _) _) hb
  clear hb
  go_wp2_with fail
  go_ret
  exact ⟨rfl, hB⟩

/-- The text is being filled up with noughts. -/
def PadI (t s : ByteArray) : Prop := ∃ j : Nat, s = ⟨(List.replicate j 48 ++ t.data.toList).toArray⟩ ∧ s.size = j + t.size ∧ s.size ≤ 16

theorem PadI.step {t s : ByteArray} (h : PadI t s) (hs : s.size < 16) : PadI t (⟨#[48]⟩ ++ s) := by
  obtain ⟨j, h1, h2, _⟩ := h
  have h4 : (⟨#[48]⟩ : ByteArray).size = 1 := rfl
  refine ⟨j + 1, ?_, by rw [ByteArray.size_append, h4]; omega, by rw [ByteArray.size_append, h4]; omega⟩
  rw [h1]
  apply ByteArray.ext
  rw [ByteArray.data_append]
  apply Array.ext'
  simp [List.replicate_succ]

theorem PadI.first (t : ByteArray) (h : t.size ≤ 16) : PadI t t := ⟨0, by simp, by simp, h⟩

set_option maxRecDepth 100000 in
set_option maxHeartbeats 1000000 in
theorem refPrint_flt (x : Int) (h0 : 0 ≤ x) (hx : x < 18446744073709551616) (w : World) :
    Calls Tryd.prog 14 #[.agg #[.bool true, .int .u64 x]] w fun e w' => e = .returned (.string ⟨(printL true x).toArray⟩) ∧ Below w.heap.size w w' := by
  have e : ((x.toNat : Nat) : Int) = x := Int.toNat_of_nonneg h0
  obtain ⟨t, ht⟩ : ∃ t : ByteArray, t = ⟨(digs 16 x.toNat).toArray⟩ := ⟨_, rfl⟩
  have hD : ∀ W, Calls Tryd.prog 21 #[.int .u64 x, .int .u64 16] W fun e w' => e = .returned (.string t) ∧ Below W.heap.size W w' := fun W => by
    have h := digits_any x.toNat 16 W (by decide) (by decide) (by omega)
    rw [e, ← ht] at h
    exact h
  obtain ⟨f1, f2⟩ := flt_text x.toNat (by omega)
  have htz : t.size = (digs 16 x.toNat).length := by rw [Lib.size_eq, ht]
  have hP : Hid (PadI t t) := PadI.first t (by omega)
  have hE : ∀ s, PadI t s → ¬ s.size < 16 → (⟨#[48, 102]⟩ : ByteArray) ++ s = ⟨(printL true x).toArray⟩ := fun s ⟨j, h1, h2, h3⟩ h4 => by
    have hj : j = 16 - (digs 16 x.toNat).length := by omega
    rw [show printL true x = fltL x.toNat from rfl, ← f2, h1, hj, ht]
    apply ByteArray.ext
    rw [ByteArray.data_append]
    apply Array.ext'
    simp
  replace hD := Lib.hid hD
  replace hE := Lib.hid hE
  generalize (⟨(printL true x).toArray⟩ : ByteArray) = R at hE ⊢
  clear e ht f1 f2 htz h0 hx
  go_enter Tryd.func14, Tryd.ntmps14
  go_wp2_with fail
  refine (hD.out _).mono ?_
  rintro e w1 ⟨rfl, hb⟩
  have hB := stepB ((Below.refl _ _).alloc (Nat.le_refl _) _) hb
  clear hb
  go_wp2_with fail
  go_loop [3] (fun vs => ∃ s : ByteArray, vs = .string s ∧ Hid (PadI t s)) (fun vs => match vs with | .string s => 16 - s.size | _ => 0)
  case atStart => exact ⟨t, rfl, hP⟩
  case round =>
    obtain ⟨s, rfl, hI⟩ := hrel
    by_cases hs : s.size < 16
    · have hN := Lib.hid (hI.out.step hs)
      have hs' : (s.size : Int) < 16 := by omega
      have hz : (⟨#[48]⟩ ++ s : ByteArray).size = s.size + 1 := by rw [ByteArray.size_append]; show 1 + s.size = _; omega
      clear hI hP
      go_wp2
      exact ⟨⟨_, rfl, hN⟩, by simp only [hz]; omega⟩
    · have hR := hE.out s hI.out hs
      have hs' : ¬ (s.size : Int) < 16 := by omega
      have hs2 : s.size ≤ 16 := by obtain ⟨_, _, _, h⟩ := hI.out; exact h
      clear hI hP
      go_wp2
      go_ret
      exact ⟨by rw [← hR]; rfl, hB⟩

theorem refPrint_any (f : Bool) (x : Int) (h0 : 0 ≤ x) (hx : x < 18446744073709551616) (w : World) :
    Calls Tryd.prog 14 #[.agg #[.bool f, .int .u64 x]] w fun e w' => e = .returned (.string ⟨(printL f x).toArray⟩) ∧ Below w.heap.size w w' := by
  cases f with
  | true => exact refPrint_flt x h0 hx w
  | false =>
    by_cases h : x < 9223372036854775808
    · exact refPrint_up x h0 h w
    · exact refPrint_down x (by omega) hx w

end Go.Proofs.YtkeeglpbhjnmdaaDoor
