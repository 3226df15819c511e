/- A number's text, there and back. -/
import Derived.Test.YtkeeglpbhjnmdaaDoorBackV
import Derived.Lib.ItoaLen
namespace Go.Proofs.YtkeeglpbhjnmdaaDoor
open Go.RowKit
open Go.Lib (NumEnd parseIntB itoa)

/-- A number's text. -/
def printL (f : Bool) (x : Int) : List UInt8 := if f = true then fltL x.toNat else itoa (wrap64 x)

theorem U_range (v : Int) : 0 ≤ U v ∧ U v < 18446744073709551616 := by rw [U_eq]; omega

theorem print_len (f : Bool) (x : Int) (h0 : 0 ≤ x) (h1 : x < 18446744073709551616) : (printL f x).length ≤ 1000 := by
  cases f with
  | false =>
    have h := wrap64_range x
    have := Lib.itoa_length_le (wrap64 x) h.1 h.2
    show (itoa (wrap64 x)).length ≤ 1000
    omega
  | true =>
    show (fltL x.toNat).length ≤ 1000
    rw [fltL_eq _ (by omega)]
    simp only [List.length_cons, hexK_length]
    omega

/-- What is printed is parsed as it was. -/
theorem there (f : Bool) (x : Int) (h0 : 0 ≤ x) (h1 : x < 18446744073709551616) : parseL (printL f x) = (f, x, 0) := by
  cases f with
  | false =>
    have h := wrap64_range x
    obtain ⟨i1, i2, i3⟩ := int_there (wrap64 x) h.1 h.2
    show parseL (itoa (wrap64 x)) = _
    unfold parseL
    rw [if_neg (by rw [i3]; decide), if_pos i1, i2]
    show (false, U (wrap64 x), (0 : Int)) = _
    rw [U_wrap64, U_eq, Int.emod_eq_of_lt h0 h1]
  | true =>
    show parseL (fltL x.toNat) = _
    rw [fltL_eq _ (by omega)]
    unfold parseL
    rw [if_pos (by simp [Lib.hasPrefix])]
    show (if (hexK x.toNat 15).length = 16 ∧ ∀ c ∈ hexK x.toNat 15, isHex c = true then (true, ((hexN 0 (hexK x.toNat 15) : Nat) : Int), (0 : Int)) else (false, 0, 3)) = _
    rw [if_pos ⟨by rw [hexK_length], hexK_all _ _⟩, hex_there _ (by omega), Int.toNat_of_nonneg h0]

/-- What is parsed is printed as it was. -/
theorem back (l : List UInt8) (b : Bool) (y : Int) (h : parseL l = (b, y, 0)) : 0 ≤ y ∧ y < 18446744073709551616 ∧ printL b y = l := by
  unfold parseL at h
  split at h
  · rename_i hp
    split at h
    · rename_i hx
      simp only [Prod.mk.injEq] at h
      obtain ⟨rfl, rfl, _⟩ := h
      obtain ⟨e1, e2⟩ := hex_back (l.drop 2) hx.1 hx.2
      refine ⟨by omega, by omega, ?_⟩
      show fltL ((hexN 0 (l.drop 2) : Nat) : Int).toNat = l
      rw [Int.toNat_natCast, e2]
      have hp' : List.isPrefixOf [48, 102] l = true := hp
      obtain ⟨t, ht⟩ := List.isPrefixOf_iff_prefix.1 hp'
      rw [← ht]; rfl
    · simp at h
  · split at h
    · rename_i hf
      cases hv : parseIntB 64 l with
      | ok v =>
        rw [hv] at h
        simp only [Prod.mk.injEq] at h
        obtain ⟨rfl, rfl, _⟩ := h
        obtain ⟨b1, b2⟩ := Lib.parseIntB_bounds hv
        refine ⟨(U_range v).1, (U_range v).2, ?_⟩
        show itoa (wrap64 (U v)) = l
        rw [wrap64_U v ⟨by simpa using b1, by have := b2; simp at this; omega⟩]
        exact int_back l v hf hv
      | range => rw [hv] at h; simp at h
      | _ => rw [hv] at h; simp at h
    · simp at h

end Go.Proofs.YtkeeglpbhjnmdaaDoor
