/- Texts of numbers by definition: what the document's own digits come to. -/
import Derived.Test.YtkeeglpbhjnmdaaDoorBackX
import Derived.Test.YtkeeglpbhjnmdaaDoorTextE
namespace Go.Proofs.YtkeeglpbhjnmdaaDoor
open Go.RowKit
open Go.Lib (NumEnd parseUintM parseUintB parseIntB decDigits itoa)

theorem hdB_dec (d : Nat) (h : d < 10) : hdB d = UInt8.ofNat (48 + d) := by
  have h : d = 0 ∨ d = 1 ∨ d = 2 ∨ d = 3 ∨ d = 4 ∨ d = 5 ∨ d = 6 ∨ d = 7 ∨ d = 8 ∨ d = 9 := by omega
  rcases h with h | h | h | h | h | h | h | h | h | h <;> subst h <;> decide

theorem digs_dec (n : Nat) : digs 10 n = decDigits n := by
  induction n using Nat.strongRecOn with
  | _ n ih =>
    rw [digs]
    by_cases h : n < 10
    · rw [dif_pos (Or.inl h), decDigits, dif_pos h, Nat.mod_eq_of_lt h, hdB_dec n h]
    · rw [dif_neg (by omega), decDigits, dif_neg h, ih (n / 10) (by omega), hdB_dec _ (Nat.mod_lt _ (by decide))]

theorem hexK_snoc (u : Nat) : ∀ k, hexK u (k + 1) = hexK (u / 16) k ++ [hdB (u % 16)] := by
  intro k
  induction k generalizing u with
  | zero => simp [hexK, List.range_succ]
  | succ k ih =>
    rw [hexK_succ, ih, hexK_succ (u / 16) k, List.cons_append]
    congr 1
    rw [Nat.div_div_eq_div_mul, Nat.pow_succ 16 (k + 1), Nat.mul_comm 16]

theorem digs_hex : ∀ (k n : Nat), n < 16 ^ (k + 1) → 1 ≤ (digs 16 n).length ∧ (digs 16 n).length ≤ k + 1 ∧ List.replicate (k + 1 - (digs 16 n).length) 48 ++ digs 16 n = hexK n k := by
  intro k
  induction k with
  | zero =>
    intro n h
    rw [digs, dif_pos (Or.inl (by simpa using h))]
    refine ⟨by simp, by simp, ?_⟩
    simp [hexK, List.range_succ]
  | succ k ih =>
    intro n h
    by_cases hn : n < 16
    · rw [digs, dif_pos (Or.inl hn)]
      refine ⟨by simp, by simp, ?_⟩
      have h0 := hexK_pad n 0 (by simpa using hn) (k + 1)
      rw [Nat.zero_add] at h0
      rw [h0]
      simp [hexK, List.range_succ]
    · rw [digs, dif_neg (by omega)]
      obtain ⟨h1, h2, h3⟩ := ih (n / 16) (by rw [Nat.pow_succ] at h; omega)
      refine ⟨by simp, by simp; omega, ?_⟩
      rw [hexK_snoc, ← h3, List.length_append, List.length_singleton, ← List.append_assoc]
      congr 2
      congr 1
      omega

theorem flt_text (b : Nat) (hb : b < 18446744073709551616) : (digs 16 b).length ≤ 16 ∧ 48 :: 102 :: (List.replicate (16 - (digs 16 b).length) 48 ++ digs 16 b) = fltL b := by
  obtain ⟨_, h2, h3⟩ := digs_hex 15 b hb
  exact ⟨h2, by rw [fltL_eq b hb, ← h3]⟩

theorem int_text_up (x : Nat) (h : x < 9223372036854775808) : digs 10 x = itoa (wrap64 (x : Int)) := by
  rw [digs_dec]
  have e : wrap64 (x : Int) = x := by unfold wrap64; omega
  rw [e]
  unfold itoa
  rw [if_neg (by omega), show ((x : Int)).toNat = x by omega]
theorem int_text_down (x : Nat) (h : 9223372036854775808 ≤ x) (h1 : x < 18446744073709551616) : 45 :: digs 10 (18446744073709551616 - x) = itoa (wrap64 (x : Int)) := by
  rw [digs_dec]
  have e : wrap64 (x : Int) = (x : Int) - 18446744073709551616 := by unfold wrap64; omega
  rw [e]
  unfold itoa
  rw [if_pos (by omega), show ((x : Int) - 18446744073709551616).natAbs = 18446744073709551616 - x by omega]

/-! ### Parsing -/

theorem parse_over (M : Nat) (hM : M ≤ 18446744073709551615) (d : List UInt8) (h : ∀ c ∈ d, isDig c = true) : parseUintM M 0 d = .ok (decN 0 d) ∨ (parseUintM M 0 d = .range ∧ M < decN 0 d) := by
  rcases Nat.lt_or_ge M (decN 0 d) with h1 | h1
  · have hpl := parse_plain M d 0 h
    cases hp : parseUintM M 0 d with
    | range => exact Or.inr ⟨rfl, h1⟩
    | ok u => exact Or.inl (by rw [(parse_ok M d 0 u hp).2])
    | _ => rw [hp] at hpl; exact hpl.elim
  · exact Or.inl (parse_digits M hM d 0 h h1)

theorem mag_minus (d : List UInt8) (h : Mag d) : intF (45 :: d) = true ∧ Lib.hasPrefix (45 :: d) [48, 102] = false ∧ parseIntB 64 (45 :: d) = (if decN 0 d ≤ 9223372036854775808 then .ok (-(decN 0 d : Int)) else .range) := by
  refine ⟨(intF_cases _).2 (Or.inr (Or.inl ⟨d, rfl, h⟩)), rfl, ?_⟩
  rw [pi_minus d h]
  rcases parse_over 18446744073709551615 (Nat.le_refl _) d h.2.2 with e | ⟨e, hlt⟩
  · rw [e]
    simp only [Lib.signedC]
    by_cases hc : decN 0 d ≤ 9223372036854775808
    · rw [if_pos hc, if_neg (by omega)]
    · rw [if_neg hc, if_pos (by omega)]
  · rw [e, if_neg (by omega)]; rfl

theorem mag_plain (d : List UInt8) (h : Mag d) : intF d = true ∧ Lib.hasPrefix d [48, 102] = false ∧ parseIntB 64 d = (if decN 0 d < 9223372036854775808 then .ok (decN 0 d : Int) else .range) := by
  have hpre : Lib.hasPrefix d [48, 102] = false := by
    cases d with
    | nil => exact absurd rfl h.1
    | cons c r =>
      have hc : c ≠ 48 := fun e => h.2.1 (by rw [e]; rfl)
      have h48 : (48 == c) = false := by simpa using Ne.symm hc
      show ((48 == c) && List.isPrefixOf [102] r) = false
      rw [h48]; rfl
  refine ⟨(intF_cases _).2 (Or.inr (Or.inr h)), hpre, ?_⟩
  rw [pi_plain d h]
  rcases parse_over 18446744073709551615 (Nat.le_refl _) d h.2.2 with e | ⟨e, hlt⟩
  · rw [e]
    simp only [Lib.signlessC]
    by_cases hc : decN 0 d < 9223372036854775808
    · rw [if_pos hc, if_neg (by omega)]
    · rw [if_neg hc, if_pos (by omega)]
  · rw [e, if_neg (by omega)]; rfl

end Go.Proofs.YtkeeglpbhjnmdaaDoor
