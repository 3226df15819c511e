/- Ints' texts: there and back, as a whole; and what the library's parse of digits answers of any text. -/
import Derived.Test.YtkeeglpbhjnmdaaDoorBackR
namespace Go.Proofs.YtkeeglpbhjnmdaaDoor
open Go.RowKit
open Go.Lib (NumEnd parseUintM parseUintB parseIntB decDigits itoa)

theorem trim_minus (r : List UInt8) : Lib.trimPrefix (45 :: r) [45] = r := by simp [Lib.trimPrefix, Lib.hasPrefix]
theorem trim_plain (c : UInt8) (r : List UInt8) (h : c ≠ 45) : Lib.trimPrefix (c :: r) [45] = c :: r := by
  simp [Lib.trimPrefix, Lib.hasPrefix, Ne.symm h]

theorem digits_zero : decDigits 0 = [48] := by rw [decDigits, dif_pos (by decide)]; rfl
theorem itoa_zero : itoa 0 = [48] := by unfold itoa; rw [if_neg (by decide)]; exact digits_zero

theorem dig_not (c : UInt8) (h : isDig c = true) : c.toNat ≠ 43 ∧ c.toNat ≠ 45 ∧ c ≠ 45 := by
  have := (dig_iff c).1 h
  refine ⟨by omega, by omega, fun e => ?_⟩
  have e1 : (45 : UInt8).toNat = 45 := rfl
  rw [e, e1] at this
  omega

/-- Digits alone, the first of which is no nought. -/
def Mag (d : List UInt8) : Prop := d ≠ [] ∧ d.head? ≠ some 48 ∧ ∀ c ∈ d, isDig c = true

theorem intF_mag (d : List UInt8) : (!d.isEmpty && !(d.head? == some 48) && madeOf d decB.data.toList) = true ↔ Mag d := by
  unfold Mag
  rw [Bool.and_eq_true, Bool.and_eq_true, madeOf_dec]
  simp [and_assoc]

theorem intF_cases (l : List UInt8) : intF l = true ↔ l = [48] ∨ (∃ d, l = 45 :: d ∧ Mag d) ∨ Mag l := by
  unfold intF
  rw [Bool.or_eq_true, intF_mag, beq_iff_eq]
  constructor
  · rintro (h | h)
    · exact Or.inl h
    · cases l with
      | nil => exact absurd rfl h.1
      | cons c r =>
        by_cases e : c = 45
        · subst e
          rw [trim_minus] at h
          exact Or.inr (Or.inl ⟨r, rfl, h⟩)
        · rw [trim_plain c r e] at h
          exact Or.inr (Or.inr h)
  · rintro (h | ⟨d, rfl, h⟩ | h)
    · exact Or.inl h
    · rw [trim_minus]; exact Or.inr h
    · cases l with
      | nil => exact absurd rfl h.1
      | cons c r => rw [trim_plain c r (dig_not c (h.2.2 c (List.mem_cons_self ..))).2.2]; exact Or.inr h

theorem pu_mag (d : List UInt8) (h : Mag d) : parseUintB 64 d = parseUintM 18446744073709551615 0 d := by
  unfold parseUintB
  rw [if_neg h.1]

theorem pi_minus (d : List UInt8) (h : Mag d) : parseIntB 64 (45 :: d) = Lib.signedC 9223372036854775808 (parseUintM 18446744073709551615 0 d) := by
  rw [Lib.parseIntB_minus, pu_mag d h]
theorem pi_plain (d : List UInt8) (h : Mag d) : parseIntB 64 d = Lib.signlessC 9223372036854775808 (parseUintM 18446744073709551615 0 d) := by
  have hp := pu_mag d h
  obtain ⟨h1, _, h3⟩ := h
  cases d with
  | nil => exact absurd rfl h1
  | cons c r =>
    obtain ⟨n1, n2, _⟩ := dig_not c (h3 c (List.mem_cons_self ..))
    rw [Lib.parseIntB_plain 64 c r n1 n2, hp]

theorem pi_zero : parseIntB 64 [48] = .ok 0 := by decide

/-- What is parsed is printed as it was. -/
theorem int_back (l : List UInt8) (v : Int) (hf : intF l = true) (hv : parseIntB 64 l = .ok v) : itoa v = l := by
  rcases (intF_cases l).1 hf with rfl | ⟨d, rfl, hd⟩ | hd
  · rw [pi_zero] at hv
    obtain rfl : v = 0 := by simpa using hv.symm
    exact itoa_zero
  · rw [pi_minus d hd] at hv
    cases hp : parseUintM 18446744073709551615 0 d with
    | range => rw [hp] at hv; cases hv
    | ok u =>
      rw [hp] at hv
      simp only [Lib.signedC] at hv
      split at hv
      · cases hv
      · obtain ⟨_, hu⟩ := parse_ok _ d 0 u hp
        obtain ⟨b1, b2⟩ := digits_back d.length d rfl hd.1 hd.2.2 hd.2.1
        rw [← hu] at b1 b2
        obtain rfl : v = -(u : Int) := by simpa using hv.symm
        unfold itoa
        rw [if_pos (by omega), show (-(u : Int)).natAbs = u by omega, b1]
    | _ => rw [hp] at hv; cases hv
  · rw [pi_plain l hd] at hv
    cases hp : parseUintM 18446744073709551615 0 l with
    | range => rw [hp] at hv; cases hv
    | ok u =>
      rw [hp] at hv
      simp only [Lib.signlessC] at hv
      split at hv
      · cases hv
      · obtain ⟨_, hu⟩ := parse_ok _ l 0 u hp
        obtain ⟨b1, b2⟩ := digits_back l.length l rfl hd.1 hd.2.2 hd.2.1
        rw [← hu] at b1 b2
        obtain rfl : v = (u : Int) := by simpa using hv.symm
        unfold itoa
        rw [if_neg (by omega), show (u : Int).toNat = u by omega, b1]
    | _ => rw [hp] at hv; cases hv

theorem mag_digits (m : Nat) (h : m ≠ 0) : Mag (decDigits m) := by
  obtain ⟨h1, _, h3, h4⟩ := digits_facts m
  exact ⟨h3, h4 h, h1⟩

theorem parse_mag (m : Nat) (h : m ≤ 18446744073709551615) : parseUintM 18446744073709551615 0 (decDigits m) = .ok m := by
  obtain ⟨h1, h2, _, _⟩ := digits_facts m
  have := parse_digits 18446744073709551615 (Nat.le_refl _) (decDigits m) 0 h1 (by rw [h2]; exact h)
  rw [h2] at this
  exact this

/-- What is printed is parsed as it was. -/
theorem int_there (v : Int) (h1 : -9223372036854775808 ≤ v) (h2 : v ≤ 9223372036854775807) : intF (itoa v) = true ∧ parseIntB 64 (itoa v) = .ok v ∧ Lib.hasPrefix (itoa v) [48, 102] = false := by
  have pre : ∀ l : List UInt8, Mag l → Lib.hasPrefix l [48, 102] = false := by
    intro l hl
    cases l with
    | nil => exact absurd rfl hl.1
    | cons c r =>
      have hc : c ≠ 48 := fun e => hl.2.1 (by rw [e]; rfl)
      have h48 : (48 == c) = false := by simpa using Ne.symm hc
      show ((48 == c) && List.isPrefixOf [102] r) = false
      rw [h48]; rfl
  by_cases hn : v < 0
  · have e : itoa v = 45 :: decDigits v.natAbs := by unfold itoa; rw [if_pos hn]
    have hm := mag_digits v.natAbs (by omega)
    rw [e]
    refine ⟨(intF_cases _).2 (Or.inr (Or.inl ⟨_, rfl, hm⟩)), ?_, rfl⟩
    rw [pi_minus _ hm, parse_mag _ (by omega)]
    simp only [Lib.signedC]
    rw [if_neg (by omega)]
    congr 1
    omega
  · have e : itoa v = decDigits v.toNat := by unfold itoa; rw [if_neg hn]
    rw [e]
    by_cases h0 : v.toNat = 0
    · rw [h0, digits_zero]
      refine ⟨by decide, ?_, by decide⟩
      rw [pi_zero]
      congr 1
      omega
    · have hm := mag_digits v.toNat h0
      refine ⟨(intF_cases _).2 (Or.inr (Or.inr hm)), ?_, pre _ hm⟩
      rw [pi_plain _ hm, parse_mag _ (by omega)]
      simp only [Lib.signlessC]
      rw [if_neg (by omega)]
      congr 1
      omega

/-- A text of an int's form is wrong in its size alone. -/
theorem int_plain (l : List UInt8) (hf : intF l = true) : Plain (parseIntB 64 l) := by
  rcases (intF_cases l).1 hf with rfl | ⟨d, rfl, hd⟩ | hd
  · rw [pi_zero]; simp [Plain]
  · rw [pi_minus d hd]
    have h := parse_plain 18446744073709551615 d 0 hd.2.2
    cases hp : parseUintM 18446744073709551615 0 d with
    | range => simp [Lib.signedC, Plain]
    | ok u => simp only [Lib.signedC]; split <;> simp [Plain]
    | _ => rw [hp] at h; exact h.elim
  · rw [pi_plain l hd]
    have h := parse_plain 18446744073709551615 l 0 hd.2.2
    cases hp : parseUintM 18446744073709551615 0 l with
    | range => simp [Lib.signlessC, Plain]
    | ok u => simp only [Lib.signlessC]; split <;> simp [Plain]
    | _ => rw [hp] at h; exact h.elim

end Go.Proofs.YtkeeglpbhjnmdaaDoor
