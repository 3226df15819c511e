/- Ints' texts and ints, there and back. -/
import Derived.Test.YtkeeglpbhjnmdaaDoorBackP
import Derived.Test.YtkeeglpbhjnmdaaDoorBackQ
namespace Go.Proofs.YtkeeglpbhjnmdaaDoor
open Go.Lib (NumEnd parseUintM parseUintB parseIntB decDigits itoa)

def isDig (c : UInt8) : Bool := decide (48 ≤ c.toNat ∧ c.toNat ≤ 57)
def decN (acc : Nat) : List UInt8 → Nat
  | [] => acc
  | c :: r => decN (acc * 10 + (c.toNat - 48)) r

theorem dec_contains (c : UInt8) : decB.data.toList.contains c = isDig c := by
  have h : ∀ n : Fin 256, decB.data.toList.contains (UInt8.ofNat n.val) = isDig (UInt8.ofNat n.val) := by decide +kernel
  have e : UInt8.ofNat c.toNat = c := by simp
  have := h ⟨c.toNat, c.toNat_lt⟩
  simpa only [e] using this
theorem hex_contains (c : UInt8) : hexB.data.toList.contains c = isHex c := by
  have h : ∀ n : Fin 256, hexB.data.toList.contains (UInt8.ofNat n.val) = isHex (UInt8.ofNat n.val) := by decide +kernel
  have e : UInt8.ofNat c.toNat = c := by simp
  have := h ⟨c.toNat, c.toNat_lt⟩
  simpa only [e] using this
theorem madeOf_dec (l : List UInt8) : madeOf l decB.data.toList = true ↔ ∀ c ∈ l, isDig c = true := by
  unfold madeOf; simp only [List.all_eq_true, dec_contains]
theorem madeOf_hex (l : List UInt8) : madeOf l hexB.data.toList = true ↔ ∀ c ∈ l, isHex c = true := by
  unfold madeOf; simp only [List.all_eq_true, hex_contains]

theorem dig_iff (c : UInt8) : isDig c = true ↔ 48 ≤ c.toNat ∧ c.toNat ≤ 57 := by unfold isDig; exact decide_eq_true_iff
theorem dig_back (c : UInt8) (h : isDig c = true) : UInt8.ofNat (48 + (c.toNat - 48)) = c := by
  obtain ⟨h1, h2⟩ := (dig_iff c).1 h
  rw [show 48 + (c.toNat - 48) = c.toNat by omega]; simp
theorem dig_of (d : Nat) (h : d < 10) : isDig (UInt8.ofNat (48 + d)) = true ∧ (UInt8.ofNat (48 + d)).toNat = 48 + d := by
  have h : d = 0 ∨ d = 1 ∨ d = 2 ∨ d = 3 ∨ d = 4 ∨ d = 5 ∨ d = 6 ∨ d = 7 ∨ d = 8 ∨ d = 9 := by omega
  rcases h with h | h | h | h | h | h | h | h | h | h <;> subst h <;> decide

theorem decN_append : ∀ (l : List UInt8) (acc : Nat) (c : UInt8), decN acc (l ++ [c]) = decN acc l * 10 + (c.toNat - 48)
  | [], _, _ => rfl
  | _ :: r, _, c => decN_append r _ c
theorem decN_ge : ∀ (l : List UInt8) (acc : Nat), acc ≤ decN acc l
  | [], _ => Nat.le_refl _
  | x :: r, acc => by
    have := decN_ge r (acc * 10 + (x.toNat - 48))
    show acc ≤ decN (acc * 10 + (x.toNat - 48)) r
    omega

theorem parse_digits (M : Nat) (hM : M ≤ 18446744073709551615) : ∀ (l : List UInt8) (acc : Nat), (∀ c ∈ l, isDig c = true) → decN acc l ≤ M → parseUintM M acc l = .ok (decN acc l)
  | [], acc, _, _ => rfl
  | c :: r, acc, h, hle => by
    have hc := (dig_iff c).1 (h c (List.mem_cons_self ..))
    have hge := decN_ge r (acc * 10 + (c.toNat - 48))
    have hle' : decN (acc * 10 + (c.toNat - 48)) r ≤ M := hle
    have ih := parse_digits M hM r (acc * 10 + (c.toNat - 48)) (fun x hx => h x (List.mem_cons_of_mem _ hx)) hle'
    rw [parseUintM, if_pos hc, if_neg (by omega), if_neg (by omega), ih]
    rfl
theorem parse_ok (M : Nat) : ∀ (l : List UInt8) (acc u : Nat), parseUintM M acc l = .ok u → (∀ c ∈ l, isDig c = true) ∧ u = decN acc l
  | [], acc, u, h => by
    simp only [parseUintM, NumEnd.ok.injEq] at h
    exact ⟨by simp, h.symm⟩
  | c :: r, acc, u, h => by
    rw [parseUintM] at h
    split at h
    · rename_i hc
      split at h
      · cases h
      · split at h
        · cases h
        · obtain ⟨h1, h2⟩ := parse_ok M r _ u h
          refine ⟨fun x hx => ?_, h2⟩
          rcases List.mem_cons.1 hx with rfl | hx
          · exact (dig_iff _).2 hc
          · exact h1 x hx
    · cases h
/-- A number, or one that is out of range: a text of digits is no other. -/
def Plain {α : Type} (e : NumEnd α) : Prop :=
  match e with
  | .ok _ => True
  | .range => True
  | _ => False
theorem parse_plain (M : Nat) : ∀ (l : List UInt8) (acc : Nat), (∀ c ∈ l, isDig c = true) → Plain (parseUintM M acc l)
  | [], acc, _ => by simp [parseUintM, Plain]
  | c :: r, acc, h => by
    have hc := (dig_iff c).1 (h c (List.mem_cons_self ..))
    have ih := parse_plain M r (acc * 10 + (c.toNat - 48)) (fun x hx => h x (List.mem_cons_of_mem _ hx))
    rw [parseUintM, if_pos hc]
    split
    · simp [Plain]
    · split
      · simp [Plain]
      · exact ih

theorem digits_facts (u : Nat) : (∀ c ∈ decDigits u, isDig c = true) ∧ decN 0 (decDigits u) = u ∧ decDigits u ≠ [] ∧ (u ≠ 0 → (decDigits u).head? ≠ some 48) := by
  induction u using Nat.strongRecOn with
  | _ u ih =>
    by_cases h : u < 10
    · rw [decDigits, dif_pos h]
      obtain ⟨d1, d2⟩ := dig_of u h
      refine ⟨fun c hc => ?_, ?_, by simp, fun hu => ?_⟩
      · rw [List.mem_singleton.1 hc]; exact d1
      · show 0 * 10 + ((UInt8.ofNat (48 + u)).toNat - 48) = u
        rw [d2]; omega
      · simp only [List.head?_cons, ne_eq, Option.some.injEq]
        intro e
        have := congrArg UInt8.toNat e
        rw [d2] at this
        have h48 : (48 : UInt8).toNat = 48 := rfl
        omega
    · rw [decDigits, dif_neg h]
      obtain ⟨i1, i2, i3, i4⟩ := ih (u / 10) (by omega)
      obtain ⟨d1, d2⟩ := dig_of (u % 10) (by omega)
      refine ⟨fun c hc => ?_, ?_, by simp, fun hu => ?_⟩
      · rcases List.mem_append.1 hc with hc | hc
        · exact i1 c hc
        · rw [List.mem_singleton.1 hc]; exact d1
      · rw [decN_append, i2, d2]; omega
      · have hn : u / 10 ≠ 0 := by omega
        rw [List.head?_append]
        cases hd : (decDigits (u / 10)).head? with
        | none => exact absurd (List.head?_eq_none_iff.1 hd) i3
        | some x => have := i4 hn; rw [hd] at this; simpa using this

theorem digits_back : ∀ (n : Nat) (l : List UInt8), l.length = n → l ≠ [] → (∀ c ∈ l, isDig c = true) → l.head? ≠ some 48 → decDigits (decN 0 l) = l ∧ 1 ≤ decN 0 l := by
  intro n
  induction n using Nat.strongRecOn with
  | _ n ih =>
    intro l hl hne hall hh
    rcases List.eq_nil_or_concat l with h0 | ⟨i, c, h0⟩
    · exact absurd h0 hne
    · rw [List.concat_eq_append] at h0
      subst h0
      have hc := hall c (by simp)
      have hc' := (dig_iff c).1 hc
      by_cases hi : i = []
      · subst hi
        have hn : c.toNat ≠ 48 := by
          intro e
          apply hh
          simp only [List.nil_append, List.head?_cons, Option.some.injEq]
          exact UInt8.toNat_inj.1 e
        have e1 : decN 0 ([] ++ [c]) = c.toNat - 48 := by show 0 * 10 + (c.toNat - 48) = c.toNat - 48; omega
        rw [e1]
        refine ⟨?_, by omega⟩
        rw [decDigits, dif_pos (by omega), dig_back c hc]
        rfl
      · have hlen : i.length < n := by rw [← hl]; simp
        have hh' : i.head? ≠ some 48 := by
          intro e
          apply hh
          rw [List.head?_append, e]; rfl
        obtain ⟨h1, h2⟩ := ih i.length hlen i rfl hi (fun x hx => hall x (by simp [hx])) hh'
        rw [decN_append]
        refine ⟨?_, by omega⟩
        rw [decDigits, dif_neg (by omega), show (decN 0 i * 10 + (c.toNat - 48)) / 10 = decN 0 i by omega, show (decN 0 i * 10 + (c.toNat - 48)) % 10 = c.toNat - 48 by omega, h1, dig_back c hc]

end Go.Proofs.YtkeeglpbhjnmdaaDoor
