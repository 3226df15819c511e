/- Plain facts on the model's floats of 64 bits, continued: their order by their bits, their whole part by their bits. No Go program is named here. -/
import Derived.Test.YtkipioojdlkbcaaDoorFloatB
namespace Go.Proofs.YtkipioojdlkbcaaDoor.Fl
open Ieee

/-- A float's bits as an int that rises as floats do. -/
def key (b : Nat) : Int := if 9223372036854775808 ≤ b then -((b : Int) - 9223372036854775808) else b

theorem compare_of {x y x' y' : Int} (h1 : x < y ↔ x' < y') (h2 : y < x ↔ y' < x') : compare x y = compare x' y' := by
  rcases Int.lt_trichotomy x y with h | h | h
  · rw [Int.compare_eq_lt.2 h, Int.compare_eq_lt.2 (h1.1 h)]
  · have : x' = y' := by
      have a : ¬ x' < y' := fun q => by have := h1.2 q; omega
      have b : ¬ y' < x' := fun q => by have := h2.2 q; omega
      omega
    rw [Int.compare_eq_eq.2 h, Int.compare_eq_eq.2 this]
  · rw [Int.compare_eq_gt.2 h, Int.compare_eq_gt.2 (h2.1 h)]

theorem key_word (s : Bool) (r : Nat) (h : r < 9223372036854775808) : key (F.word s r) = sg s r := by
  have e0 : F.word false r = r := rfl
  have e1 : F.word true r = 9223372036854775808 + r := rfl
  unfold key
  cases s
  · rw [e0, if_neg (by omega)]; rfl
  · rw [e1, if_pos (by omega)]; simp [sg]; omega

theorem mag_lt {m n : Nat} {p q : Int} (hm : Canon m p) (hn : Canon n q) :
    (m * 2 ^ (p - min p q).toNat < n * 2 ^ (q - min p q).toNat ↔ rung m p < rung n q) := by
  unfold rung
  rcases Int.lt_trichotomy p q with h | h | h
  · rw [Int.min_eq_left (by omega), show (p - p).toNat = 0 by omega, Nat.pow_zero, Nat.mul_one]
    have hn2 : 2 ^ 52 ≤ n := by rcases hn with ⟨_, e⟩ | ⟨e, _⟩ <;> rcases hm with ⟨_, e'⟩ | ⟨_, _, e', _⟩ <;> omega
    have hk : 2 ≤ 2 ^ (q - p).toNat := by
      have : 2 ^ 1 ≤ 2 ^ (q - p).toNat := Nat.pow_le_pow_right (by decide) (by omega)
      simpa using this
    have hnk : 2 ^ 52 * 2 ≤ n * 2 ^ (q - p).toNat := Nat.mul_le_mul hn2 hk
    have hm2 : m < 2 ^ 53 := by rcases hm with ⟨e, _⟩ | ⟨_, e, _⟩ <;> omega
    have hp : -1074 ≤ p := by rcases hm with ⟨_, e⟩ | ⟨_, _, e, _⟩ <;> omega
    generalize n * 2 ^ (q - p).toNat = x at hnk ⊢
    constructor
    · intro; omega
    · intro; omega
  · subst h
    rw [Int.min_self, show (p - p).toNat = 0 by omega, Nat.pow_zero, Nat.mul_one, Nat.mul_one]
    omega
  · rw [Int.min_eq_right (by omega), show (q - q).toNat = 0 by omega, Nat.pow_zero, Nat.mul_one]
    have hm2 : 2 ^ 52 ≤ m := by rcases hm with ⟨_, e⟩ | ⟨e, _⟩ <;> rcases hn with ⟨_, e'⟩ | ⟨_, _, e', _⟩ <;> omega
    have hk : 2 ≤ 2 ^ (p - q).toNat := by
      have : 2 ^ 1 ≤ 2 ^ (p - q).toNat := Nat.pow_le_pow_right (by decide) (by omega)
      simpa using this
    have hmk : 2 ^ 52 * 2 ≤ m * 2 ^ (p - q).toNat := Nat.mul_le_mul hm2 hk
    have hn2 : n < 2 ^ 53 := by rcases hn with ⟨e, _⟩ | ⟨_, e, _⟩ <;> omega
    have hp : -1074 ≤ q := by rcases hn with ⟨_, e⟩ | ⟨_, _, e, _⟩ <;> omega
    generalize m * 2 ^ (p - q).toNat = x at hmk ⊢
    constructor
    · intro; omega
    · intro; omega

theorem mag_zero {m : Nat} {p : Int} (h : Canon m p) (k : Nat) : m * 2 ^ k = 0 ↔ rung m p = 0 := by
  have hk := Nat.two_pow_pos k
  have e : m * 2 ^ k = 0 ↔ m = 0 := by
    rw [Nat.mul_eq_zero]; exact ⟨fun h => h.elim id (fun h => by omega), .inl⟩
  rw [e]
  unfold rung
  rcases h with ⟨h1, h2⟩ | ⟨h1, h2, h3, h4⟩ <;> omega

theorem sg_lt {s t : Bool} {a b c d : Nat} (h1 : a < b ↔ c < d) (h2 : b < a ↔ d < c) (ha : a = 0 ↔ c = 0) (hb : b = 0 ↔ d = 0) : sg s a < sg t b ↔ sg s c < sg t d := by
  cases s <;> cases t <;> simp only [sg, if_true, Bool.false_eq_true, if_false] <;> omega

theorem order_key (a b : Nat) (ha : a < 2 ^ 64) (hb : b < 2 ^ 64) (h1 : ¬ 2047 * 2 ^ 52 < a % 2 ^ 63) (h2 : ¬ 2047 * 2 ^ 52 < b % 2 ^ 63) : F.order a b = some (compare (key a) (key b)) := by
  unfold Format.order
  rcases read_cases a ha with ⟨s, m, p, hc, e, hw⟩ | ⟨s, e, hw⟩ | ⟨s, t, e, hn⟩
  · have hr := rung_lt m p hc
    rcases read_cases b hb with ⟨s', m', p', hc', e', hw'⟩ | ⟨s', e', hw'⟩ | ⟨s', t', e', hn'⟩
    · have hr' := rung_lt m' p' hc'
      rw [e, e', hw, hw', key_word _ _ (by omega), key_word _ _ (by omega)]
      simp only [Datum.order, signed_sg]
      congr 1
      have hl := mag_lt hc hc'
      have hg := mag_lt hc' hc
      rw [Int.min_comm p' p] at hg
      exact compare_of (sg_lt hl hg (mag_zero hc _) (mag_zero hc' _)) (sg_lt hg hl (mag_zero hc' _) (mag_zero hc _))
    · rw [e, e', hw, hw', key_word _ _ (by omega), key_word _ _ (by omega)]
      simp only [Datum.order]
      congr 1
      cases s'
      · rw [if_neg (by decide)]; symm; rw [Int.compare_eq_lt]; cases s <;> simp only [sg, if_true, Bool.false_eq_true, if_false] <;> omega
      · rw [if_pos rfl]; symm; rw [Int.compare_eq_gt]; cases s <;> simp only [sg, if_true, Bool.false_eq_true, if_false] <;> omega
    · exact absurd hn' h2
  · rcases read_cases b hb with ⟨s', m', p', hc', e', hw'⟩ | ⟨s', e', hw'⟩ | ⟨s', t', e', hn'⟩
    · have hr' := rung_lt m' p' hc'
      rw [e, e', hw, hw', key_word _ _ (by omega), key_word _ _ (by omega)]
      simp only [Datum.order]
      congr 1
      cases s
      · rw [if_neg (by decide)]; symm; rw [Int.compare_eq_gt]; cases s' <;> simp only [sg, if_true, Bool.false_eq_true, if_false] <;> omega
      · rw [if_pos rfl]; symm; rw [Int.compare_eq_lt]; cases s' <;> simp only [sg, if_true, Bool.false_eq_true, if_false] <;> omega
    · rw [e, e', hw, hw', key_word _ _ (by omega), key_word _ _ (by omega)]
      cases s <;> cases s' <;> decide
    · exact absurd hn' h2
  · exact absurd hn h1

theorem toInt_of (b : Nat) (s : Bool) (m : Nat) (p : Int) (hc : Canon m p) (e : F.read b = .number s m p) (hW : Within s m p) : within b = true ∧ floatToIntVal .f64 b .i64 = some (sg s (qz m p)) := by
  refine ⟨(within_number b s m p hc e).2 hW, ?_⟩
  have hr := qz_range s m p hc hW
  unfold floatToIntVal
  rw [show FloatKind.f64.decode b = .number s m p from e, toInt_number]
  simp only
  rw [if_pos ⟨hr.1, hr.2⟩]

theorem small_pow {k j : Nat} (h : j ≤ k) : 2 ^ j ≤ 2 ^ k := Nat.pow_le_pow_right (by decide) h

/-- The word's parts, and what its whole part is. -/
theorem trunc_bits (b : Nat) (hb : b < 2 ^ 64) :
    (b / 4503599627370496 % 2048 < 1023 → within b = true ∧ floatToIntVal .f64 b .i64 = some 0) ∧
    (b / 4503599627370496 % 2048 = 1086 → 9223372036854775808 ≤ b → b % 4503599627370496 = 0 → within b = true ∧ floatToIntVal .f64 b .i64 = some (-9223372036854775808)) ∧
    (1086 ≤ b / 4503599627370496 % 2048 → ¬ (b / 4503599627370496 % 2048 = 1086 ∧ 9223372036854775808 ≤ b ∧ b % 4503599627370496 = 0) → within b = false) ∧
    (1023 ≤ b / 4503599627370496 % 2048 → b / 4503599627370496 % 2048 < 1086 → within b = true ∧ floatToIntVal .f64 b .i64 = some (sg (decide (9223372036854775808 ≤ b))
      (if b / 4503599627370496 % 2048 < 1075 then (b % 4503599627370496 + 4503599627370496) / 2 ^ (1075 - b / 4503599627370496 % 2048) else (b % 4503599627370496 + 4503599627370496) * 2 ^ (b / 4503599627370496 % 2048 - 1075)))) := by
  rcases read_cases b hb with ⟨s, m, p, hc, e, hw⟩ | ⟨s, e, hw⟩ | ⟨s, t, e, hn⟩
  · have hs : decide (9223372036854775808 ≤ b) = s := by
      have hr := rung_lt m p hc
      rw [hw]; cases s
      · simp [Format.word]; omega
      · simp [Format.word, F_sign]
    have hs2 : 9223372036854775808 ≤ b ↔ s = true := by rw [← hs, decide_eq_true_iff]
    rw [hs]
    have hrl := rung_lt m p hc
    rcases id hc with ⟨h1, h2⟩ | ⟨h1, h2, h3, h4⟩
    · have ex : b / 4503599627370496 % 2048 = 0 := by
        rw [hw]; subst h2
        have : rung m (-1074) = m := by unfold rung; simp
        rw [this]
        cases s <;> simp only [Format.word, F_sign, if_true, Bool.false_eq_true, if_false] <;> omega
      rw [ex]
      refine ⟨fun _ => ?_, fun h => by omega, fun h => by omega, fun h => by omega⟩
      have hW : Within s m p := ⟨by omega, .inl (by have := small_pow (k := (63 - p).toNat) (j := 52) (by omega); omega)⟩
      obtain ⟨w1, w2⟩ := toInt_of b s m p hc e hW
      refine ⟨w1, ?_⟩
      rw [w2]
      unfold qz
      rw [if_neg (by omega), Nat.div_eq_of_lt (by have := small_pow (k := (-p).toNat) (j := 52) (by omega); omega)]
      cases s <;> rfl
    · have ex : b / 4503599627370496 % 2048 = (p + 1075).toNat := by
        rw [hw]; unfold rung
        cases s <;> simp only [Format.word, F_sign, if_true, Bool.false_eq_true, if_false] <;> omega
      have fr : b % 4503599627370496 + 4503599627370496 = m := by
        rw [hw]; unfold rung
        cases s <;> simp only [Format.word, F_sign, if_true, Bool.false_eq_true, if_false] <;> omega
      have fr0 : b % 4503599627370496 = 0 ↔ m = 2 ^ 52 := by omega
      rw [ex, fr, fr0, hs2]
      refine ⟨fun h => ?_, fun h hs' hm => ?_, fun h hno => ?_, fun h h' => ?_⟩
      · have hW : Within s m p := ⟨by omega, .inl (by have := small_pow (k := (63 - p).toNat) (j := 53) (by omega); omega)⟩
        obtain ⟨w1, w2⟩ := toInt_of b s m p hc e hW
        refine ⟨w1, ?_⟩
        rw [w2]
        unfold qz
        rw [if_neg (by omega), Nat.div_eq_of_lt (by have := small_pow (k := (-p).toNat) (j := 53) (by omega); omega)]
        cases s <;> rfl
      · have hp : p = 11 := by omega
        subst hp
        have hW : Within s m 11 := ⟨by omega, .inr ⟨hs', hm⟩⟩
        obtain ⟨w1, w2⟩ := toInt_of b s m 11 hc e hW
        refine ⟨w1, ?_⟩
        rw [w2, hs', hm]
        decide
      · rw [Bool.eq_false_iff]
        intro hc'
        have hW := (within_number b s m p hc e).1 hc'
        obtain ⟨q1, q2⟩ := hW
        have hp : p = 11 := by omega
        subst hp
        rcases q2 with q2 | ⟨q2, q3⟩
        · have : (2 : Nat) ^ (63 - (11 : Int)).toNat = 2 ^ 52 := rfl
          omega
        · exact hno ⟨by omega, q2, q3⟩
      · have hW : Within s m p := ⟨by omega, .inl (by have := small_pow (k := (63 - p).toNat) (j := 53) (by omega); omega)⟩
        obtain ⟨w1, w2⟩ := toInt_of b s m p hc e hW
        refine ⟨w1, ?_⟩
        rw [w2]
        unfold qz
        by_cases hp : 0 ≤ p
        · rw [if_pos hp, if_neg (by omega), show (p + 1075).toNat - 1075 = p.toNat by omega]
        · rw [if_neg hp, if_pos (by omega), show 1075 - (p + 1075).toNat = (-p).toNat by omega]
  · have ex : b / 4503599627370496 % 2048 = 2047 := by
      rw [hw]
      cases s <;> simp only [Format.word, F_sign, if_true, Bool.false_eq_true, if_false] <;> omega
    rw [ex]
    exact ⟨fun h => by omega, fun h => by omega, fun _ _ => within_inf b s e, fun _ h => by omega⟩
  · have ex : b / 4503599627370496 % 2048 = 2047 := by omega
    rw [ex]
    exact ⟨fun h => by omega, fun h => by omega, fun _ _ => within_nan b hn, fun _ h => by omega⟩

end Go.Proofs.YtkipioojdlkbcaaDoor.Fl
