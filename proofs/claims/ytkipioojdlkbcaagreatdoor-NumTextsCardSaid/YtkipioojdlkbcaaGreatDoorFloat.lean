/- Plain facts on the model's floats of 64 bits: what is nearest depends on the number alone; what is read and written again is the same; sums, differences and products of small ints are those of their floats; a float's whole part. No Go program is named here. -/
import Derived.Laws.FloatBits
namespace Go.Proofs.YtkipioojdlkbcaaGreatDoor.Fl
open Ieee

/-- The format that all is about. -/
def F : Format := Ieee.double

theorem cut_zero (s : Bool) (n : Nat) : Toward.even.cut s n 0 = n := by
  have h : ¬ (1 : Nat) < 2 * (n % 1) := by omega
  simp [Toward.cut, Nat.mod_one, Nat.div_one]

theorem log2_shift (n k : Nat) (h : n ≠ 0) : (n * 2 ^ k).log2 = n.log2 + k := by
  have hp : n * 2 ^ k ≠ 0 := Nat.mul_ne_zero h (Nat.pos_iff_ne_zero.1 (Nat.two_pow_pos k))
  rw [Nat.log2_eq_iff hp]
  have h1 := Nat.log2_self_le h
  have h2 := Nat.lt_log2_self (n := n)
  constructor
  · rw [Nat.pow_add]; exact Nat.mul_le_mul_right _ h1
  · rw [show n.log2 + k + 1 = (n.log2 + 1) + k by omega, Nat.pow_add]
    exact Nat.mul_lt_mul_of_pos_right h2 (Nat.two_pow_pos k)

/-- What is cut is the same, if both are shifted. -/
theorem cut_shift (s : Bool) (n k d : Nat) (h : n ≠ 0) : Toward.even.cut s (n * 2 ^ k) (d + k) = Toward.even.cut s n d := by
  have hk : 0 < 2 ^ k := Nat.two_pow_pos k
  have hm : min (d + k) ((n * 2 ^ k).log2 + 2) = min d (n.log2 + 2) + k := by rw [log2_shift n k h]; omega
  simp only [Toward.cut]
  rw [hm, Nat.shiftLeft_eq, Nat.shiftLeft_eq, Nat.one_mul, Nat.one_mul, Nat.pow_add, Nat.mul_div_mul_right _ _ hk, Nat.mul_mod_mul_right]
  have e1 : (2 ^ min d (n.log2 + 2) * 2 ^ k < 2 * (n % 2 ^ min d (n.log2 + 2) * 2 ^ k)) = (2 ^ min d (n.log2 + 2) < 2 * (n % 2 ^ min d (n.log2 + 2))) := by
    rw [← Nat.mul_assoc]; exact propext (Nat.mul_lt_mul_right hk)
  have e2 : (2 ^ min d (n.log2 + 2) * 2 ^ k == 2 * (n % 2 ^ min d (n.log2 + 2) * 2 ^ k)) = (2 ^ min d (n.log2 + 2) == 2 * (n % 2 ^ min d (n.log2 + 2))) := by
    rw [← Nat.mul_assoc, Bool.eq_iff_iff]; simp only [beq_iff_eq]
    exact ⟨fun e => Nat.eq_of_mul_eq_mul_right hk e, fun e => congrArg (· * 2 ^ k) e⟩
  simp only [e1, e2]

/-- The nearest word depends on the number alone, not on how it is parted into magnitude and place. -/
theorem nearest_shift (s : Bool) (m k : Nat) (p : Int) (h : m ≠ 0) : F.nearest s (m * 2 ^ k) (p - k) = F.nearest s m p := by
  have hp : m * 2 ^ k ≠ 0 := Nat.mul_ne_zero h (Nat.pos_iff_ne_zero.1 (Nat.two_pow_pos k))
  simp only [Format.nearest, if_neg h, if_neg hp, log2_shift m k h]
  have e : (p - (k : Int) + ((m.log2 + k : Nat) : Int)) = p + (m.log2 : Int) := by omega
  rw [e]
  generalize max (p + (m.log2 : Int) - (F.fractionBits : Int)) F.leastPlace = L
  have key : Toward.even.cut s ((m * 2 ^ k) <<< (p - k - L).toNat) (L - (p - k)).toNat = Toward.even.cut s (m <<< (p - L).toNat) (L - p).toNat := by
    rw [Nat.shiftLeft_eq, Nat.shiftLeft_eq]
    rcases Int.le_total L p with hL | hL
    · rcases Int.le_total L (p - k) with hL' | hL'
      · rw [show (L - (p - k)).toNat = 0 by omega, show (L - p).toNat = 0 by omega, cut_zero, cut_zero, Nat.mul_assoc, ← Nat.pow_add,
          show k + (p - k - L).toNat = (p - L).toNat by omega]
      · rw [show (p - k - L).toNat = 0 by omega, show (L - p).toNat = 0 by omega, Nat.pow_zero, Nat.mul_one, cut_zero]
        have hk : k = (p - L).toNat + (L - (p - k)).toNat := by omega
        have hn : m * 2 ^ (p - L).toNat ≠ 0 := Nat.mul_ne_zero h (Nat.pos_iff_ne_zero.1 (Nat.two_pow_pos _))
        have := cut_shift s (m * 2 ^ (p - L).toNat) (L - (p - k)).toNat 0 hn
        rw [Nat.zero_add, cut_zero, Nat.mul_assoc, ← Nat.pow_add, ← hk] at this
        exact this
    · rw [show (p - k - L).toNat = 0 by omega, show (p - L).toNat = 0 by omega, Nat.pow_zero, Nat.mul_one, Nat.mul_one,
        show (L - (p - k)).toNat = (L - p).toNat + k by omega]
      exact cut_shift s m k _ h
  rw [key]

theorem nearest_shift' (s : Bool) (m k : Nat) (p : Int) : F.nearest s (m * 2 ^ k) (p - k) = F.nearest s m p := by
  by_cases h : m = 0
  · subst h; simp [Format.nearest]
  · exact nearest_shift s m k p h

/-- A number as the format has it: subnormal, or with all its digits. -/
def Canon (m : Nat) (p : Int) : Prop := (m < 2 ^ 52 ∧ p = -1074) ∨ (2 ^ 52 ≤ m ∧ m < 2 ^ 53 ∧ -1074 ≤ p ∧ p ≤ 971)

theorem log2_of (m k : Nat) (h1 : 2 ^ k ≤ m) (h2 : m < 2 ^ (k + 1)) : m.log2 = k := by
  have : m ≠ 0 := by have := Nat.two_pow_pos k; omega
  exact (Nat.log2_eq_iff this).2 ⟨h1, h2⟩

theorem F_fraction : F.fractionBits = 52 := rfl
theorem F_least : F.leastPlace = -1074 := by decide
theorem F_binade : F.binade = 2 ^ 52 := rfl
theorem F_inf : F.infRung = 2047 * 2 ^ 52 := by decide
theorem F_sign : F.signWeight = 2 ^ 63 := rfl

/-- The rung of a number as the format has it. -/
def rung (m : Nat) (p : Int) : Nat := (p + 1074).toNat * 2 ^ 52 + m

theorem rung_lt (m : Nat) (p : Int) (h : Canon m p) : rung m p < 2047 * 2 ^ 52 := by
  unfold rung; rcases h with ⟨h1, h2⟩ | ⟨h1, h2, h3, h4⟩
  · subst h2; simp; omega
  · have : (p + 1074).toNat ≤ 2045 := by omega
    omega

theorem nearest_canon (s : Bool) (m : Nat) (p : Int) (h : Canon m p) : F.nearest s m p = F.word s (rung m p) := by
  have hr := rung_lt m p h
  simp only [Format.nearest, F_fraction, F_least, F_binade, F_inf]
  by_cases h0 : m = 0
  · subst h0
    rcases h with ⟨_, h2⟩ | ⟨h1, _⟩
    · subst h2; simp [rung]
    · omega
  · rw [if_neg h0]
    have hL : max (p + (m.log2 : Int) - ((52 : Nat) : Int)) (-1074) = p := by
      rcases h with ⟨h1, h2⟩ | ⟨h1, h2, h3, h4⟩
      · subst h2
        have : m.log2 < 52 := (Nat.log2_lt h0).2 h1
        omega
      · rw [log2_of m 52 h1 h2]; omega
    rw [hL]
    have hs : (p - p).toNat = 0 := by omega
    rw [hs, cut_zero, Nat.shiftLeft_eq, Nat.pow_zero, Nat.mul_one]
    have hm : min ((p - -1074).toNat * 2 ^ 52 + m) (2047 * 2 ^ 52) = rung m p := by
      unfold rung at hr ⊢
      have : (p - -1074).toNat = (p + 1074).toNat := by omega
      rw [this]; omega
    rw [hm]

theorem word_div (s : Bool) (r : Nat) (h : r < 2 ^ 63) : F.word s r / 2 ^ 63 % 2 = s.toNat := by
  cases s
  · simp only [Format.word, Bool.false_eq_true, if_false, Bool.toNat]; rw [Nat.div_eq_of_lt h]; rfl
  · simp only [Format.word, if_true, F_sign, Bool.toNat]
    rw [Nat.add_div_left _ (Nat.two_pow_pos _), Nat.div_eq_of_lt h]; rfl
theorem word_mod (s : Bool) (r : Nat) (h : r < 2 ^ 63) : F.word s r % 2 ^ 63 = r := by
  cases s
  · simp only [Format.word, Bool.false_eq_true, if_false]; exact Nat.mod_eq_of_lt h
  · simp only [Format.word, if_true, F_sign]; rw [Nat.add_mod_left]; exact Nat.mod_eq_of_lt h

theorem read_word (s : Bool) (m : Nat) (p : Int) (h : Canon m p) : F.read (F.word s (rung m p)) = .number s m p := by
  have hr := rung_lt m p h
  have hr' : rung m p < 2 ^ 63 := by omega
  simp only [Format.read, F_sign, F_binade, F_inf, F_least, word_div s _ hr', word_mod s _ hr']
  have hs : (s.toNat == 1) = s := by cases s <;> rfl
  rw [hs]
  unfold rung at hr ⊢
  rcases h with ⟨h1, h2⟩ | ⟨h1, h2, h3, h4⟩
  · subst h2
    rw [if_pos (by simp; omega)]; simp
  · have hge : ¬ (p + 1074).toNat * 2 ^ 52 + m < 2 ^ 52 := by omega
    rw [if_neg hge, if_pos (by omega)]
    have e1 : ((p + 1074).toNat * 2 ^ 52 + m) % 2 ^ 52 = m - 2 ^ 52 := by omega
    have e2 : ((p + 1074).toNat * 2 ^ 52 + m) / 2 ^ 52 = (p + 1074).toNat + 1 := by omega
    rw [e1, e2]
    have e3 : 2 ^ 52 + (m - 2 ^ 52) = m := by omega
    have e4 : (-1074 : Int) + (((p + 1074).toNat + 1 - 1 : Nat) : Int) = p := by omega
    rw [e3, e4]

/-- Each word is one of these. -/
theorem read_cases (b : Nat) (hb : b < 2 ^ 64) :
    (∃ s m p, Canon m p ∧ F.read b = .number s m p ∧ b = F.word s (rung m p)) ∨
    (∃ s, F.read b = .infinity s ∧ b = F.word s (2047 * 2 ^ 52)) ∨
    (∃ s t, F.read b = .nan s t ∧ 2047 * 2 ^ 52 < b % 2 ^ 63) := by
  have hword : b = F.word (b / 2 ^ 63 % 2 == 1) (b % 2 ^ 63) := by
    have hq : b / 2 ^ 63 = 0 ∨ b / 2 ^ 63 = 1 := by omega
    rcases hq with hq | hq
    · rw [hq]; simp only [Format.word]; simp; omega
    · rw [hq]; simp only [Format.word, F_sign]; simp; omega
  generalize (b / 2 ^ 63 % 2 == 1) = s at hword
  generalize hr : b % 2 ^ 63 = r at hword
  have hr63 : r < 2 ^ 63 := by omega
  have hs : (s.toNat == 1) = s := by cases s <;> rfl
  have hread : F.read b = if r < 2 ^ 52 then .number s r (-1074) else if r < 2047 * 2 ^ 52 then .number s (2 ^ 52 + r % 2 ^ 52) (-1074 + (r / 2 ^ 52 - 1 : Nat)) else if r = 2047 * 2 ^ 52 then .infinity s else .nan s (r - 2047 * 2 ^ 52) := by
    simp only [Format.read, F_sign, F_binade, F_inf, F_least, hr]
    rw [hword, word_div s r hr63, hs]
  by_cases h1 : r < 2 ^ 52
  · left; refine ⟨s, r, -1074, Or.inl ⟨h1, rfl⟩, ?_, ?_⟩
    · rw [hread, if_pos h1]
    · rw [hword]; unfold rung; simp
  · by_cases h2 : r < 2047 * 2 ^ 52
    · left; refine ⟨s, 2 ^ 52 + r % 2 ^ 52, -1074 + (r / 2 ^ 52 - 1 : Nat), Or.inr ⟨by omega, by omega, by omega, by omega⟩, ?_, ?_⟩
      · rw [hread, if_neg h1, if_pos h2]
      · have : rung (2 ^ 52 + r % 2 ^ 52) (-1074 + (r / 2 ^ 52 - 1 : Nat)) = r := by unfold rung; omega
        rw [this]; exact hword
    · by_cases h3 : r = 2047 * 2 ^ 52
      · right; left; refine ⟨s, ?_, ?_⟩
        · rw [hread, if_neg h1, if_neg h2, if_pos h3]
        · rw [hword, h3]
      · right; right; exact ⟨s, r - 2047 * 2 ^ 52, by rw [hread, if_neg h1, if_neg h2, if_neg h3], by omega⟩

theorem read_nan (b : Nat) (h : 2047 * 2 ^ 52 < b % 2 ^ 63) : ∃ s t, F.read b = .nan s t := by
  simp only [Format.read, F_sign, F_binade, F_inf, F_least]
  rw [if_neg (by omega), if_neg (by omega), if_neg (by omega)]
  exact ⟨_, _, rfl⟩

theorem order_nan_left (a b : Nat) (h : 2047 * 2 ^ 52 < a % 2 ^ 63) : F.order a b = none := by
  obtain ⟨s, t, e⟩ := read_nan a h
  simp only [Format.order, e, Datum.order]

theorem order_nan_right (a b : Nat) (h : 2047 * 2 ^ 52 < b % 2 ^ 63) : F.order a b = none := by
  obtain ⟨s, t, e⟩ := read_nan b h
  simp only [Format.order, e]
  cases F.read a <;> rfl

end Go.Proofs.YtkipioojdlkbcaaGreatDoor.Fl
