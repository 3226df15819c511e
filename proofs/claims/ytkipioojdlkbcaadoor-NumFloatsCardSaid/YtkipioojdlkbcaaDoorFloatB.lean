/- Plain facts on the model's floats of 64 bits, continued: orders, opposites, whole parts, ints made floats. No Go program is named here. -/
import Derived.Test.YtkipioojdlkbcaaDoorFloat
import Derived.Laws.FloatArith
namespace Go.Proofs.YtkipioojdlkbcaaDoor.Fl
open Ieee

theorem order_self (b : Nat) (hb : b < 2 ^ 64) (h : ¬ 2047 * 2 ^ 52 < b % 2 ^ 63) : F.order b b = some .eq := by
  unfold Format.order
  rcases read_cases b hb with ⟨s, m, p, _, e, _⟩ | ⟨s, e, _⟩ | ⟨s, t, e, hn⟩
  · rw [e]; simp [Datum.order, Std.ReflCmp.compare_self]
  · rw [e]; simp [Datum.order, Std.ReflCmp.compare_self]
  · exact absurd hn h

theorem order_swap (a b : Nat) : F.order b a = (F.order a b).map Ordering.swap := by
  unfold Format.order
  cases F.read a <;> cases F.read b <;> simp [Datum.order]
  · rename_i s m i t n j
    rw [Int.min_comm]
    exact Std.OrientedCmp.eq_swap
  · split <;> rfl
  · split <;> rfl
  · exact Std.OrientedCmp.eq_swap

theorem order_some (a b : Nat) (ha : a < 2 ^ 64) (hb : b < 2 ^ 64) (h1 : ¬ 2047 * 2 ^ 52 < a % 2 ^ 63) (h2 : ¬ 2047 * 2 ^ 52 < b % 2 ^ 63) : ∃ o, F.order a b = some o := by
  unfold Format.order
  rcases read_cases a ha with ⟨s, m, p, _, e, _⟩ | ⟨s, e, _⟩ | ⟨s, t, e, hn⟩
  · rcases read_cases b hb with ⟨s', m', p', _, e', _⟩ | ⟨s', e', _⟩ | ⟨s', t', e', hn'⟩
    · rw [e, e']; exact ⟨_, rfl⟩
    · rw [e, e']; exact ⟨_, rfl⟩
    · exact absurd hn' h2
  · rcases read_cases b hb with ⟨s', m', p', _, e', _⟩ | ⟨s', e', _⟩ | ⟨s', t', e', hn'⟩
    · rw [e, e']; exact ⟨_, rfl⟩
    · rw [e, e']; exact ⟨_, rfl⟩
    · exact absurd hn' h2
  · exact absurd hn h1

theorem add_comm (a b : Nat) : F.add a b = F.add b a := by
  unfold Format.add
  congr 1
  cases F.read a <;> cases F.read b <;> simp [Datum.sum]
  · rename_i s m i t n j
    rw [Int.min_comm i j, Int.add_comm, Bool.and_comm]
    simp
  · rename_i s t
    by_cases h : s = t
    · subst h; rfl
    · rw [if_neg h, if_neg (fun e => h e.symm)]

theorem mul_comm (a b : Nat) : F.mul a b = F.mul b a := by
  unfold Format.mul
  congr 1
  cases F.read a <;> cases F.read b <;> simp [Datum.product]
  · rename_i s m i t n j
    exact ⟨Bool.xor_comm _ _, Nat.mul_comm _ _, Int.add_comm _ _⟩
  · rw [Bool.xor_comm]

theorem nan_left (a b : Nat) (h : 2047 * 2 ^ 52 < a % 2 ^ 63) : F.add a b = none ∧ F.sub a b = none ∧ F.mul a b = none ∧ F.div a b = none := by
  obtain ⟨s, t, e⟩ := read_nan a h
  refine ⟨?_, ?_, ?_, ?_⟩
  · simp [Format.add, e, Datum.sum]
  · simp [Format.sub, e, Datum.sum]
  · simp [Format.mul, e, Datum.product]
  · simp [Format.div, e, Datum.quotient]

theorem nan_right (a b : Nat) (h : 2047 * 2 ^ 52 < b % 2 ^ 63) : F.add a b = none ∧ F.sub a b = none ∧ F.mul a b = none ∧ F.div a b = none := by
  obtain ⟨s, t, e⟩ := read_nan b h
  refine ⟨?_, ?_, ?_, ?_⟩
  · simp only [Format.add, e]; cases F.read a <;> rfl
  · simp only [Format.sub, e]; cases F.read a <;> rfl
  · simp only [Format.mul, e]; cases F.read a <;> rfl
  · simp only [Format.div, e]; cases F.read a <;> rfl

/-- A word that is written is never none. -/
theorem nearest_word (s : Bool) (m : Nat) (p : Int) : ∃ r, r ≤ 2047 * 2 ^ 52 ∧ F.nearest s m p = F.word s r := by
  simp only [Format.nearest, F_inf]
  by_cases h : m = 0
  · rw [if_pos h]; exact ⟨0, by omega, rfl⟩
  · rw [if_neg h]; exact ⟨_, Nat.min_le_right _ _, rfl⟩

theorem word_lt64 (s : Bool) (r : Nat) (h : r < 2 ^ 63) : F.word s r < 2 ^ 64 := by
  cases s
  · simp only [Format.word, Bool.false_eq_true, if_false]; omega
  · simp only [Format.word, if_true, F_sign]; omega

/-- What a datum that isn't none is written as. -/
theorem write_num (d : Datum) (h : d.isNaN = false) : F.write d < 2 ^ 64 ∧ ¬ 2047 * 2 ^ 52 < F.write d % 2 ^ 63 := by
  cases d with
  | number s m p =>
    obtain ⟨r, hr, e⟩ := nearest_word s m p
    show F.nearest s m p < _ ∧ ¬ _ < F.nearest s m p % _
    rw [e]
    exact ⟨word_lt64 s r (by omega), by rw [word_mod s r (by omega)]; omega⟩
  | infinity s =>
    show F.word s F.infRung < _ ∧ ¬ _ < F.word s F.infRung % _
    rw [F_inf]
    exact ⟨word_lt64 s _ (by decide), by rw [word_mod s _ (by decide)]; omega⟩
  | nan s t => cases h

theorem sum_notnan (x y d : Datum) (h : x.sum y = some d) : d.isNaN = false := by
  cases x <;> cases y <;> simp [Datum.sum] at h
  all_goals (try (subst h; rfl))
  all_goals (try (obtain ⟨_, h⟩ := h; subst h; rfl))

theorem product_notnan (x y d : Datum) (h : x.product y = some d) : d.isNaN = false := by
  cases x <;> cases y <;> simp [Datum.product] at h
  all_goals (try (subst h; rfl))
  all_goals (try (obtain ⟨_, h⟩ := h; subst h; rfl))

theorem quotient_notnan (k : Nat) (x y d : Datum) (h : x.quotient k y = some d) : d.isNaN = false := by
  cases x <;> cases y <;> simp [Datum.quotient] at h
  all_goals (try (subst h; rfl))
  split at h
  · split at h
    · cases h
    · cases h; rfl
  · cases h; rfl

theorem out_num {o : Option Datum} {r : Nat} (h : o.map F.write = some r) (hn : ∀ d, o = some d → d.isNaN = false) : r < 2 ^ 64 ∧ ¬ 2047 * 2 ^ 52 < r % 2 ^ 63 := by
  cases o with
  | none => cases h
  | some d => cases h; exact write_num d (hn d rfl)

theorem add_num {a b r : Nat} (h : F.add a b = some r) : r < 2 ^ 64 ∧ ¬ 2047 * 2 ^ 52 < r % 2 ^ 63 := out_num h fun d hd => sum_notnan _ _ d hd
theorem sub_num {a b r : Nat} (h : F.sub a b = some r) : r < 2 ^ 64 ∧ ¬ 2047 * 2 ^ 52 < r % 2 ^ 63 := out_num h fun d hd => sum_notnan _ _ d hd
theorem mul_num {a b r : Nat} (h : F.mul a b = some r) : r < 2 ^ 64 ∧ ¬ 2047 * 2 ^ 52 < r % 2 ^ 63 := out_num h fun d hd => product_notnan _ _ d hd
theorem div_num {a b r : Nat} (h : F.div a b = some r) : r < 2 ^ 64 ∧ ¬ 2047 * 2 ^ 52 < r % 2 ^ 63 := out_num h fun d hd => quotient_notnan _ _ _ d hd

/-- The product with minus one is the opposite. -/
theorem mul_minus (s : Bool) (r : Nat) (h : r ≤ 2047 * 2 ^ 52) : F.mul (F.word s r) 13830554455654793216 = some (F.word (!s) r) := by
  have e1 : F.read 13830554455654793216 = .number true (2 ^ 52) (-52) := by decide +kernel
  have hlt : F.word s r < 2 ^ 64 := word_lt64 s r (by omega)
  unfold Format.mul
  rw [e1]
  rcases read_cases (F.word s r) hlt with ⟨s', m, p, hc, e, hw⟩ | ⟨s', e, hw⟩ | ⟨s', t, e, hn⟩
  · rw [e]
    have hr' := rung_lt m p hc
    have es : s' = s := by
      have a := word_div s r (by omega)
      have b := word_div s' (rung m p) (by omega)
      rw [← hw, a] at b
      cases s <;> cases s' <;> first | rfl | cases b
    have er : rung m p = r := by
      have a := word_mod s r (by omega)
      have b := word_mod s' (rung m p) (by omega)
      rw [← hw, a] at b
      exact b.symm
    subst es
    simp only [Datum.product, Option.map_some, Bool.xor_true]
    have e2 : F.write (.number (!s') (m * 2 ^ 52) (p + -52)) = F.word (!s') r := by
      show F.nearest (!s') (m * 2 ^ 52) (p + -52) = _
      rw [show p + -52 = p - ((52 : Nat) : Int) by omega, nearest_shift', nearest_canon _ _ _ hc, er]
    rw [e2]
  · rw [e]
    have es : s' = s := by
      have a := word_div s r (by omega)
      have b := word_div s' (2047 * 2 ^ 52) (by decide)
      rw [← hw, a] at b
      cases s <;> cases s' <;> first | rfl | cases b
    have er : 2047 * 2 ^ 52 = r := by
      have a := word_mod s r (by omega)
      have b := word_mod s' (2047 * 2 ^ 52) (by decide)
      rw [← hw, a] at b
      exact b.symm
    subst es
    simp only [Datum.product]
    rw [if_neg (by decide)]
    simp only [Option.map_some, Bool.xor_true]
    rw [show F.write (.infinity (!s')) = F.word (!s') F.infRung from rfl, F_inf, er]
  · rw [word_mod s r (by omega)] at hn
    omega

/-- A word is its sign and its rung. -/
theorem word_parts (b : Nat) (hb : b < 2 ^ 64) : b = F.word (b / 2 ^ 63 % 2 == 1) (b % 2 ^ 63) := by
  have hq : b / 2 ^ 63 = 0 ∨ b / 2 ^ 63 = 1 := by omega
  rcases hq with hq | hq
  · rw [hq]; simp only [Format.word]; simp; omega
  · rw [hq]; simp only [Format.word, F_sign]; simp; omega

theorem minus_minus (b : Nat) (hb : b < 2 ^ 64) (h : ¬ 2047 * 2 ^ 52 < b % 2 ^ 63) :
    ∃ c, F.mul b 13830554455654793216 = some c ∧ c < 2 ^ 64 ∧ ¬ 2047 * 2 ^ 52 < c % 2 ^ 63 ∧ F.mul c 13830554455654793216 = some b := by
  have hw := word_parts b hb
  generalize (b / 2 ^ 63 % 2 == 1) = s at hw
  generalize b % 2 ^ 63 = r at hw h
  refine ⟨F.word (!s) r, by rw [hw]; exact mul_minus s r (by omega), word_lt64 _ _ (by omega), by rw [word_mod _ _ (by omega)]; exact h, ?_⟩
  rw [mul_minus (!s) r (by omega), Bool.not_not, hw]

/-- A float's whole part, without its sign. -/
def qz (m : Nat) (p : Int) : Nat := if 0 ≤ p then m * 2 ^ p.toNat else m / 2 ^ (-p).toNat
def sg (s : Bool) (n : Nat) : Int := if s then -(n : Int) else n

theorem cut_zero_way (s : Bool) (n d : Nat) : Toward.zero.cut s n d = n / 2 ^ d := by
  simp only [Toward.cut, Bool.toNat_false, Nat.add_zero, Nat.shiftLeft_eq, Nat.one_mul]
  by_cases h : d ≤ n.log2 + 2
  · rw [Nat.min_eq_left h]
  · rw [Nat.min_eq_right (by omega)]
    have a : n < 2 ^ (n.log2 + 1) := Nat.lt_log2_self
    have b : 2 ^ (n.log2 + 1) ≤ 2 ^ (n.log2 + 2) := Nat.pow_le_pow_right (by decide) (by omega)
    have c : 2 ^ (n.log2 + 1) ≤ 2 ^ d := Nat.pow_le_pow_right (by decide) (by omega)
    rw [Nat.div_eq_of_lt (by omega), Nat.div_eq_of_lt (by omega)]

theorem toInt_number (s : Bool) (m : Nat) (p : Int) : (Datum.number s m p).toInt .zero = some (sg s (qz m p)) := by
  simp only [Datum.toInt, Datum.integral, cut_zero_way, Ieee.signed, Nat.shiftLeft_eq, Nat.pow_zero, Nat.mul_one, sg, qz]
  by_cases h : 0 ≤ p
  · rw [if_pos h, show (-p).toNat = 0 by omega, Nat.pow_zero, Nat.div_one]
  · rw [if_neg h, show p.toNat = 0 by omega, Nat.pow_zero, Nat.mul_one]

/-- The two bounds, read. -/
theorem read_low : F.read 14114281232179134464 = .number true (2 ^ 52) 11 := by decide +kernel
theorem read_high : F.read 4890909195324358656 = .number false (2 ^ 52) 11 := by decide +kernel

/-- Within the ints of 64 bits: by the float's parts. -/
def Within (s : Bool) (m : Nat) (p : Int) : Prop := p ≤ 11 ∧ (m < 2 ^ (63 - p).toNat ∨ (s = true ∧ m = 2 ^ (63 - p).toNat))

theorem pow_split (a b : Nat) : 2 ^ (a + b) = 2 ^ a * 2 ^ b := Nat.pow_add 2 a b

theorem signed_sg (s : Bool) (m u : Nat) : Ieee.signed s m u = sg s (m * 2 ^ u) := by
  simp only [Ieee.signed, sg, Nat.shiftLeft_eq]

theorem order_low (b : Nat) (s : Bool) (m : Nat) (p : Int) (hc : Canon m p) (e : F.read b = .number s m p) :
    (F.order b 14114281232179134464 == some .gt || F.order b 14114281232179134464 == some .eq) = true ↔ (p ≤ 11 ∧ (s = false ∨ m ≤ 2 ^ (63 - p).toNat)) ∨ (11 < p ∧ s = false) := by
  have key : (F.order b 14114281232179134464 == some .gt || F.order b 14114281232179134464 == some .eq) = true ↔ -((2 ^ 52 * 2 ^ (11 - min p 11).toNat : Nat) : Int) ≤ sg s (m * 2 ^ (p - min p 11).toNat) := by
    unfold Format.order
    rw [e, read_low]
    simp only [Datum.order, signed_sg]
    rw [show sg true (2 ^ 52 * 2 ^ (11 - min p 11).toNat) = -((2 ^ 52 * 2 ^ (11 - min p 11).toNat : Nat) : Int) from rfl]
    generalize sg s (m * 2 ^ (p - min p 11).toNat) = x
    generalize -((2 ^ 52 * 2 ^ (11 - min p 11).toNat : Nat) : Int) = y
    rw [Bool.or_eq_true, beq_iff_eq, beq_iff_eq, Option.some.injEq, Option.some.injEq, Int.compare_eq_gt, Int.compare_eq_eq]
    omega
  rw [key]
  by_cases h : p ≤ 11
  · rw [Int.min_eq_left h, show (p - p).toNat = 0 by omega, Nat.pow_zero, Nat.mul_one, ← pow_split, show 52 + (11 - p).toNat = (63 - p).toNat by omega]
    have hp := Nat.two_pow_pos (63 - p).toNat
    generalize 2 ^ (63 - p).toNat = q at hp ⊢
    cases s <;> simp [sg, h] <;> omega
  · rw [Int.min_eq_right (by omega), show ((11 : Int) - 11).toNat = 0 by omega, Nat.pow_zero, Nat.mul_one]
    have hm : 2 ^ 52 ≤ m := by rcases hc with ⟨_, q⟩ | ⟨q, _⟩ <;> omega
    have hk : 2 ≤ 2 ^ (p - 11).toNat := by
      have : 2 ^ 1 ≤ 2 ^ (p - 11).toNat := Nat.pow_le_pow_right (by decide) (by omega)
      simpa using this
    have hmk : 2 ^ 52 * 2 ≤ m * 2 ^ (p - 11).toNat := Nat.mul_le_mul hm hk
    generalize m * 2 ^ (p - 11).toNat = x at hmk ⊢
    cases s <;> simp [sg, h] <;> omega

theorem order_high (b : Nat) (s : Bool) (m : Nat) (p : Int) (hc : Canon m p) (e : F.read b = .number s m p) :
    (F.order b 4890909195324358656 == some .lt) = true ↔ (p ≤ 11 ∧ (s = true ∨ m < 2 ^ (63 - p).toNat)) ∨ (11 < p ∧ s = true) := by
  have key : (F.order b 4890909195324358656 == some .lt) = true ↔ sg s (m * 2 ^ (p - min p 11).toNat) < ((2 ^ 52 * 2 ^ (11 - min p 11).toNat : Nat) : Int) := by
    unfold Format.order
    rw [e, read_high]
    simp only [Datum.order, signed_sg]
    rw [show sg false (2 ^ 52 * 2 ^ (11 - min p 11).toNat) = ((2 ^ 52 * 2 ^ (11 - min p 11).toNat : Nat) : Int) from rfl]
    rw [beq_iff_eq, Option.some.injEq, Int.compare_eq_lt]
  rw [key]
  by_cases h : p ≤ 11
  · rw [Int.min_eq_left h, show (p - p).toNat = 0 by omega, Nat.pow_zero, Nat.mul_one, ← pow_split, show 52 + (11 - p).toNat = (63 - p).toNat by omega]
    have hp := Nat.two_pow_pos (63 - p).toNat
    generalize 2 ^ (63 - p).toNat = q at hp ⊢
    cases s <;> simp [sg, h] <;> omega
  · rw [Int.min_eq_right (by omega), show ((11 : Int) - 11).toNat = 0 by omega, Nat.pow_zero, Nat.mul_one]
    have hm : 2 ^ 52 ≤ m := by rcases hc with ⟨_, q⟩ | ⟨q, _⟩ <;> omega
    have hk : 2 ≤ 2 ^ (p - 11).toNat := by
      have : 2 ^ 1 ≤ 2 ^ (p - 11).toNat := Nat.pow_le_pow_right (by decide) (by omega)
      simpa using this
    have hmk : 2 ^ 52 * 2 ≤ m * 2 ^ (p - 11).toNat := Nat.mul_le_mul hm hk
    generalize m * 2 ^ (p - 11).toNat = x at hmk ⊢
    cases s <;> simp [sg, h] <;> omega

/-- What the code asks ahead of a whole part. -/
def within (n : Nat) : Bool := (F.order n 14114281232179134464 == some .gt || F.order n 14114281232179134464 == some .eq) && (F.order n 4890909195324358656 == some .lt)

theorem within_number (b : Nat) (s : Bool) (m : Nat) (p : Int) (hc : Canon m p) (e : F.read b = .number s m p) : within b = true ↔ Within s m p := by
  unfold within Within
  rw [Bool.and_eq_true, order_low b s m p hc e, order_high b s m p hc e]
  have hp := Nat.two_pow_pos (63 - p).toNat
  generalize 2 ^ (63 - p).toNat = q at hp ⊢
  cases s <;> simp <;> omega

theorem within_inf (b : Nat) (s : Bool) (e : F.read b = .infinity s) : within b = false := by
  unfold within Format.order
  rw [e, read_low, read_high]
  cases s <;> rfl

theorem within_nan (b : Nat) (h : 2047 * 2 ^ 52 < b % 2 ^ 63) : within b = false := by
  unfold within
  rw [order_nan_left b _ h, order_nan_left b _ h]; rfl

/-- Within, the whole part is an int of 64 bits. -/
theorem qz_range (s : Bool) (m : Nat) (p : Int) (hc : Canon m p) (h : Within s m p) : -9223372036854775808 ≤ sg s (qz m p) ∧ sg s (qz m p) ≤ 9223372036854775807 := by
  obtain ⟨h11, h⟩ := h
  unfold qz
  by_cases hp : 0 ≤ p
  · rw [if_pos hp]
    have e : 2 ^ (63 - p).toNat * 2 ^ p.toNat = 2 ^ 63 := by rw [← Nat.pow_add]; congr 1; omega
    have hpos := Nat.two_pow_pos p.toNat
    rcases h with h | ⟨hs, h⟩
    · have : m * 2 ^ p.toNat < 2 ^ 63 := by rw [← e]; exact Nat.mul_lt_mul_of_pos_right h hpos
      generalize m * 2 ^ p.toNat = x at this ⊢
      cases s <;> simp [sg] <;> omega
    · subst hs; rw [h, e]; simp [sg]
  · rw [if_neg hp]
    have : m / 2 ^ (-p).toNat ≤ m := Nat.div_le_self _ _
    have hm : m < 2 ^ 53 := by rcases hc with ⟨q, _⟩ | ⟨_, q, _⟩ <;> omega
    generalize m / 2 ^ (-p).toNat = x at this ⊢
    cases s <;> simp [sg] <;> omega

theorem toInt_within (b : Nat) (hb : b < 2 ^ 64) (h : within b = true) : ∃ s m p, Canon m p ∧ F.read b = .number s m p ∧ b = F.word s (rung m p) ∧ Within s m p ∧ floatToIntVal .f64 b .i64 = some (sg s (qz m p)) := by
  rcases read_cases b hb with ⟨s, m, p, hc, e, hw⟩ | ⟨s, e, _⟩ | ⟨s, t, e, hn⟩
  · have hW := (within_number b s m p hc e).1 h
    refine ⟨s, m, p, hc, e, hw, hW, ?_⟩
    have hr := qz_range s m p hc hW
    unfold floatToIntVal
    rw [show FloatKind.f64.decode b = .number s m p from e, toInt_number]
    simp only
    rw [if_pos ⟨hr.1, hr.2⟩]
  · rw [within_inf b s e] at h; cases h
  · rw [within_nan b hn] at h; cases h

/-- An int's float. -/
theorem ofInt_eq (n : Int) : floatOfInt .f64 n = F.nearest (decide (n < 0)) n.natAbs 0 := rfl

/-- An int of at most 53 bits, made a float, is there with all its digits. -/
theorem read_ofInt (n : Int) (h : n.natAbs < 2 ^ 53) : ∃ k : Nat, k ≤ 1074 ∧ Canon (n.natAbs * 2 ^ k) (-(k : Int)) ∧ floatOfInt .f64 n = F.word (decide (n < 0)) (rung (n.natAbs * 2 ^ k) (-(k : Int))) ∧ F.read (floatOfInt .f64 n) = .number (decide (n < 0)) (n.natAbs * 2 ^ k) (-(k : Int)) := by
  by_cases h0 : n = 0
  · subst h0
    have hz : ∀ N : Nat, (0 : Int).natAbs * N = 0 := fun N => Nat.zero_mul N
    have hc : Canon ((0 : Int).natAbs * 2 ^ 1074) (-((1074 : Nat) : Int)) := by rw [hz]; exact Or.inl ⟨by decide, rfl⟩
    have e : floatOfInt .f64 0 = F.word (decide ((0 : Int) < 0)) (rung ((0 : Int).natAbs * 2 ^ 1074) (-((1074 : Nat) : Int))) := by
      rw [hz]; decide +kernel
    exact ⟨1074, Nat.le_refl _, hc, e, by rw [e]; exact read_word _ _ _ hc⟩
  · have hn : n.natAbs ≠ 0 := by omega
    have hl : n.natAbs.log2 < 53 := (Nat.log2_lt hn).2 h
    have a := Nat.log2_self_le hn
    have b := Nat.lt_log2_self (n := n.natAbs)
    have hc : Canon (n.natAbs * 2 ^ (52 - n.natAbs.log2)) (-((52 - n.natAbs.log2 : Nat) : Int)) := by
      right
      refine ⟨?_, ?_, by omega, by omega⟩
      · have := Nat.mul_le_mul_right (2 ^ (52 - n.natAbs.log2)) a
        rw [← Nat.pow_add, show n.natAbs.log2 + (52 - n.natAbs.log2) = 52 by omega] at this
        exact this
      · have := Nat.mul_lt_mul_of_pos_right b (Nat.two_pow_pos (52 - n.natAbs.log2))
        rw [← Nat.pow_add, show n.natAbs.log2 + 1 + (52 - n.natAbs.log2) = 53 by omega] at this
        exact this
    have e : floatOfInt .f64 n = F.word (decide (n < 0)) (rung (n.natAbs * 2 ^ (52 - n.natAbs.log2)) (-((52 - n.natAbs.log2 : Nat) : Int))) := by
      rw [ofInt_eq, ← nearest_canon _ _ _ hc]
      have := nearest_shift' (decide (n < 0)) n.natAbs (52 - n.natAbs.log2) 0
      rw [Int.zero_sub] at this
      exact this.symm
    exact ⟨_, by omega, hc, e, by rw [e]; exact read_word _ _ _ hc⟩

theorem sg_natAbs (n : Int) : sg (decide (n < 0)) n.natAbs = n := by
  unfold sg
  by_cases h : n < 0
  · simp [h]; omega
  · simp [h]; omega

/-- Such an int is there and back. -/
theorem back_small (n : Int) (h : n.natAbs < 2 ^ 53) : within (floatOfInt .f64 n) = true ∧ floatToIntVal .f64 (floatOfInt .f64 n) .i64 = some n := by
  obtain ⟨k, hk, hc, e, hr⟩ := read_ofInt n h
  have hq : qz (n.natAbs * 2 ^ k) (-(k : Int)) = n.natAbs := by
    unfold qz
    by_cases h0 : (0 : Int) ≤ -(k : Int)
    · have : k = 0 := by omega
      subst this; simp
    · rw [if_neg h0, show (- -(k : Int)).toNat = k by omega, Nat.mul_div_cancel _ (Nat.two_pow_pos k)]
  have hW : Within (decide (n < 0)) (n.natAbs * 2 ^ k) (-(k : Int)) := by
    refine ⟨by omega, Or.inl ?_⟩
    rw [show (63 - -(k : Int)).toNat = 63 + k by omega, Nat.pow_add]
    exact Nat.mul_lt_mul_of_pos_right (Nat.lt_of_lt_of_le h (by decide)) (Nat.two_pow_pos k)
  refine ⟨(within_number _ _ _ _ hc hr).2 hW, ?_⟩
  unfold floatToIntVal
  rw [show FloatKind.f64.decode (floatOfInt .f64 n) = _ from hr, toInt_number, hq, sg_natAbs]
  simp only
  have : -9223372036854775808 ≤ n ∧ n ≤ 9223372036854775807 := by omega
  rw [if_pos ⟨this.1, this.2⟩]

/-- A float that is a whole number is its int's float. -/
theorem ofInt_whole (s : Bool) (m : Nat) (p : Int) (hc : Canon m p) (hp : 0 ≤ p) (hm : m ≠ 0) : floatOfInt .f64 (sg s (qz m p)) = F.word s (rung m p) := by
  have hpos : 0 < m * 2 ^ p.toNat := Nat.mul_pos (Nat.pos_of_ne_zero hm) (Nat.two_pow_pos _)
  have hq : qz m p = m * 2 ^ p.toNat := by unfold qz; rw [if_pos hp]
  have hs : decide (sg s (qz m p) < 0) = s := by
    rw [hq]; generalize m * 2 ^ p.toNat = x at hpos ⊢
    cases s <;> simp [sg] <;> omega
  have ha : (sg s (qz m p)).natAbs = m * 2 ^ p.toNat := by
    rw [hq]; generalize m * 2 ^ p.toNat = x
    cases s <;> simp [sg]
  rw [ofInt_eq, hs, ha, ← nearest_canon s m p hc]
  have := nearest_shift' s m p.toNat p
  rw [show p - (p.toNat : Int) = 0 by omega] at this
  exact this

/-- What is within, cut, made a float, and cut again, is what was cut. -/
theorem cut_again (b : Nat) (hb : b < 2 ^ 64) (h : within b = true) (k : Int) (hk : floatToIntVal .f64 b .i64 = some k) :
    within (floatOfInt .f64 k) = true ∧ floatToIntVal .f64 (floatOfInt .f64 k) .i64 = some k := by
  obtain ⟨s, m, p, hc, e, hw, hW, hv⟩ := toInt_within b hb h
  have ek : k = sg s (qz m p) := by rw [hv] at hk; exact (Option.some.inj hk).symm
  by_cases hs : k.natAbs < 2 ^ 53
  · exact back_small k hs
  · have hp : 0 ≤ p := by
      apply Classical.byContradiction
      intro hn
      apply hs
      have hm : m < 2 ^ 53 := by rcases hc with ⟨q, _⟩ | ⟨_, q, _⟩ <;> omega
      have : m / 2 ^ (-p).toNat ≤ m := Nat.div_le_self _ _
      have hq : qz m p = m / 2 ^ (-p).toNat := by unfold qz; rw [if_neg hn]
      rw [ek, hq]
      generalize m / 2 ^ (-p).toNat = x at this ⊢
      cases s <;> simp [sg] <;> omega
    have hm : m ≠ 0 := by
      intro hm
      apply hs
      have hq : qz m p = 0 := by unfold qz; rw [if_pos hp, hm, Nat.zero_mul]
      rw [ek, hq]
      cases s <;> simp [sg]
    rw [ek, ofInt_whole s m p hc hp hm, ← hw]
    exact ⟨h, by rw [hv]⟩

theorem nearest_big (s : Bool) (N d : Nat) (hd1 : 1 ≤ d) (hd2 : d ≤ 10) (h1 : 2 ^ (52 + d) ≤ N) (h2 : N < 2 ^ (53 + d)) :
    ∃ kept, (kept = N / 2 ^ d ∨ (kept = N / 2 ^ d + 1 ∧ 2 ^ d ≤ 2 * (N % 2 ^ d))) ∧ F.nearest s N 0 = F.word s (rung kept (d : Int)) := by
  have hN : N ≠ 0 := by have := Nat.two_pow_pos (52 + d); omega
  have hl : N.log2 = 52 + d := log2_of N (52 + d) h1 (by rw [show 52 + d + 1 = 53 + d by omega]; exact h2)
  have hlow : N / 2 ^ d < 2 ^ 53 := by
    rw [Nat.div_lt_iff_lt_mul (Nat.two_pow_pos d), ← Nat.pow_add]; exact h2
  have hkept : Toward.even.cut s N d = N / 2 ^ d ∨ (Toward.even.cut s N d = N / 2 ^ d + 1 ∧ 2 ^ d ≤ 2 * (N % 2 ^ d)) := by
    simp only [Toward.cut]
    rw [Nat.shiftLeft_eq, Nat.one_mul, hl, Nat.min_eq_left (by omega)]
    generalize hm : (decide (2 ^ d < 2 * (N % 2 ^ d)) || 2 ^ d == 2 * (N % 2 ^ d) && N / 2 ^ d % 2 == 1) = more
    cases more
    · left; simp
    · right
      refine ⟨by simp, ?_⟩
      rw [Bool.or_eq_true, decide_eq_true_eq, Bool.and_eq_true, beq_iff_eq] at hm
      omega
  refine ⟨Toward.even.cut s N d, hkept, ?_⟩
  simp only [Format.nearest, if_neg hN, F_fraction, F_least, F_binade, F_inf, hl]
  have e1 : max ((0 : Int) + ((52 + d : Nat) : Int) - ((52 : Nat) : Int)) (-1074) = (d : Int) := by omega
  rw [e1, show ((0 : Int) - (d : Int)).toNat = 0 by omega, show ((d : Int) - 0).toNat = d by omega, Nat.shiftLeft_eq, Nat.pow_zero, Nat.mul_one]
  have hk2 : Toward.even.cut s N d ≤ 2 ^ 53 := by rcases hkept with e | ⟨e, _⟩ <;> omega
  generalize Toward.even.cut s N d = kept at hk2 ⊢
  have e2 : min (((d : Int) - -1074).toNat * 2 ^ 52 + kept) (2047 * 2 ^ 52) = rung kept (d : Int) := by
    unfold rung
    rw [show ((d : Int) - -1074).toNat = d + 1074 by omega, show ((d : Int) + 1074).toNat = d + 1074 by omega]
    omega
  rw [e2]

/-- An int of more bits, made a float, is within, unless it is one of the greatest. -/
theorem ofInt_big (n : Int) (h1 : -9223372036854775808 ≤ n) (h2 : 2 ^ 53 ≤ n.natAbs) (h3 : n < 9223372036854775296) : within (floatOfInt .f64 n) = true := by
  by_cases hmin : n = -9223372036854775808
  · subst hmin; decide +kernel
  · have hd : ∃ d, 1 ≤ d ∧ d ≤ 10 ∧ 2 ^ (52 + d) ≤ n.natAbs ∧ n.natAbs < 2 ^ (53 + d) := by
      have hN : n.natAbs ≠ 0 := by omega
      have hlt : n.natAbs < 2 ^ 63 := by omega
      have a := Nat.log2_self_le hN
      have b := Nat.lt_log2_self (n := n.natAbs)
      have c : n.natAbs.log2 < 63 := (Nat.log2_lt hN).2 hlt
      have d : 53 ≤ n.natAbs.log2 := (Nat.le_log2 hN).2 h2
      refine ⟨n.natAbs.log2 - 52, by omega, by omega, ?_, ?_⟩
      · rw [show 52 + (n.natAbs.log2 - 52) = n.natAbs.log2 by omega]; exact a
      · rw [show 53 + (n.natAbs.log2 - 52) = n.natAbs.log2 + 1 by omega]; exact b
    obtain ⟨d, hd1, hd2, ha, hb⟩ := hd
    obtain ⟨kept, hk, e⟩ := nearest_big (decide (n < 0)) n.natAbs d hd1 hd2 ha hb
    have hlow : n.natAbs / 2 ^ d < 2 ^ 53 := by
      rw [Nat.div_lt_iff_lt_mul (Nat.two_pow_pos d), ← Nat.pow_add]; exact hb
    have hlow2 : 2 ^ 52 ≤ n.natAbs / 2 ^ d := by
      rw [Nat.le_div_iff_mul_le (Nat.two_pow_pos d), ← Nat.pow_add]; exact ha
    rw [ofInt_eq, e]
    by_cases hkk : kept < 2 ^ 53
    · have hc : Canon kept (d : Int) := Or.inr ⟨by rcases hk with hk | ⟨hk, _⟩ <;> omega, hkk, by omega, by omega⟩
      refine (within_number _ _ _ _ hc (read_word _ _ _ hc)).2 ⟨by omega, Or.inl ?_⟩
      have : 2 ^ 53 ≤ 2 ^ (63 - (d : Int)).toNat := Nat.pow_le_pow_right (by decide) (by omega)
      omega
    · have hk53 : kept = 2 ^ 53 := by rcases hk with hk | ⟨hk, _⟩ <;> omega
      have hr : rung kept (d : Int) = rung (2 ^ 52) ((d + 1 : Nat) : Int) := by
        unfold rung; rw [hk53, show ((d : Int) + 1074).toNat = d + 1074 by omega, show (((d + 1 : Nat) : Int) + 1074).toNat = d + 1 + 1074 by omega]; omega
      have hc : Canon (2 ^ 52) ((d + 1 : Nat) : Int) := Or.inr ⟨Nat.le_refl _, by decide, by omega, by omega⟩
      rw [hr]
      refine (within_number _ _ _ _ hc (read_word _ _ _ hc)).2 ⟨by omega, ?_⟩
      by_cases hd10 : d = 10
      · right
        subst hd10
        refine ⟨?_, by decide⟩
        have hup : kept = n.natAbs / 2 ^ 10 + 1 ∧ 2 ^ 10 ≤ 2 * (n.natAbs % 2 ^ 10) := by
          rcases hk with hk | hk
          · omega
          · exact hk
        simp only [decide_eq_true_eq]
        omega
      · left
        have : 2 ^ 53 ≤ 2 ^ (63 - ((d + 1 : Nat) : Int)).toNat := Nat.pow_le_pow_right (by decide) (by omega)
        omega

/-- Sums of ints of at most 53 bits are those of their floats; so are differences. -/
theorem add_ofInt (a b : Int) (ha : a.natAbs < 2 ^ 53) (hb : b.natAbs < 2 ^ 53) : F.add (floatOfInt .f64 a) (floatOfInt .f64 b) = some (floatOfInt .f64 (a + b)) := by
  obtain ⟨k, hk, hc, e, hr⟩ := read_ofInt a ha
  obtain ⟨l, hl, hc', e', hr'⟩ := read_ofInt b hb
  unfold Format.add
  rw [hr, hr']
  simp only [Datum.sum, signed_sg, Option.map_some]
  have hm : min (-(k : Int)) (-(l : Int)) = -((max k l : Nat) : Int) := by omega
  rw [hm, show (-(k : Int) - -((max k l : Nat) : Int)).toNat = max k l - k by omega, show (-(l : Int) - -((max k l : Nat) : Int)).toNat = max k l - l by omega]
  have scale : ∀ (n : Int) (i : Nat), i ≤ max k l → sg (decide (n < 0)) (n.natAbs * 2 ^ i * 2 ^ (max k l - i)) = n * ((2 ^ max k l : Nat) : Int) := fun n i hi => by
    rw [Nat.mul_assoc, ← Nat.pow_add, show i + (max k l - i) = max k l by omega]
    conv => rhs; rw [← sg_natAbs n]
    cases decide (n < 0) <;> simp [sg, Int.natCast_mul, Int.neg_mul]
  rw [scale a k (by omega), scale b l (by omega), ← Int.add_mul]
  have hp : (0 : Int) < ((2 ^ max k l : Nat) : Int) := by have := Nat.two_pow_pos (max k l); omega
  have hs : (if (a + b) * ((2 ^ max k l : Nat) : Int) = 0 then decide (a < 0) && decide (b < 0) else decide ((a + b) * ((2 ^ max k l : Nat) : Int) < 0)) = decide (a + b < 0) := by
    generalize ((2 ^ max k l : Nat) : Int) = P at hp ⊢
    by_cases h0 : a + b = 0
    · rw [h0, Int.zero_mul, if_pos rfl]
      by_cases hn : a < 0
      · simp [hn]; omega
      · simp [hn]
    · have hne : (a + b) * P ≠ 0 := Int.mul_ne_zero h0 (by omega)
      rw [if_neg hne]
      by_cases hn : a + b < 0
      · have := Int.mul_neg_of_neg_of_pos hn hp; simp [hn, this]
      · have : 0 ≤ (a + b) * P := Int.mul_nonneg (by omega) (by omega)
        simp [hn]; omega
  rw [hs, Int.natAbs_mul, Int.natAbs_natCast]
  have := nearest_shift' (decide (a + b < 0)) (a + b).natAbs (max k l) 0
  rw [Int.zero_sub] at this
  rw [ofInt_eq, ← this]
  rfl

theorem opposite_ofInt (b : Int) (hb : b.natAbs < 2 ^ 53) : ∃ l : Nat, l ≤ 1074 ∧ (F.read (floatOfInt .f64 b)).opposite = .number (!decide (b < 0)) (b.natAbs * 2 ^ l) (-(l : Int)) := by
  obtain ⟨l, hl, _, _, hr⟩ := read_ofInt b hb
  exact ⟨l, hl, by rw [hr]; rfl⟩

theorem sub_ofInt (a b : Int) (ha : a.natAbs < 2 ^ 53) (hb : b.natAbs < 2 ^ 53) : F.sub (floatOfInt .f64 a) (floatOfInt .f64 b) = some (floatOfInt .f64 (a - b)) := by
  obtain ⟨k, hk, hc, e, hr⟩ := read_ofInt a ha
  obtain ⟨l, hl, hr'⟩ := opposite_ofInt b hb
  unfold Format.sub
  rw [hr, hr']
  simp only [Datum.sum, signed_sg, Option.map_some]
  have hm : min (-(k : Int)) (-(l : Int)) = -((max k l : Nat) : Int) := by omega
  rw [hm, show (-(k : Int) - -((max k l : Nat) : Int)).toNat = max k l - k by omega, show (-(l : Int) - -((max k l : Nat) : Int)).toNat = max k l - l by omega]
  have scale : ∀ (n : Int) (i : Nat), i ≤ max k l → sg (decide (n < 0)) (n.natAbs * 2 ^ i * 2 ^ (max k l - i)) = n * ((2 ^ max k l : Nat) : Int) := fun n i hi => by
    rw [Nat.mul_assoc, ← Nat.pow_add, show i + (max k l - i) = max k l by omega]
    conv => rhs; rw [← sg_natAbs n]
    cases decide (n < 0) <;> simp [sg, Int.natCast_mul, Int.neg_mul]
  have neg : ∀ (s : Bool) (x : Nat), sg (!s) x = - sg s x := fun s x => by cases s <;> simp [sg]
  rw [scale a k (by omega), neg, scale b l (by omega), ← Int.neg_mul, ← Int.add_mul]
  have hp : (0 : Int) < ((2 ^ max k l : Nat) : Int) := by have := Nat.two_pow_pos (max k l); omega
  have hs : (if (a + -b) * ((2 ^ max k l : Nat) : Int) = 0 then decide (a < 0) && !decide (b < 0) else decide ((a + -b) * ((2 ^ max k l : Nat) : Int) < 0)) = decide (a - b < 0) := by
    generalize ((2 ^ max k l : Nat) : Int) = P at hp ⊢
    by_cases h0 : a + -b = 0
    · rw [h0, Int.zero_mul, if_pos rfl]
      by_cases hn : a < 0
      · have : b < 0 := by omega
        simp [hn, this]; omega
      · simp [hn]; omega
    · have hne : (a + -b) * P ≠ 0 := Int.mul_ne_zero h0 (by omega)
      rw [if_neg hne]
      by_cases hn : a - b < 0
      · have := Int.mul_neg_of_neg_of_pos (show a + -b < 0 by omega) hp; simp [hn, this]
      · have : 0 ≤ (a + -b) * P := Int.mul_nonneg (by omega) (by omega)
        simp [hn]; omega
  rw [hs, Int.natAbs_mul, Int.natAbs_natCast, show a + -b = a - b by omega]
  have := nearest_shift' (decide (a - b < 0)) (a - b).natAbs (max k l) 0
  rw [Int.zero_sub] at this
  rw [ofInt_eq, ← this]
  rfl

/-- The product of two such ints' floats is their product's, but for nought's sign; its whole part is the product. -/
theorem mul_ofInt (a b : Int) (ha : a.natAbs < 2 ^ 53) (hb : b.natAbs < 2 ^ 53) (hab : (a * b).natAbs < 2 ^ 53) :
    ∃ r, F.mul (floatOfInt .f64 a) (floatOfInt .f64 b) = some r ∧ within r = true ∧ floatToIntVal .f64 r .i64 = some (a * b) := by
  obtain ⟨k, hk, hc, e, hr⟩ := read_ofInt a ha
  obtain ⟨l, hl, hc', e', hr'⟩ := read_ofInt b hb
  have hmul : F.mul (floatOfInt .f64 a) (floatOfInt .f64 b) = some (F.nearest (decide (a < 0) ^^ decide (b < 0)) (a * b).natAbs 0) := by
    unfold Format.mul
    rw [hr, hr']
    simp only [Datum.product, Option.map_some]
    have := nearest_shift' (decide (a < 0) ^^ decide (b < 0)) (a * b).natAbs (k + l) 0
    rw [← this]
    have em : a.natAbs * 2 ^ k * (b.natAbs * 2 ^ l) = (a * b).natAbs * 2 ^ (k + l) := by
      rw [Int.natAbs_mul, Nat.pow_add, Nat.mul_mul_mul_comm]
    rw [em, show -(k : Int) + -(l : Int) = 0 - ((k + l : Nat) : Int) by omega]
    rfl
  refine ⟨_, hmul, ?_⟩
  by_cases h0 : a * b = 0
  · rw [h0]
    have e0 : ∀ s, F.nearest s (0 : Int).natAbs 0 = F.word s (rung 0 (-1074)) := fun s => by simp [Format.nearest, rung]
    rw [e0]
    have hc0 : Canon 0 (-1074) := Or.inl ⟨by decide, rfl⟩
    have hrd := read_word (decide (a < 0) ^^ decide (b < 0)) 0 (-1074) hc0
    refine ⟨(within_number _ _ _ _ hc0 hrd).2 ⟨by omega, Or.inl (Nat.two_pow_pos _)⟩, ?_⟩
    unfold floatToIntVal
    rw [show FloatKind.f64.decode (F.word (decide (a < 0) ^^ decide (b < 0)) (rung 0 (-1074))) = _ from hrd, toInt_number]
    have hq : qz 0 (-1074) = 0 := by unfold qz; rw [if_neg (by decide), Nat.zero_div]
    rw [hq]
    have hs0 : sg (decide (a < 0) ^^ decide (b < 0)) 0 = 0 := by cases (decide (a < 0) ^^ decide (b < 0)) <;> rfl
    rw [hs0]
    rfl
  · have hs : (decide (a < 0) ^^ decide (b < 0)) = decide (a * b < 0) := by
      have ha0 : a ≠ 0 := fun h => h0 (by rw [h, Int.zero_mul])
      have hb0 : b ≠ 0 := fun h => h0 (by rw [h, Int.mul_zero])
      by_cases h1 : a < 0 <;> by_cases h2 : b < 0
      · have : 0 < a * b := Int.mul_pos_of_neg_of_neg h1 h2
        simp [h1, h2]; omega
      · have : a * b < 0 := Int.mul_neg_of_neg_of_pos h1 (by omega)
        simp [h1, h2, this]
      · have : a * b < 0 := Int.mul_neg_of_pos_of_neg (by omega) h2
        simp [h1, h2, this]
      · have : 0 < a * b := Int.mul_pos (by omega) (by omega)
        simp [h1, h2]; omega
    rw [hs]
    exact back_small (a * b) hab

end Go.Proofs.YtkipioojdlkbcaaDoor.Fl
