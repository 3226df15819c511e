/- An object's word, in numbers: what is joined, what is split off, and which objects fit. -/
import Derived.Test.YtbjlpmjalidfkaaChecked
import Derived.Laws.Bits128
import Derived.WalkKit
import Derived.Lib.Hide
namespace Go.Proofs.Ytbjlpmjalidfkaa.Ce
open Go

/-- Within 64 bits. -/
def InR (a : Int) : Prop := -9223372036854775808 ≤ a ∧ a ≤ 9223372036854775807

theorem and_low (n : Int) (k : Nat) (hk : k ≤ 62) : bits .and .i64 n ((2 ^ k - 1 : Nat) : Int) = n % ((2 ^ k : Nat) : Int) := by
  have hp : (2 : Nat) ^ k ∣ 2 ^ 64 := Nat.pow_dvd_pow 2 (by omega)
  have hlt : 2 ^ k ≤ 2 ^ 62 := Nat.pow_le_pow_right (by decide) hk
  have hpos : 0 < 2 ^ k := Nat.pow_pos (by decide)
  have hm : (BitVec.ofInt 64 ((2 ^ k - 1 : Nat) : Int)).toNat = 2 ^ k - 1 := by
    rw [BitVec.ofInt_natCast, BitVec.toNat_ofNat]
    exact Nat.mod_eq_of_lt (by omega)
  have key : (BitVec.ofInt 64 n &&& BitVec.ofInt 64 ((2 ^ k - 1 : Nat) : Int)).toNat = (n % ((2 ^ 64 : Nat) : Int)).toNat % 2 ^ k := by
    rw [BitVec.toNat_and, BitVec.toNat_ofInt, hm, Nat.and_two_pow_sub_one_eq_mod]
  show IntKind.i64.wrap ((BitVec.ofInt 64 n &&& BitVec.ofInt 64 ((2 ^ k - 1 : Nat) : Int)).toNat : Nat) = _
  rw [key, IntKind.wrap_i64]
  have h0 : 0 ≤ n % ((2 ^ 64 : Nat) : Int) := Int.emod_nonneg _ (by decide)
  have h1 : (((n % ((2 ^ 64 : Nat) : Int)).toNat % 2 ^ k : Nat) : Int) = n % ((2 ^ k : Nat) : Int) := by
    rw [Int.natCast_emod, Int.toNat_of_nonneg h0]
    exact Int.emod_emod_of_dvd n (Int.natCast_dvd_natCast.2 hp)
  rw [h1]
  have h2 : 0 ≤ n % ((2 ^ k : Nat) : Int) := Int.emod_nonneg _ (by omega)
  have h3 : n % ((2 ^ k : Nat) : Int) < ((2 ^ k : Nat) : Int) := Int.emod_lt_of_pos _ (by omega)
  omega

theorem and1 (n : Int) : bits .and .i64 n 1 = n % 2 := and_low n 1 (by decide)
theorem and15 (n : Int) : bits .and .i64 n 15 = n % 16 := and_low n 4 (by decide)
theorem and31 (n : Int) : bits .and .i64 n 31 = n % 32 := and_low n 5 (by decide)
theorem and24 (n : Int) : bits .and .i64 n 16777215 = n % 16777216 := and_low n 24 (by decide)

/-- What stands in the bits of each part. -/
def kb (w : Int) : Int := w % 16
def mb (w : Int) : Int := w / 16 % 2
def sb (w : Int) : Int := w / 32 % 32
def ab (w : Int) : Int := w / 1024 % 16777216

/-- The parts, each at its bit. -/
def jn (k s a m : Int) : Int := k + m * 16 + s * 32 + a * 1024

/-- Each part in its bounds. -/
def Fit (k s a m : Int) : Prop := (0 ≤ k ∧ k ≤ 10) ∧ (0 ≤ s ∧ s ≤ 31) ∧ (0 ≤ a ∧ a ≤ 16777215) ∧ (0 ≤ m ∧ m ≤ 1)

/-- The error that an object has. -/
def pe (k s a m : Int) : Int := if k < 0 ∨ 10 < k then 6 else if s < 0 ∨ 31 < s ∨ a < 0 ∨ 16777215 < a ∨ m < 0 ∨ 1 < m then 1 else 0
/-- The word that an object has. -/
def pw (k s a m : Int) : Int := if pe k s a m = 0 then jn k s a m else 0

theorem pe_fit (k s a m : Int) : pe k s a m = 0 ↔ Fit k s a m := by
  unfold pe Fit
  split
  · omega
  · split <;> omega
theorem pe_ok {k s a m : Int} (h : Fit k s a m) : pe k s a m = 0 := (pe_fit _ _ _ _).2 h
theorem pw_ok {k s a m : Int} (h : Fit k s a m) : pw k s a m = jn k s a m := by unfold pw; rw [if_pos (pe_ok h)]
theorem jn_range {k s a m : Int} (h : Fit k s a m) : 0 ≤ jn k s a m ∧ jn k s a m < 17179869184 := by unfold Fit at h; unfold jn; omega
theorem pe_kind {k s a m : Int} (h : k < 0 ∨ 10 < k) : pe k s a m = 6 := by unfold pe; rw [if_pos h]
theorem pw_kind {k s a m : Int} (h : k < 0 ∨ 10 < k) : pw k s a m = 0 := by unfold pw; rw [pe_kind h]; rfl
theorem pe_range {k s a m : Int} (h : ¬ (k < 0 ∨ 10 < k)) (h2 : ¬ Fit k s a m) : pe k s a m = 1 := by
  unfold pe; rw [if_neg h, if_pos]; unfold Fit at h2; omega
theorem pw_range {k s a m : Int} (h : ¬ (k < 0 ∨ 10 < k)) (h2 : ¬ Fit k s a m) : pw k s a m = 0 := by
  unfold pw; rw [pe_range h h2]; rfl

/-- What is split off what was joined, whatever was joined. -/
theorem parts_of {k s a m w : Int} (h : Fit k s a m) (hw : w = jn k s a m) : kb w = k ∧ sb w = s ∧ ab w = a ∧ mb w = m := by
  subst hw; unfold Fit at h; unfold kb sb ab mb jn; omega
theorem fit_of {k s a m : Int} (w : Int) (hk : ¬ (k < 0 ∨ 10 < k)) (h : kb w = k ∧ sb w = s ∧ ab w = a ∧ mb w = m) : Fit k s a m := by
  obtain ⟨h1, h2, h3, h4⟩ := h
  unfold kb sb ab mb at *; unfold Fit; omega

/-- The word of what is split off a word. -/
theorem jn_parts (w : Int) : jn (kb w) (sb w) (ab w) (mb w) = w % 17179869184 := by unfold kb sb ab mb jn; omega
/-- There is an object of this word. -/
def Word (w : Int) : Prop := 0 ≤ w ∧ w < 17179869184 ∧ w % 16 ≤ 10
theorem word_fit (w : Int) (h : Word w) : Fit (kb w) (sb w) (ab w) (mb w) := by unfold Word at h; unfold Fit kb sb ab mb; omega
theorem word_of (w : Int) (h1 : Fit (kb w) (sb w) (ab w) (mb w)) (h2 : jn (kb w) (sb w) (ab w) (mb w) = w) : Word w := by
  rw [jn_parts] at h2; unfold Fit kb at h1; unfold Word; omega
theorem jn_word (w : Int) (h : Word w) : jn (kb w) (sb w) (ab w) (mb w) = w := by rw [jn_parts]; unfold Word at h; omega
theorem word_jn {k s a m : Int} (h : Fit k s a m) : Word (jn k s a m) := by unfold Fit at h; unfold Word jn; omega

/-- Unlike objects have unlike words. -/
theorem jn_inj {k s a m k' s' a' m' : Int} (h : Fit k s a m) (h' : Fit k' s' a' m') (e : jn k s a m = jn k' s' a' m') : k = k' ∧ s = s' ∧ a = a' ∧ m = m' := by
  unfold Fit at h h'; unfold jn at e; omega
end Go.Proofs.Ytbjlpmjalidfkaa.Ce
