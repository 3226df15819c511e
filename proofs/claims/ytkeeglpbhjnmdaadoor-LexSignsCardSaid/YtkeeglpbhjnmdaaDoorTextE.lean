/- What the document's Digits answers. -/
import Derived.Test.YtkeeglpbhjnmdaaDoorTextD
namespace Go.Proofs.YtkeeglpbhjnmdaaDoor
open Go.RowKit

/-- The letters of digits. -/
def LET : ByteArray := ⟨#[48, 49, 50, 51, 52, 53, 54, 55, 56, 57, 97, 98, 99, 100, 101, 102]⟩

theorem let_at (d : Nat) (hd : d < 16) (w : World) : (Instr.slice 9 (.string LET) (some (.int .u64 (d : Int))) (some (.int .u64 ((d : Int) + 1))) none).run Tryd.prog w = .ok (.string ⟨#[hdB d]⟩) w := by
  have h : d = 0 ∨ d = 1 ∨ d = 2 ∨ d = 3 ∨ d = 4 ∨ d = 5 ∨ d = 6 ∨ d = 7 ∨ d = 8 ∨ d = 9 ∨ d = 10 ∨ d = 11 ∨ d = 12 ∨ d = 13 ∨ d = 14 ∨ d = 15 := by omega
  rcases h with h | h | h | h | h | h | h | h | h | h | h | h | h | h | h | h <;> subst h <;>
    (rw [run_slice_string w 9 LET .u64 .u64 _ _ Tryd.underlying9 (by decide) (by decide) (by decide)]; rfl)

theorem below_drewN {B : Nat} {w W : World} (h : Below B w W) (n : Nat) : Below B w (W.drewN n) := ⟨h.os, h.tape, h.output, h.size, h.block⟩

/-- The digits of a number, to a base of 2 or more. -/
def digs (b n : Nat) : List UInt8 :=
  if _h : n < b ∨ b < 2 then [hdB (n % b)] else digs b (n / b) ++ [hdB (n % b)]
termination_by n
decreasing_by exact Nat.div_lt_self (by omega) (by omega)

/-- What stands ahead of the digits that are written. -/
def digsAhead (b n : Nat) : List UInt8 := if n = 0 then [] else digs b n

theorem digs_first (b n : Nat) (hb : 2 ≤ b) : digs b n = digsAhead b (n / b) ++ [hdB (n % b)] := by
  rw [digs]
  unfold digsAhead
  by_cases h : n < b
  · rw [dif_pos (Or.inl h), if_pos (Nat.div_eq_of_lt h)]; rfl
  · have : n / b ≠ 0 := by
      intro e
      have := Nat.div_eq_zero_iff.1 e
      omega
    rw [dif_neg (by omega), if_neg this]
theorem digsAhead_step (b n : Nat) (hb : 2 ≤ b) (hn : n ≠ 0) : digsAhead b n = digsAhead b (n / b) ++ [hdB (n % b)] := by
  conv => lhs; unfold digsAhead
  rw [if_neg hn, digs_first b n hb]
theorem digsAhead_zero (b : Nat) : digsAhead b 0 = [] := by unfold digsAhead; rw [if_pos rfl]

/-- What holds of the number that is left and of the text so far. -/
def DgI (b n m : Nat) (s : ByteArray) : Prop := (m < 18446744073709551616 ∧ m * 2 ^ s.size ≤ n) ∧ digs b n = digsAhead b m ++ s.data.toList

theorem DgI.first (b n : Nat) (hb : 2 ≤ b) (hn : n < 18446744073709551616) : DgI b n (n / b) ⟨#[hdB (n % b)]⟩ := by
  refine ⟨⟨Nat.lt_of_le_of_lt (Nat.div_le_self _ _) hn, ?_⟩, digs_first b n hb⟩
  show n / b * 2 ^ 1 ≤ n
  have h1 := Nat.div_mul_le_self n b
  have h2 : n / b * 2 ≤ n / b * b := Nat.mul_le_mul_left _ hb
  omega

theorem DgI.step {b n m : Nat} {s : ByteArray} (h : DgI b n m s) (hb : 2 ≤ b) (hm : m ≠ 0) : DgI b n (m / b) (⟨#[hdB (m % b)]⟩ ++ s) := by
  refine ⟨⟨Nat.lt_of_le_of_lt (Nat.div_le_self _ _) h.1.1, ?_⟩, ?_⟩
  · rw [ByteArray.size_append, show (⟨#[hdB (m % b)]⟩ : ByteArray).size = 1 from rfl, Nat.pow_add, ← Nat.mul_assoc]
    refine Nat.le_trans (Nat.mul_le_mul_right _ ?_) h.1.2
    have h1 := Nat.div_mul_le_self m b
    have h2 : m / b * 2 ≤ m / b * b := Nat.mul_le_mul_left _ hb
    omega
  · rw [h.2, digsAhead_step b m hb hm, ByteArray.data_append]
    simp

theorem DgI.short {b n m : Nat} {s : ByteArray} (h : DgI b n m s) (hn : n < 18446744073709551616) (hm : m ≠ 0) : s.size < 64 := by
  have h1 := h.1.2
  apply Nat.lt_of_not_le
  intro hc
  have h2 : (2 : Nat) ^ 64 ≤ 2 ^ s.size := Nat.pow_le_pow_right (by decide) hc
  have h3 : 1 * 2 ^ s.size ≤ m * 2 ^ s.size := Nat.mul_le_mul_right _ (by omega)
  omega

theorem u64_nat (v : Nat) (h : v < 18446744073709551616) : IntKind.u64.wrap (v : Int) = v := by rw [IntKind.wrap_u64]; omega

set_option maxRecDepth 100000 in
set_option maxHeartbeats 1000000 in
theorem digits_any (n b : Nat) (w : World) (hb : 2 ≤ b) (hb' : b ≤ 16) (hn : n < 18446744073709551616) :
    Calls Tryd.prog 21 #[.int .u64 n, .int .u64 b] w fun e w' => e = .returned (.string ⟨(digs b n).toArray⟩) ∧ Below w.heap.size w w' := by
  have hL : ∀ m : Nat, ∀ w, (Instr.slice 9 (.string ⟨#[48, 49, 50, 51, 52, 53, 54, 55, 56, 57, 97, 98, 99, 100, 101, 102]⟩) (some (.int .u64 ((m : Int) % (b : Int)))) (some (.int .u64 ((m : Int) % (b : Int) + 1))) none).run Tryd.prog w = .ok (.string ⟨#[hdB (m % b)]⟩) w := fun m w => by
    have := let_at (m % b) (Nat.lt_of_lt_of_le (Nat.mod_lt _ (by omega)) hb') w
    rwa [show (((m % b : Nat)) : Int) = (m : Int) % (b : Int) by simp] at this
  have hT : ∀ m : Nat, m < 18446744073709551616 → ((m : Int).tmod (b : Int) = (m : Int) % (b : Int) ∧ IntKind.u64.wrap ((m : Int) % (b : Int)) = (m : Int) % (b : Int) ∧ IntKind.u64.wrap ((m : Int) % (b : Int) + 1) = (m : Int) % (b : Int) + 1) ∧ ((m : Int).tdiv (b : Int) = ((m / b : Nat) : Int) ∧ (m : Int) / (b : Int) = ((m / b : Nat) : Int) ∧ IntKind.u64.wrap ((m / b : Nat) : Int) = ((m / b : Nat) : Int)) := fun m hm => by
    have e : (m : Int) % (b : Int) = ((m % b : Nat) : Int) := by simp
    have hl : m % b < 16 := Nat.lt_of_lt_of_le (Nat.mod_lt _ (by omega)) hb'
    have e2 : (m : Int) / (b : Int) = ((m / b : Nat) : Int) := by simp
    have hl2 : m / b < 18446744073709551616 := Nat.lt_of_le_of_lt (Nat.div_le_self _ _) hm
    refine ⟨⟨Int.tmod_eq_emod_of_nonneg (by omega), ?_, ?_⟩, by rw [Int.tdiv_eq_ediv_of_nonneg (by omega), e2], e2, u64_nat _ hl2⟩
    · rw [e]; exact u64_nat _ (by omega)
    · rw [e, show ((m % b : Nat) : Int) + 1 = ((m % b + 1 : Nat) : Int) by simp]; exact u64_nat _ (by omega)
  have hb0 : (2 : Int) ≤ (b : Int) := by omega
  have h0 := DgI.first b n hb hn
  have hB : Below w.heap.size w w := Below.refl _ _
  replace hL := Lib.hid hL
  replace hT := Lib.hid hT
  go_enter Tryd.func21, Tryd.ntmps21
  go_wp2_with fail
  have l1 := hL.out n
  obtain ⟨⟨t1, t2, t3⟩, q1, q2, q3⟩ := hT.out n hn
  go_quiet (fail)
  replace hB := below_drewN hB nq
  clear l1 t1 t2 t3
  generalize n / b = m0 at h0 q1 q2 q3
  generalize (⟨#[hdB (n % b)]⟩ : ByteArray) = s0 at h0 ⊢
  have h0' := Lib.hid h0
  clear h0
  go_wp2
  clear q1 q2 q3
  go_loopw [0, 6] (fun vn vs wr => ∃ (m : Nat) (s : ByteArray), vn = .int .u64 m ∧ vs = .string s ∧ Hid (DgI b n m s) ∧ Below w.heap.size w wr) (fun vn _ _ => (intOf vn).toNat)
  case atStart => exact ⟨m0, s0, rfl, rfl, h0', hB⟩
  case round =>
    obtain ⟨m, s, rfl, rfl, hI, hB'⟩ := hrel
    rename World => W
    clear hB h0'
    by_cases hm : m = 0
    · subst hm
      have e : (⟨(digs b n).toArray⟩ : ByteArray) = s := by rw [hI.out.2, digsAhead_zero]; simp
      clear hI hT hL
      go_wp2
      go_ret
      exact ⟨by rw [e]; rfl, hB'⟩
    · have hm0 : (0 : Int) < (m : Int) := by omega
      have l1 := hL.out m
      obtain ⟨⟨t1, t2, t3⟩, q1, q2, q3⟩ := hT.out m hI.out.1.1
      have hsh := hI.out.short hn hm
      have hS := Lib.hid (hI.out.step hb hm)
      clear hI hT hL
      go_wp2_with fail
      have hb0 : (2 : Int) ≤ (b : Int) := by omega
      go_quiet (fail)
      replace hB' := below_drewN hB' nq
      clear l1 t1 t2 t3 hsh
      have hb0 : (2 : Int) ≤ (b : Int) := by omega
      have hlt : Hid (m / b < m) := Nat.div_lt_self (by omega) hb
      generalize (⟨#[hdB (m % b)]⟩ ++ s : ByteArray) = s1 at hS ⊢
      generalize m / b = m1 at hS hlt q1 q2 q3
      go_wp2
      exact ⟨⟨m1, s1, rfl, rfl, hS, hB'⟩, by simp [intOf]; exact hlt.out⟩

end Go.Proofs.YtkeeglpbhjnmdaaDoor
