import Derived.Deep.QuietTactic
import Derived.BigQuiet
import Derived.Deep.RegionHeld3
import Derived.Shelf.Strings.Builder1
import Derived.Shelf.Strings.OnBuilder
import Derived.Shelf.Abstract
import Derived.Test.YthehgcmhcioffaaGreatDoorMg1
import Derived.Test.YthehgcmhcioffaaGreatDoorMg2
namespace Go.Proofs.YthehgcmhcioffaaGreatDoor
set_option maxHeartbeats 64000000
set_option maxRecDepth 100000
open Go.RowKit
def LET : ByteArray := ⟨#[48, 49, 50, 51, 52, 53, 54, 55, 56, 57, 97, 98, 99, 100, 101, 102]⟩
theorem let_at (d : Nat) (hd : d < 16) (w : World) : (Instr.slice 9 (.string LET) (some (.int .u64 (d : Int))) (some (.int .u64 ((d : Int) + 1))) none).run Tryz.prog w = .ok (.string ⟨#[hdB d]⟩) w := by
  have h : d = 0 ∨ d = 1 ∨ d = 2 ∨ d = 3 ∨ d = 4 ∨ d = 5 ∨ d = 6 ∨ d = 7 ∨ d = 8 ∨ d = 9 ∨ d = 10 ∨ d = 11 ∨ d = 12 ∨ d = 13 ∨ d = 14 ∨ d = 15 := by omega
  rcases h with h | h | h | h | h | h | h | h | h | h | h | h | h | h | h | h <;> subst h <;>
    (rw [run_slice_string w 9 LET .u64 .u64 _ _ Tryz.underlying9 (by decide) (by decide) (by decide)]; rfl)
theorem below_drewN {B : Nat} {w W : World} (h : Below B w W) (n : Nat) : Below B w (W.drewN n) := ⟨h.os, h.tape, h.output, h.size, h.block⟩
def digs (b n : Nat) : List UInt8 :=
  if _h : n < b ∨ b < 2 then [hdB (n % b)] else digs b (n / b) ++ [hdB (n % b)]
termination_by n
decreasing_by exact Nat.div_lt_self (by omega) (by omega)
def digsAhead (b n : Nat) : List UInt8 := if n = 0 then [] else digs b n
theorem digs_first (b n : Nat) (hb : 2 ≤ b) : digs b n = digsAhead b (n / b) ++ [hdB (n % b)] := by
  rw [digs]
  unfold digsAhead
  by_cases h : n < b
  · rw [dif_pos (Or.inl h), if_pos (Nat.div_eq_of_lt h)]; rfl
  · have : n / b ≠ 0 := by
      intro e
      have := Nat.div_eq_zero_iff.1 e
      omega
    rw [dif_neg (by omega), if_neg this]
theorem digsAhead_step (b n : Nat) (hb : 2 ≤ b) (hn : n ≠ 0) : digsAhead b n = digsAhead b (n / b) ++ [hdB (n % b)] := by
  conv => lhs; unfold digsAhead
  rw [if_neg hn, digs_first b n hb]
theorem digsAhead_zero (b : Nat) : digsAhead b 0 = [] := by unfold digsAhead; rw [if_pos rfl]
def DgI (b n m : Nat) (s : ByteArray) : Prop := (m < 18446744073709551616 ∧ m * 2 ^ s.size ≤ n) ∧ digs b n = digsAhead b m ++ s.data.toList
theorem DgI.first (b n : Nat) (hb : 2 ≤ b) (hn : n < 18446744073709551616) : DgI b n (n / b) ⟨#[hdB (n % b)]⟩ := by
  refine ⟨⟨Nat.lt_of_le_of_lt (Nat.div_le_self _ _) hn, ?_⟩, digs_first b n hb⟩
  show n / b * 2 ^ 1 ≤ n
  have h1 := Nat.div_mul_le_self n b
  have h2 : n / b * 2 ≤ n / b * b := Nat.mul_le_mul_left _ hb
  omega
theorem DgI.step {b n m : Nat} {s : ByteArray} (h : DgI b n m s) (hb : 2 ≤ b) (hm : m ≠ 0) : DgI b n (m / b) (⟨#[hdB (m % b)]⟩ ++ s) := by
  refine ⟨⟨Nat.lt_of_le_of_lt (Nat.div_le_self _ _) h.1.1, ?_⟩, ?_⟩
  · rw [ByteArray.size_append, show (⟨#[hdB (m % b)]⟩ : ByteArray).size = 1 from rfl, Nat.pow_add, ← Nat.mul_assoc]
    refine Nt (Nat.mul_le_mul_right _ ?_) h.1.2
    have h1 := Nat.div_mul_le_self m b
    have h2 : m / b * 2 ≤ m / b * b := Nat.mul_le_mul_left _ hb
    omega
  · rw [h.2, digsAhead_step b m hb hm, ByteArray.data_append]
    simp
theorem DgI.short {b n m : Nat} {s : ByteArray} (h : DgI b n m s) (hn : n < 18446744073709551616) (hm : m ≠ 0) : s.size < 64 := by
  have h1 := h.1.2
  apply Nat.lt_of_not_le
  intro hc
  have h2 : (2 : Nat) ^ 64 ≤ 2 ^ s.size := Nat.pow_le_pow_right (by decide) hc
  have h3 : 1 * 2 ^ s.size ≤ m * 2 ^ s.size := Nat.mul_le_mul_right _ (by omega)
  omega
theorem u64_nat (v : Nat) (h : v < 18446744073709551616) : IntKind.u64.wrap (v : Int) = v := by rw [IntKind.wrap_u64]; omega
theorem digits_any (n b : Nat) (w : World) (hb : 2 ≤ b) (hb' : b ≤ 16) (hn : n < 18446744073709551616) :
    Calls Tryz.prog 29 #[.int .u64 n, .int .u64 b] w fun e w' => e = .returned (.string ⟨(digs b n).toArray⟩) ∧ Below w.heap.size w w' := by
  have hL : ∀ m : Nat, ∀ w, (Instr.slice 9 (.string ⟨#[48, 49, 50, 51, 52, 53, 54, 55, 56, 57, 97, 98, 99, 100, 101, 102]⟩) (some (.int .u64 ((m : Int) % (b : Int)))) (some (.int .u64 ((m : Int) % (b : Int) + 1))) none).run Tryz.prog w = .ok (.string ⟨#[hdB (m % b)]⟩) w := fun m w => by
    have := let_at (m % b) (Nat.lt_of_lt_of_le (Nat.mod_lt _ (by omega)) hb') w
    rwa [show (((m % b : Nat)) : Int) = (m : Int) % (b : Int) by simp] at this
  have hT : ∀ m : Nat, m < 18446744073709551616 → ((m : Int).tmod (b : Int) = (m : Int) % (b : Int) ∧ IntKind.u64.wrap ((m : Int) % (b : Int)) = (m : Int) % (b : Int) ∧ IntKind.u64.wrap ((m : Int) % (b : Int) + 1) = (m : Int) % (b : Int) + 1) ∧ ((m : Int).tdiv (b : Int) = ((m / b : Nat) : Int) ∧ (m : Int) / (b : Int) = ((m / b : Nat) : Int) ∧ IntKind.u64.wrap ((m / b : Nat) : Int) = ((m / b : Nat) : Int)) := fun m hm => by
    have e : (m : Int) % (b : Int) = ((m % b : Nat) : Int) := by simp
    have hl : m % b < 16 := Nat.lt_of_lt_of_le (Nat.mod_lt _ (by omega)) hb'
    have e2 : (m : Int) / (b : Int) = ((m / b : Nat) : Int) := by simp
    have hl2 : m / b < 18446744073709551616 := Nat.lt_of_le_of_lt (Nat.div_le_self _ _) hm
    refine ⟨⟨Int.tmod_eq_emod_of_nonneg (by omega), ?_, ?_⟩, by rw [Int.tdiv_eq_ediv_of_nonneg (by omega), e2], e2, u64_nat _ hl2⟩
    · rw [e]; exact u64_nat _ (by omega)
    · rw [e, show ((m % b : Nat) : Int) + 1 = ((m % b + 1 : Nat) : Int) by simp]; exact u64_nat _ (by omega)
  have hb0 : (2 : Int) ≤ (b : Int) := by omega
  have h0 := DgI.first b n hb hn
  have hB : Below w.heap.size w w := Below.refl _ _
  replace hL := Hd hL
  replace hT := Hd hT
  go_enter Tryz.func29, Tryz.ntmps29
  go_wp2_with fail
  have l1 := hL.out n
  obtain ⟨⟨t1, t2, t3⟩, q1, q2, q3⟩ := hT.out n hn
  go_quiet (fail)
  replace hB := below_drewN hB nq
  clear l1 t1 t2 t3
  generalize n / b = m0 at h0 q1 q2 q3
  generalize (⟨#[hdB (n % b)]⟩ : ByteArray) = s0 at h0 ⊢
  have h0' := Hd h0
  clear h0
  go_wp2
  clear q1 q2 q3
  go_loopw [0, 6] (fun vn vs wr => ∃ (m : Nat) (s : ByteArray), vn = .int .u64 m ∧ vs = .string s ∧ Hid (DgI b n m s) ∧ Below w.heap.size w wr) (fun vn _ _ => (intOf vn).toNat)
  case atStart => exact ⟨m0, s0, rfl, rfl, h0', hB⟩
  case round =>
    obtain ⟨m, s, rfl, rfl, hI, hB'⟩ := hrel
    rename World => W
    clear hB h0'
    by_cases hm : m = 0
    · subst hm
      have e : (⟨(digs b n).toArray⟩ : ByteArray) = s := by rw [hI.out.2, digsAhead_zero]; simp
      clear hI hT hL
      go_wp2
      go_ret
      exact ⟨by rw [e]; rfl, hB'⟩
    · have hm0 : (0 : Int) < (m : Int) := by omega
      have l1 := hL.out m
      obtain ⟨⟨t1, t2, t3⟩, q1, q2, q3⟩ := hT.out m hI.out.1.1
      have hsh := hI.out.short hn hm
      have hS := Hd (hI.out.step hb hm)
      clear hI hT hL
      go_wp2_with fail
      have hb0 : (2 : Int) ≤ (b : Int) := by omega
      go_quiet (fail)
      replace hB' := below_drewN hB' nq
      clear l1 t1 t2 t3 hsh
      have hb0 : (2 : Int) ≤ (b : Int) := by omega
      have hlt : Hid (m / b < m) := Nat.div_lt_self (by omega) hb
      generalize (⟨#[hdB (m % b)]⟩ ++ s : ByteArray) = s1 at hS ⊢
      generalize m / b = m1 at hS hlt q1 q2 q3
      go_wp2
      exact ⟨⟨m1, s1, rfl, rfl, hS, hB'⟩, by simp [intOf]; exact hlt.out⟩
end Go.Proofs.YthehgcmhcioffaaGreatDoor
namespace Go.Proofs.YthehgcmhcioffaaGreatDoor
set_option maxHeartbeats 64000000
set_option maxRecDepth 100000
open Go.RowKit
open Go.Lib (NumEnd parseUintM parseUintB parseIntB decDigits itoa)
theorem hdB_dec (d : Nat) (h : d < 10) : hdB d = UInt8.ofNat (48 + d) := by
  have h : d = 0 ∨ d = 1 ∨ d = 2 ∨ d = 3 ∨ d = 4 ∨ d = 5 ∨ d = 6 ∨ d = 7 ∨ d = 8 ∨ d = 9 := by omega
  rcases h with h | h | h | h | h | h | h | h | h | h <;> subst h <;> decide
theorem digs_dec (n : Nat) : digs 10 n = decDigits n := by
  induction n using Nat.strongRecOn with
  | _ n ih =>
    rw [digs]
    by_cases h : n < 10
    · rw [dif_pos (Or.inl h), decDigits, dif_pos h, Nat.mod_eq_of_lt h, hdB_dec n h]
    · rw [dif_neg (by omega), decDigits, dif_neg h, ih (n / 10) (by omega), hdB_dec _ (Nat.mod_lt _ (by decide))]
theorem hexK_snoc (u : Nat) : ∀ k, hexK u (k + 1) = hexK (u / 16) k ++ [hdB (u % 16)] := by
  intro k
  induction k generalizing u with
  | zero => simp [hexK, List.range_succ]
  | succ k ih =>
    rw [hexK_succ, ih, hexK_succ (u / 16) k, List.cons_append]
    congr 1
    rw [Nat.div_div_eq_div_mul, Nat.pow_succ 16 (k + 1), Nat.mul_comm 16]
theorem digs_hex : ∀ (k n : Nat), n < 16 ^ (k + 1) → 1 ≤ (digs 16 n).length ∧ (digs 16 n).length ≤ k + 1 ∧ List.replicate (k + 1 - (digs 16 n).length) 48 ++ digs 16 n = hexK n k := by
  intro k
  induction k with
  | zero =>
    intro n h
    rw [digs, dif_pos (Or.inl (by simpa using h))]
    refine ⟨by simp, by simp, ?_⟩
    simp [hexK, List.range_succ]
  | succ k ih =>
    intro n h
    by_cases hn : n < 16
    · rw [digs, dif_pos (Or.inl hn)]
      refine ⟨by simp, by simp, ?_⟩
      have h0 := hexK_pad n 0 (by simpa using hn) (k + 1)
      rw [Nat.zero_add] at h0
      rw [h0]
      simp [hexK, List.range_succ]
    · rw [digs, dif_neg (by omega)]
      obtain ⟨h1, h2, h3⟩ := ih (n / 16) (by rw [Nat.pow_succ] at h; omega)
      refine ⟨by simp, by simp; omega, ?_⟩
      rw [hexK_snoc, ← h3, List.length_append, List.length_singleton, ← List.append_assoc]
      congr 2
      congr 1
      omega
theorem flt_text (b : Nat) (hb : b < 18446744073709551616) : (digs 16 b).length ≤ 16 ∧ 48 :: 102 :: (List.replicate (16 - (digs 16 b).length) 48 ++ digs 16 b) = fltL b := by
  obtain ⟨_, h2, h3⟩ := digs_hex 15 b hb
  exact ⟨h2, by rw [fltL_eq b hb, ← h3]⟩
theorem int_text_up (x : Nat) (h : x < 9223372036854775808) : digs 10 x = itoa (wrap64 (x : Int)) := by
  rw [digs_dec]
  have e : wrap64 (x : Int) = x := by unfold wrap64; omega
  rw [e]
  unfold itoa
  rw [if_neg (by omega), show ((x : Int)).toNat = x by omega]
theorem int_text_down (x : Nat) (h : 9223372036854775808 ≤ x) (h1 : x < 18446744073709551616) : 45 :: digs 10 (18446744073709551616 - x) = itoa (wrap64 (x : Int)) := by
  rw [digs_dec]
  have e : wrap64 (x : Int) = (x : Int) - 18446744073709551616 := by unfold wrap64; omega
  rw [e]
  unfold itoa
  rw [if_pos (by omega), show ((x : Int) - 18446744073709551616).natAbs = 18446744073709551616 - x by omega]
theorem parse_over (M : Nat) (hM : M ≤ 18446744073709551615) (d : List UInt8) (h : ∀ c ∈ d, isDig c = true) : parseUintM M 0 d = .ok (decN 0 d) ∨ (parseUintM M 0 d = .range ∧ M < decN 0 d) := by
  rcases Nat.lt_or_ge M (decN 0 d) with h1 | h1
  · have hpl := parse_plain M d 0 h
    cases hp : parseUintM M 0 d with
    | range => exact Or.inr ⟨rfl, h1⟩
    | ok u => exact Or.inl (by rw [(parse_ok M d 0 u hp).2])
    | _ => rw [hp] at hpl; exact hpl.elim
  · exact Or.inl (parse_digits M hM d 0 h h1)
theorem mag_minus (d : List UInt8) (h : Mag d) : intF (45 :: d) = true ∧ Lib.hasPrefix (45 :: d) [48, 102] = false ∧ parseIntB 64 (45 :: d) = (if decN 0 d ≤ 9223372036854775808 then .ok (-(decN 0 d : Int)) else .range) := by
  refine ⟨(intF_cases _).2 (Or.inr (Or.inl ⟨d, rfl, h⟩)), rfl, ?_⟩
  rw [pi_minus d h]
  rcases parse_over 18446744073709551615 Nr d h.2.2 with e | ⟨e, hlt⟩
  · rw [e]
    simp only [Lib.signedC]
    by_cases hc : decN 0 d ≤ 9223372036854775808
    · rw [if_pos hc, if_neg (by omega)]
    · rw [if_neg hc, if_pos (by omega)]
  · rw [e, if_neg (by omega)]; rfl
theorem mag_plain (d : List UInt8) (h : Mag d) : intF d = true ∧ Lib.hasPrefix d [48, 102] = false ∧ parseIntB 64 d = (if decN 0 d < 9223372036854775808 then .ok (decN 0 d : Int) else .range) := by
  have hpre : Lib.hasPrefix d [48, 102] = false := by
    cases d with
    | nil => exact absurd rfl h.1
    | cons c r =>
      have hc : c ≠ 48 := fun e => h.2.1 (by rw [e]; rfl)
      have h48 : (48 == c) = false := by simpa using Ne.symm hc
      show ((48 == c) && List.isPrefixOf [102] r) = false
      rw [h48]; rfl
  refine ⟨(intF_cases _).2 (Or.inr (Or.inr h)), hpre, ?_⟩
  rw [pi_plain d h]
  rcases parse_over 18446744073709551615 Nr d h.2.2 with e | ⟨e, hlt⟩
  · rw [e]
    simp only [Lib.signlessC]
    by_cases hc : decN 0 d < 9223372036854775808
    · rw [if_pos hc, if_neg (by omega)]
    · rw [if_neg hc, if_pos (by omega)]
  · rw [e, if_neg (by omega)]; rfl
end Go.Proofs.YthehgcmhcioffaaGreatDoor
namespace Go.Proofs.YthehgcmhcioffaaGreatDoor
set_option maxHeartbeats 64000000
set_option maxRecDepth 100000
open Go.RowKit
theorem refPrint_up (x : Int) (h0 : 0 ≤ x) (hx : x < 9223372036854775808) (w : World) :
    Calls Tryz.prog 38 #[.agg #[.bool false, .int .u64 x]] w fun e w' => e = .returned (.string ⟨(printL false x).toArray⟩) ∧ Below w.heap.size w w' := by
  have e : ((x.toNat : Nat) : Int) = x := Int.toNat_of_nonneg h0
  have hD : ∀ W, Calls Tryz.prog 29 #[.int .u64 x, .int .u64 10] W fun e w' => e = .returned (.string ⟨(printL false x).toArray⟩) ∧ Below W.heap.size W w' := fun W => by
    have h := digits_any x.toNat 10 W (by decide) (by decide) (by omega)
    have hp : printL false x = digs 10 x.toNat := by
      have := int_text_up x.toNat (by omega)
      rw [e] at this
      exact this.symm
    rw [e] at h
    rw [hp]
    exact h
  replace hD := Hd hD
  clear e
  generalize (⟨(printL false x).toArray⟩ : ByteArray) = t at hD ⊢
  go_enter Tryz.func38, Tryz.ntmps38
  go_wp2_with fail
  refine (hD.out _).mono ?_
  rintro e w1 ⟨rfl, hb⟩
  have hB := stepB (Br.alloc Nr _) hb
  clear hb
  go_wp2_with fail
  go_ret
  exact ⟨rfl, hB⟩
theorem refPrint_down (x : Int) (h0 : 9223372036854775808 ≤ x) (hx : x < 18446744073709551616) (w : World) :
    Calls Tryz.prog 38 #[.agg #[.bool false, .int .u64 x]] w fun e w' => e = .returned (.string ⟨(printL false x).toArray⟩) ∧ Below w.heap.size w w' := by
  have e : ((18446744073709551616 - x.toNat : Nat) : Int) = 18446744073709551616 - x := by omega
  have hw : IntKind.u64.wrap (0 - x) = 18446744073709551616 - x := by rw [IntKind.wrap_u64]; omega
  have hw' : IntKind.u64.wrap (-x) = 18446744073709551616 - x := by rw [IntKind.wrap_u64]; omega
  obtain ⟨t, ht⟩ : ∃ t : ByteArray, t = ⟨(digs 10 (18446744073709551616 - x.toNat)).toArray⟩ := ⟨_, rfl⟩
  have hD : ∀ W, Calls Tryz.prog 29 #[.int .u64 (18446744073709551616 - x), .int .u64 10] W fun e w' => e = .returned (.string t) ∧ Below W.heap.size W w' := fun W => by
    have h := digits_any (18446744073709551616 - x.toNat) 10 W (by decide) (by decide) (by omega)
    rw [e, ← ht] at h
    exact h
  have hp : (⟨#[45]⟩ : ByteArray) ++ t = ⟨(printL false x).toArray⟩ := by
    have h := int_text_down x.toNat (by omega) (by omega)
    rw [show ((x.toNat : Nat) : Int) = x by omega] at h
    rw [ht, show printL false x = 45 :: digs 10 (18446744073709551616 - x.toNat) from h.symm]
    apply ByteArray.ext
    rw [ByteArray.data_append]
    apply Array.ext'
    simp
  have hl : t.size < 100 := by
    have h := Lib.itoa_length_le (wrap64 x) (wrap64_range x).1 (wrap64_range x).2
    have h2 := congrArg ByteArray.size hp
    rw [ByteArray.size_append, Lib.size_eq ⟨(printL false x).toArray⟩] at h2
    have h3 : (printL false x).length ≤ 21 := h
    have h4 : (⟨#[45]⟩ : ByteArray).size = 1 := rfl
    simp only at h2
    omega
  rw [← hp]
  replace hD := Hd hD
  clear e ht hp
  go_enter Tryz.func38, Tryz.ntmps38
  go_wp2_with fail
  refine (hD.out _).mono ?_
  rintro e w1 ⟨rfl, hb⟩
  have hB := stepB (Br.alloc Nr _) hb
  clear hb
  go_wp2_with fail
  go_ret
  exact ⟨rfl, hB⟩
def PadI (t s : ByteArray) : Prop := ∃ j : Nat, s = ⟨(List.replicate j 48 ++ t.data.toList).toArray⟩ ∧ s.size = j + t.size ∧ s.size ≤ 16
theorem PadI.step {t s : ByteArray} (h : PadI t s) (hs : s.size < 16) : PadI t (⟨#[48]⟩ ++ s) := by
  obtain ⟨j, h1, h2, _⟩ := h
  have h4 : (⟨#[48]⟩ : ByteArray).size = 1 := rfl
  refine ⟨j + 1, ?_, by rw [ByteArray.size_append, h4]; omega, by rw [ByteArray.size_append, h4]; omega⟩
  rw [h1]
  apply ByteArray.ext
  rw [ByteArray.data_append]
  apply Array.ext'
  simp [List.replicate_succ]
theorem PadI.first (t : ByteArray) (h : t.size ≤ 16) : PadI t t := ⟨0, by simp, by simp, h⟩
theorem refPrint_flt (x : Int) (h0 : 0 ≤ x) (hx : x < 18446744073709551616) (w : World) :
    Calls Tryz.prog 38 #[.agg #[.bool true, .int .u64 x]] w fun e w' => e = .returned (.string ⟨(printL true x).toArray⟩) ∧ Below w.heap.size w w' := by
  have e : ((x.toNat : Nat) : Int) = x := Int.toNat_of_nonneg h0
  obtain ⟨t, ht⟩ : ∃ t : ByteArray, t = ⟨(digs 16 x.toNat).toArray⟩ := ⟨_, rfl⟩
  have hD : ∀ W, Calls Tryz.prog 29 #[.int .u64 x, .int .u64 16] W fun e w' => e = .returned (.string t) ∧ Below W.heap.size W w' := fun W => by
    have h := digits_any x.toNat 16 W (by decide) (by decide) (by omega)
    rw [e, ← ht] at h
    exact h
  obtain ⟨f1, f2⟩ := flt_text x.toNat (by omega)
  have htz : t.size = (digs 16 x.toNat).length := by rw [Lib.size_eq, ht]
  have hP : Hid (PadI t t) := PadI.first t (by omega)
  have hE : ∀ s, PadI t s → ¬ s.size < 16 → (⟨#[48, 102]⟩ : ByteArray) ++ s = ⟨(printL true x).toArray⟩ := fun s ⟨j, h1, h2, h3⟩ h4 => by
    have hj : j = 16 - (digs 16 x.toNat).length := by omega
    rw [show printL true x = fltL x.toNat from rfl, ← f2, h1, hj, ht]
    apply ByteArray.ext
    rw [ByteArray.data_append]
    apply Array.ext'
    simp
  replace hD := Hd hD
  replace hE := Hd hE
  generalize (⟨(printL true x).toArray⟩ : ByteArray) = R at hE ⊢
  clear e ht f1 f2 htz h0 hx
  go_enter Tryz.func38, Tryz.ntmps38
  go_wp2_with fail
  refine (hD.out _).mono ?_
  rintro e w1 ⟨rfl, hb⟩
  have hB := stepB (Br.alloc Nr _) hb
  clear hb
  go_wp2_with fail
  go_loop [3] (fun vs => ∃ s : ByteArray, vs = .string s ∧ Hid (PadI t s)) (fun vs => match vs with | .string s => 16 - s.size | _ => 0)
  case atStart => exact ⟨t, rfl, hP⟩
  case round =>
    obtain ⟨s, rfl, hI⟩ := hrel
    by_cases hs : s.size < 16
    · have hN := Hd (hI.out.step hs)
      have hs' : (s.size : Int) < 16 := by omega
      have hz : (⟨#[48]⟩ ++ s : ByteArray).size = s.size + 1 := by rw [ByteArray.size_append]; show 1 + s.size = _; omega
      clear hI hP
      go_wp2
      exact ⟨⟨_, rfl, hN⟩, by simp only [hz]; omega⟩
    · have hR := hE.out s hI.out hs
      have hs' : ¬ (s.size : Int) < 16 := by omega
      have hs2 : s.size ≤ 16 := by obtain ⟨_, _, _, h⟩ := hI.out; exact h
      clear hI hP
      go_wp2
      go_ret
      exact ⟨by rw [← hR]; rfl, hB⟩
theorem refPrint_any (f : Bool) (x : Int) (h0 : 0 ≤ x) (hx : x < 18446744073709551616) (w : World) :
    Calls Tryz.prog 38 #[.agg #[.bool f, .int .u64 x]] w fun e w' => e = .returned (.string ⟨(printL f x).toArray⟩) ∧ Below w.heap.size w w' := by
  cases f with
  | true => exact refPrint_flt x h0 hx w
  | false =>
    by_cases h : x < 9223372036854775808
    · exact refPrint_up x h0 h w
    · exact refPrint_down x (by omega) hx w
end Go.Proofs.YthehgcmhcioffaaGreatDoor
namespace Go.Proofs.YthehgcmhcioffaaGreatDoor
set_option maxHeartbeats 64000000
set_option maxRecDepth 100000
open Go.RowKit Go.Lib
theorem hd_in : ∀ d : Fin 16, inRun (hdB d.val) = true ∧ (d.val < 10 → dgB (hdB d.val) = true) := by decide +kernel
theorem digs_in (b : Nat) (h2 : 2 ≤ b) (h16 : b ≤ 16) (n : Nat) : (∀ c, c ∈ digs b n → inRun c = true ∧ (b ≤ 10 → dgB c = true)) ∧ digs b n ≠ [] := by
  induction n using Nat.strongRecOn with
  | ind n ih =>
    rw [digs]
    have hl : n % b < b := Nat.mod_lt _ (by omega)
    have hh := hd_in ⟨n % b, by omega⟩
    split
    · refine ⟨fun c hc => ?_, by simp⟩
      rw [List.mem_singleton] at hc
      subst hc
      exact ⟨hh.1, fun h10 => hh.2 (by show n % b < 10; omega)⟩
    · refine ⟨fun c hc => ?_, by simp⟩
      rcases List.mem_append.1 hc with hc | hc
      · exact (ih (n / b) (Nat.div_lt_self (by omega) (by omega))).1 c hc
      · rw [List.mem_singleton] at hc
        subst hc
        exact ⟨hh.1, fun h10 => hh.2 (by show n % b < 10; omega)⟩
def srcL (f : Bool) (x : Int) : List UInt8 := if (printL f x).head? = some 45 then 35 :: printL f x else printL f x
theorem print_form (f : Bool) (x : Int) (h0 : 0 ≤ x) (h1 : x < 18446744073709551616) :
    (∃ c r, printL f x = c :: r ∧ dgB c = true ∧ ∀ d, d ∈ c :: r → inRun d = true) ∨ (∃ r, printL f x = 45 :: r ∧ r ≠ [] ∧ ∀ d, d ∈ r → inRun d = true) := by
  obtain ⟨n, rfl⟩ : ∃ n : Nat, x = n := ⟨x.toNat, by omega⟩
  cases f with
  | true =>
    left
    have ht := (flt_text n (by omega)).2
    have hp : printL true (n : Int) = fltL n := by simp [printL]
    rw [hp, ← ht]
    refine ⟨48, _, rfl, by decide, fun d hd => ?_⟩
    rcases List.mem_cons.1 hd with rfl | hd
    · decide
    rcases List.mem_cons.1 hd with rfl | hd
    · decide
    rcases List.mem_append.1 hd with hd | hd
    · rw [(List.mem_replicate.1 hd).2]; decide
    · exact ((digs_in 16 (by omega) (by omega) n).1 d hd).1
  | false =>
    have hp : printL false (n : Int) = itoa (wrap64 n) := by simp [printL]
    rw [hp]
    by_cases g : n < 9223372036854775808
    · left
      rw [← int_text_up n g]
      obtain ⟨hd, hne⟩ := digs_in 10 (by omega) (by omega) n
      cases hc : digs 10 n with
      | nil => exact absurd hc hne
      | cons c r =>
        rw [hc] at hd
        exact ⟨c, r, rfl, (hd c (List.mem_cons_self ..)).2 (by omega), fun d h => (hd d h).1⟩
    · right
      rw [← int_text_down n (by omega) (by omega)]
      obtain ⟨hd, hne⟩ := digs_in 10 (by omega) (by omega) (18446744073709551616 - n)
      exact ⟨_, rfl, hne, fun d h => (hd d h).1⟩
theorem src_len (f : Bool) (x : Int) (h0 : 0 ≤ x) (h1 : x < 18446744073709551616) : (srcL f x).length ≤ 1001 := by
  have := print_len f x h0 h1
  unfold srcL
  split
  · rw [List.length_cons]; omega
  · omega
def wordsL (f : List UInt8) (o : List (List UInt8)) : List UInt8 := f ++ o.flatMap (fun x => 32 :: x)
def joinL (sep : List UInt8) : List (List UInt8) → List UInt8
  | [] => []
  | a :: r => a ++ r.flatMap (fun x => sep ++ x)
def encL (x : List UInt8) : List UInt8 := 40 :: (x ++ [41])
def nTx (f : Bool) (u : Int) : List UInt8 := srcL f u
def letterB (b : UInt8) : Bool := (65 ≤ b && b ≤ 90) || (97 ≤ b && b ≤ 122)
def isLet (n : Nm) : Bool := n.all letterB
def bareE : Ex → Bool
  | .mk k _ _ _ _ ks _ _ => (k == 2 || k == 5) && ks.isEmpty
def kindE : Ex → Int
  | .mk k _ _ _ _ _ _ _ => k
def plainE (e : Ex) : Bool := kindE e == 1 || kindE e == 3 || bareE e
def headL (ks : List Ex) (l : List (List UInt8)) : List (List UInt8) :=
  match ks, l with
  | e :: _, a :: r => (if bareE e then encL a else a) :: r
  | _, l => l
mutual
def shE : Ex → List UInt8
  | .mk k n f x ps ks bs al =>
    if k = 1 then n
    else if k = 2 then wordsL n (atomsL ks)
    else if k = 3 then nTx f x
    else if k = 4 then joinL [32] (headL ks (atomsL ks))
    else if k = 5 then (if isLet n then wordsL n (atomsL ks) else joinL (32 :: (n ++ [32])) (atomsL ks))
    else if k = 6 then wordsL [108, 101, 116] [joinL [59, 32] (bindsT bs), [105, 110], innT ks]
    else if k = 7 then wordsL [99, 97, 115, 101] [innT ks, [111, 102], 123 :: (joinL [59, 32] (altsT al) ++ [125])]
    else if k = 8 then wordsL (92 :: joinL [32] ps) [[45, 62], innT ks]
    else []
def atomsL : List Ex → List (List UInt8)
  | [] => []
  | e :: r => (if plainE e then shE e else encL (shE e)) :: atomsL r
def innT : List Ex → List UInt8
  | [] => []
  | e :: _ => shE e
def bindsT : List (Nm × List Nm × Ex) → List (List UInt8)
  | [] => []
  | (n, ps, e) :: r => wordsL (wordsL n ps) [[61], shE e] :: bindsT r
def altsT : List (Int × Nm × Bool × Int × List Nm × Ex) → List (List UInt8)
  | [] => []
  | (k, n, f, x, ns, e) :: r => wordsL (if k = 1 then nTx f x else wordsL n ns) [[45, 62], shE e] :: altsT r
end
def atomT (e : Ex) : List UInt8 := if plainE e then shE e else encL (shE e)
def bindT (b : Bnd) : List UInt8 := wordsL (wordsL b.1 b.2.1) [[61], shE b.2.2]
def altT (a : Alt) : List UInt8 := wordsL (if a.1 = 1 then nTx a.2.2.1 a.2.2.2.1 else wordsL a.2.1 a.2.2.2.2.1) [[45, 62], shE a.2.2.2.2.2]
theorem atomsL_map : ∀ l, atomsL l = l.map atomT
  | [] => by unfold atomsL; rfl
  | e :: r => by unfold atomsL; rw [atomsL_map r]; rfl
theorem bindsT_map : ∀ l, bindsT l = l.map bindT
  | [] => by unfold bindsT; rfl
  | (n, ps, e) :: r => by unfold bindsT; rw [bindsT_map r]; rfl
theorem altsT_map : ∀ l, altsT l = l.map altT
  | [] => by unfold altsT; rfl
  | (k, n, f, x, ns, e) :: r => by unfold altsT; rw [altsT_map r]; rfl
theorem shE_mk (k : Int) (n : Nm) (f : Bool) (x : Int) (ps : List Nm) (ks : List Ex) (bs : List Bnd) (al : List Alt) : shE (.mk k n f x ps ks bs al) =
    if k = 1 then n
    else if k = 2 then wordsL n (ks.map atomT)
    else if k = 3 then nTx f x
    else if k = 4 then joinL [32] (headL ks (ks.map atomT))
    else if k = 5 then (if isLet n then wordsL n (ks.map atomT) else joinL (32 :: (n ++ [32])) (ks.map atomT))
    else if k = 6 then wordsL [108, 101, 116] [joinL [59, 32] (bs.map bindT), [105, 110], innT ks]
    else if k = 7 then wordsL [99, 97, 115, 101] [innT ks, [111, 102], 123 :: (joinL [59, 32] (al.map altT) ++ [125])]
    else if k = 8 then wordsL (92 :: joinL [32] ps) [[45, 62], innT ks]
    else [] := by
  conv => lhs; unfold shE
  rw [atomsL_map, bindsT_map, altsT_map]
def declT (d : Nm × Int) : List UInt8 := wordsL d.1 [Lib.itoa d.2]
def lineL (x : List UInt8) : List UInt8 := x ++ [59, 10]
def shM (m : Md) : List UInt8 := (if m.1 = [] then [] else lineL (wordsL [100, 97, 116, 97] (m.1.map declT))) ++ m.2.flatMap (fun b => lineL (bindT b))
theorem words_fst (f : List UInt8) (o : List (List UInt8)) : f.length ≤ (wordsL f o).length := by unfold wordsL; rw [List.length_append]; omega
theorem words_take (f : List UInt8) (o : List (List UInt8)) (j : Nat) : (wordsL f (o.take j)).length ≤ (wordsL f o).length := by
  conv => rhs; rw [← List.take_append_drop j o]
  unfold wordsL
  rw [List.flatMap_append]
  simp only [List.length_append]
  omega
theorem enc_len (x : List UInt8) : (encL x).length = x.length + 2 := by simp [encL]
theorem atom_len (e : Ex) : (shE e).length ≤ (atomT e).length ∧ (atomT e).length ≤ (shE e).length + 2 := by
  unfold atomT
  split
  · omega
  · rw [enc_len]; omega
def tx (l : Nm) : ByteArray := ⟨l.toArray⟩
theorem tx_list (l : Nm) : (tx l).data.toList = l := back_list l
theorem tx_inj {a b : Nm} (h : tx a = tx b) : a = b := by
  have := congrArg (fun s : ByteArray => s.data.toList) h
  simpa [tx_list] using this
theorem tx_toList (l : Nm) : (tx l).toList = l := by rw [ByteArray.toList_eq]; exact tx_list l
def vSh (s : Sh) : Value := .agg #[.int .i64 s.1, .string (tx s.2)]
def vTok (y : Tok) : Value := .agg #[.int .i64 y.1.k, .string (tx y.1.t), .bool y.1.f, .int .u64 y.1.x, .int .i64 y.2]
def ShAt (w : World) (g : Nat) (s : Sh) : Prop := w.cell? ⟨g, 0, none⟩ = some (.int .i64 s.1) ∧ w.cell? ⟨g, 1, none⟩ = some (.string (tx s.2))
theorem ShAt.later {w w' : World} {g : Nat} {s : Sh} (h : ShAt w g s) (hb : Below w.heap.size w w') : ShAt w' g s := ⟨later' hb h.1, later' hb h.2⟩
def ShSaid (s : Sh) (w : World) (e : Ending) (w' : World) : Prop := e = .returned (.agg #[.int .i64 s.1, .string (tx s.2)]) ∧ Below w.heap.size w w'
def TokIn (w : World) (g o : Nat) (y : Tok) : Prop := w.cell? ⟨g, o, none⟩ = some (.int .i64 y.1.k) ∧ w.cell? ⟨g, o + 1, none⟩ = some (.string (tx y.1.t)) ∧ w.cell? ⟨g, o + 2, none⟩ = some (.bool y.1.f) ∧ w.cell? ⟨g, o + 3, none⟩ = some (.int .u64 y.1.x) ∧ w.cell? ⟨g, o + 4, none⟩ = some (.int .i64 y.2)
def RestIn (w : World) (b : Nat) (v : Value) (rest : List Tok) : Prop :=
  ∃ a c, v = .slice a rest.length c ∧ rest.length ≤ c ∧ c ≤ maxLen ∧ (rest = [] ∨ ∃ g o, a = some ⟨g, o, none⟩ ∧ g < b ∧ ∀ i (h : i < rest.length), TokIn w g (o + i * 5) rest[i])
def ShB (w : World) (b g : Nat) (s : Sh) : Prop := ShAt w g s ∧ g ≠ b
theorem ShB.later {w w' : World} {b g : Nat} {s : Sh} (h : ShB w b g s) (hb : w.grownBy w' (some b)) : ShB w' b g s := ⟨⟨hb.cell h.1.1 (by simpa using h.2), hb.cell h.1.2 (by simpa using h.2)⟩, h.2⟩
structure Env8 (w : World) (b : Nat) : Prop where
  letw : ShB w b 0 sLet
  casew : ShB w b 1 sCase
  lam : ShB w b 2 sLam
  name : ShB w b 3 sName
  con : ShB w b 4 sCon
  num : ShB w b 5 sNum
  back : ShB w b 6 sBack
  opn : ShB w b 7 sOpen
  data : ShB w b 8 sData
  semi : ShB w b 9 sSemi
  inw : ShB w b 10 sIn
  ofw : ShB w b 11 sOf
  curl : ShB w b 12 sCurl
  lruc : ShB w b 13 sLruc
  arrow : ShB w b 14 sArrow
  sign : ShB w b 15 sSign
  shut : ShB w b 16 sShut
  eq : ShB w b 17 sEq
structure Rdr (w : World) (b : Nat) (me ma : Nat) (last : Int) (rest : List Tok) (d : Nat) : Prop where
  c0 : ∃ v, w.cell? ⟨b, 0, none⟩ = some v ∧ RestIn w b v rest
  c1 : w.cell? ⟨b, 1, none⟩ = some (.int .i64 last)
  c2 : w.cell? ⟨b, 2, none⟩ = some (.int .i64 d)
  c3 : w.cell? ⟨b, 3, none⟩ = some (.map (some me))
  c4 : w.cell? ⟨b, 4, none⟩ = some (.map (some ma))
  z : ∀ j, w.frozen? ⟨b, j, none⟩ = false
theorem grown_of {w w' : World} {b : Nat} (h : Below w.heap.size w w') : w.grownBy w' (some b) := ⟨h.os, h.tape, h.output, h.size, fun k hk _ => h.block k hk⟩
theorem Gt {w w' w'' : World} {b : Nat} (h : w.grownBy w' (some b)) (h2 : w'.grownBy w'' (some b)) : w.grownBy w'' (some b) :=
  ⟨h2.os.trans h.os, h2.tape.trans h.tape, h2.output.trans h.output, Nt h.size h2.size, fun k hk hne => (h2.block k (Nat.lt_of_lt_of_le hk h.size) hne).trans (h.block k hk hne)⟩
theorem Env8.later {w w' : World} {b : Nat} (h : Env8 w b) (hb : w.grownBy w' (some b)) : Env8 w' b := ⟨h.letw.later hb, h.casew.later hb, h.lam.later hb, h.name.later hb, h.con.later hb, h.num.later hb, h.back.later hb, h.opn.later hb, h.data.later hb, h.semi.later hb, h.inw.later hb, h.ofw.later hb, h.curl.later hb, h.lruc.later hb, h.arrow.later hb, h.sign.later hb, h.shut.later hb, h.eq.later hb⟩
theorem TokIn.later {w w' : World} {g o : Nat} {y : Tok} (h : TokIn w g o y) {b : Nat} (hg : g ≠ b) (hb : w.grownBy w' (some b)) : TokIn w' g o y := by
  have hn : ∀ {j}, some (⟨g, j, none⟩ : Addr).block ≠ some b := by simpa using hg
  exact ⟨hb.cell h.1 hn, hb.cell h.2.1 hn, hb.cell h.2.2.1 hn, hb.cell h.2.2.2.1 hn, hb.cell h.2.2.2.2 hn⟩
theorem RestIn.later {w w' : World} {b : Nat} {v : Value} {rest : List Tok} (h : RestIn w b v rest) (hb : w.grownBy w' (some b)) : RestIn w' b v rest := by
  obtain ⟨a, c, e, h1, h2, h3⟩ := h
  refine ⟨a, c, e, h1, h2, ?_⟩
  rcases h3 with h3 | ⟨g, o, e2, hg, ht⟩
  · exact Or.inl h3
  · exact Or.inr ⟨g, o, e2, hg, fun i hi => (ht i hi).later (Nat.ne_of_lt hg) hb⟩
theorem Rdr.later {w w' : World} {b me ma : Nat} {last : Int} {rest : List Tok} {d : Nat} (h : Rdr w b me ma last rest d) (hb : Below w.heap.size w w') : Rdr w' b me ma last rest d := by
  obtain ⟨v, hv, hr⟩ := h.c0
  have lt := Bl hv
  exact ⟨⟨v, later' hb hv, hr.later (grown_of hb)⟩, later' hb h.c1, later' hb h.c2, later' hb h.c3, later' hb h.c4, fun j => (World.frozen?_of_block (w := w) (hb.block _ (by simpa using lt))).trans (h.z j)⟩
def tokO : List Tok → Tok
  | [] => (⟨0, [], false, 0⟩, 0)
  | x :: _ => x
def TokSaid (y : Tok) (w : World) (e : Ending) (w' : World) : Prop := e = .returned (.agg #[.int .i64 y.1.k, .string (tx y.1.t), .bool y.1.f, .int .u64 y.1.x, .int .i64 y.2]) ∧ Below w.heap.size w w'
def IsSaid (v : Bool) (w : World) (e : Ending) (w' : World) : Prop := e = .returned (.bool v) ∧ Below w.heap.size w w'
theorem IsSaid.mk {u v : Bool} {w w' : World} (h : u = v) (hb : Below w.heap.size w w') : IsSaid v w (.returned (.bool u)) w' := ⟨by rw [h], hb⟩
theorem set_grown (W : World) (b o : Nat) (v : Value) : W.grownBy (W.setCell ⟨b, o, none⟩ v) (some b) :=
  ⟨rfl, rfl, rfl, by simp [World.setCell], fun k _ hne => Below.heap_setCell _ _ _ _ (fun e => hne (by simp at e; rw [e]))⟩
theorem at_oth (W : World) (b i j : Nat) (v : Value) (h : i ≠ j) : (W.setCell ⟨b, i, none⟩ v).cell? ⟨b, j, none⟩ = W.cell? ⟨b, j, none⟩ := World.cell?_setCell_other _ _ _ _ (by first | (intro e; cases e; exact h rfl) | simp [h])
theorem at_far (W : World) (b c i j : Nat) (v : Value) (h : b ≠ c) : (W.setCell ⟨b, i, none⟩ v).cell? ⟨c, j, none⟩ = W.cell? ⟨c, j, none⟩ := World.cell?_setCell_other _ _ _ _ (by first | (intro e; cases e; exact h rfl) | simp [h])
theorem at_sam {W : World} {b i : Nat} {u : Value} (v : Value) (h : W.cell? ⟨b, i, none⟩ = some u) : (W.setCell ⟨b, i, none⟩ v).cell? ⟨b, i, none⟩ = some v := World.cell?_setCell_same _ _ _ h
theorem Rdr.rest {W : World} {b me ma : Nat} {last : Int} {rest : List Tok} {d : Nat} (h : Rdr W b me ma last rest d) {v : Value} {r : List Tok} (hr : RestIn W b v r) : Rdr (W.setCell ⟨b, 0, none⟩ v) b me ma last r d := by
  obtain ⟨u, hu, -⟩ := h.c0
  exact ⟨⟨v, at_sam v hu, hr.later (set_grown ..)⟩, (at_oth _ _ _ _ _ (by decide)).trans h.c1, (at_oth _ _ _ _ _ (by decide)).trans h.c2, (at_oth _ _ _ _ _ (by decide)).trans h.c3, (at_oth _ _ _ _ _ (by decide)).trans h.c4, fun j => by simp [h.z j]⟩
theorem Rdr.line {W : World} {b me ma : Nat} {last : Int} {rest : List Tok} {d : Nat} (h : Rdr W b me ma last rest d) (l : Int) : Rdr (W.setCell ⟨b, 1, none⟩ (.int .i64 l)) b me ma l rest d := by
  obtain ⟨u, hu, hr⟩ := h.c0
  exact ⟨⟨u, (at_oth _ _ _ _ _ (by decide)).trans hu, hr.later (set_grown ..)⟩, at_sam _ h.c1, (at_oth _ _ _ _ _ (by decide)).trans h.c2, (at_oth _ _ _ _ _ (by decide)).trans h.c3, (at_oth _ _ _ _ _ (by decide)).trans h.c4, fun j => by simp [h.z j]⟩
theorem grown_new {w W : World} {b p i : Nat} (h : w.grownBy W (some b)) (hp : w.heap.size ≤ p) (v : Value) : w.grownBy (W.setCell ⟨p, i, none⟩ v) (some b) :=
  ⟨h.os, h.tape, h.output, Nt h.size (by simp [World.setCell]), fun k hk hne => (Below.heap_setCell _ _ _ _ (by simp only; omega)).trans (h.block k hk hne)⟩
theorem RestIn.over {W : World} {b p i : Nat} {v u : Value} {r : List Tok} (h : RestIn W b v r) (hp : b < p) : RestIn (W.setCell ⟨p, i, none⟩ u) b v r := by
  obtain ⟨a, c, e, h1, h2, h3⟩ := h
  refine ⟨a, c, e, h1, h2, ?_⟩
  rcases h3 with h3 | ⟨g, o, e2, hg, ht⟩
  · exact Or.inl h3
  · refine Or.inr ⟨g, o, e2, hg, fun j hj => ?_⟩
    obtain ⟨t0, t1, t2, t3, t4⟩ := ht j hj
    have hn : p ≠ g := by omega
    exact ⟨(at_far _ _ _ _ _ _ hn).trans t0, (at_far _ _ _ _ _ _ hn).trans t1, (at_far _ _ _ _ _ _ hn).trans t2, (at_far _ _ _ _ _ _ hn).trans t3, (at_far _ _ _ _ _ _ hn).trans t4⟩
theorem Rdr.over {W : World} {b me ma : Nat} {last : Int} {rest : List Tok} {d : Nat} (h : Rdr W b me ma last rest d) {p i : Nat} (hp : b < p) (u : Value) : Rdr (W.setCell ⟨p, i, none⟩ u) b me ma last rest d := by
  obtain ⟨v, hv, hr⟩ := h.c0
  have hn : p ≠ b := by omega
  exact ⟨⟨v, (at_far _ _ _ _ _ _ hn).trans hv, hr.over hp⟩, (at_far _ _ _ _ _ _ hn).trans h.c1, (at_far _ _ _ _ _ _ hn).trans h.c2, (at_far _ _ _ _ _ _ hn).trans h.c3, (at_far _ _ _ _ _ _ hn).trans h.c4, fun j => by simp [h.z j]⟩
def TookSaid (b me ma : Nat) (y : Tok) (rest : List Tok) (d : Nat) (w : World) (e : Ending) (w' : World) : Prop :=
  e = .returned (.agg #[.int .i64 y.1.k, .string (tx y.1.t), .bool y.1.f, .int .u64 y.1.x, .int .i64 y.2]) ∧ Rdr w' b me ma y.2 rest d ∧ w.grownBy w' (some b)
def Broken (er ln : Int) (e : Ending) : Prop := e = .panicked [{ v := .iface 76 (.agg #[.int .i64 er, .int .i64 ln]), recovered := false }]
def refE (er last : Int) : List Tok → Int × Int
  | [] => (17, last)
  | x :: _ => (er, x.2)
theorem refuseO_eq {α : Type} (er last : Int) (rest : List Tok) : (refuseO er last rest : Out α) = .bad (refE er last rest).1 (refE er last rest).2 := by
  cases rest <;> rfl
def BrokenSaid (p : Int × Int) (w : World) (e : Ending) (w' : World) : Prop := Broken p.1 p.2 e ∧ Below w.heap.size w w'
theorem tok_field (k : Int) (s : ByteArray) (f : Bool) (x l : Int) (W : World) :
    (Instr.field 93 (.agg #[.int .i64 k, .string s, .bool f, .int .u64 x, .int .i64 l]) 1).run Tryz.prog W = .ok (.string s) W ∧
    (Instr.field 93 (.agg #[.int .i64 k, .string s, .bool f, .int .u64 x, .int .i64 l]) 2).run Tryz.prog W = .ok (.agg #[.bool f, .int .u64 x]) W ∧
    (Instr.field 93 (.agg #[.int .i64 k, .string s, .bool f, .int .u64 x, .int .i64 l]) 3).run Tryz.prog W = .ok (.int .i64 l) W := by
  obtain ⟨fs, h, h1, h2, h3⟩ : ∃ fs, Tryz.prog.underlying 93 = some (.struct fs) ∧ (fs[1]?.map fun f => (f.type, f.offset)) = some (9, 1) ∧ (fs[2]?.map fun f => (f.type, f.offset)) = some (33, 2) ∧ (fs[3]?.map fun f => (f.type, f.offset)) = some (3, 4) := ⟨_, rfl, by kernel_rfl, by kernel_rfl, by kernel_rfl⟩
  obtain ⟨f1, e1, g1⟩ := Option.map_eq_some_iff.1 h1
  obtain ⟨f2, e2, g2⟩ := Option.map_eq_some_iff.1 h2
  obtain ⟨f3, e3, g3⟩ := Option.map_eq_some_iff.1 h3
  simp only [Prod.mk.injEq] at g1 g2 g3
  refine ⟨?_, ?_, ?_⟩
  · simp [Instr.field, run_underlying h, e1, g1.1, g1.2, part, asAgg, Tryz.isAgg9, go_sem]
  · simp [Instr.field, run_underlying h, e2, g2.1, g2.2, part, asAgg, Tryz.isAgg33, Tryz.sizeOf33, go_sem]
  · simp [Instr.field, run_underlying h, e3, g3.1, g3.2, part, asAgg, Tryz.isAgg3, go_sem]
theorem tok_field1 (k : Int) (s : ByteArray) (f : Bool) (x l : Int) (W : World) : (Instr.field 93 (.agg #[.int .i64 k, .string s, .bool f, .int .u64 x, .int .i64 l]) 1).run Tryz.prog W = .ok (.string s) W := (tok_field k s f x l W).1
theorem tok_field2 (k : Int) (s : ByteArray) (f : Bool) (x l : Int) (W : World) : (Instr.field 93 (.agg #[.int .i64 k, .string s, .bool f, .int .u64 x, .int .i64 l]) 2).run Tryz.prog W = .ok (.agg #[.bool f, .int .u64 x]) W := (tok_field k s f x l W).2.1
def OutSaid {α : Type} (b me ma d : Nat) (V : α → Ending → World → Prop) (o : Out α) (w : World) (e : Ending) (w' : World) : Prop :=
  match o with
  | .ok a l r => V a e w' ∧ Rdr w' b me ma l r d ∧ w.grownBy w' (some b)
  | .bad er ln => Broken er ln e ∧ w.grownBy w' (some b)
def TokV (y : Tok) (e : Ending) (_ : World) : Prop := e = .returned (.agg #[.int .i64 y.1.k, .string (tx y.1.t), .bool y.1.f, .int .u64 y.1.x, .int .i64 y.2])
theorem take_of {rest : List Tok} {s : Sh} (h : shapeL rest = s) (hs : s.1 ≠ 0) : ∃ y r, rest = y :: r := by
  cases rest with
  | nil =>
    exfalso
    apply hs
    rw [← h]
    rfl
  | cons y r => exact ⟨y, r, rfl⟩
theorem Rdr.over5 {W : World} {b me ma : Nat} {last : Int} {rest : List Tok} {d : Nat} (h : Rdr W b me ma last rest d) {p : Nat} (hp : b < p) (v0 v1 v2 v3 v4 : Value) : Rdr (((((W.setCell ⟨p, 0, none⟩ v0).setCell ⟨p, 1, none⟩ v1).setCell ⟨p, 2, none⟩ v2).setCell ⟨p, 3, none⟩ v3).setCell ⟨p, 4, none⟩ v4) b me ma last rest d := ((((h.over hp _).over hp _).over hp _).over hp _).over hp _
theorem grown_new5 {w W : World} {b p : Nat} (h : w.grownBy W (some b)) (hp : w.heap.size ≤ p) (v0 v1 v2 v3 v4 : Value) : w.grownBy (((((W.setCell ⟨p, 0, none⟩ v0).setCell ⟨p, 1, none⟩ v1).setCell ⟨p, 2, none⟩ v2).setCell ⟨p, 3, none⟩ v3).setCell ⟨p, 4, none⟩ v4) (some b) := grown_new (grown_new (grown_new (grown_new (grown_new h hp _) hp _) hp _) hp _) hp _
theorem own_kept {w w' : World} {base : Nat} {e : TypeId} {size : Nat} {v : Value} {n : Nat} {xs : List Value} (h : w.ownsRow base e size v n xs) {b : Nat} (hb : w.grownBy w' (some b)) (hn : v.ownBlock ≠ some b) : w'.ownsRow base e size v n xs := by
  obtain ⟨h0, h | ⟨g, cap, cur, rfl, h2, h3, h4⟩⟩ := h
  · exact ⟨h0, Or.inl h⟩
  · refine ⟨h0, Or.inr ⟨g, cap, cur, rfl, h2, ?_, h4⟩⟩
    have hg : g < w.heap.size := by
      rcases Nat.lt_or_ge g w.heap.size with h | h
      · exact h
      · rw [Array.getElem?_eq_none h] at h3; cases h3
    rw [hb.block g hg (fun e => hn (by rw [← e]; rfl))]
    exact h3
theorem RestIn.past {w w' : World} {b q : Nat} {v : Value} {rest : List Tok} (h : RestIn w b v rest) (hb : w.grownBy w' (some q)) (hq : b < q) : RestIn w' b v rest := by
  obtain ⟨a, c, e, h1, h2, h3⟩ := h
  refine ⟨a, c, e, h1, h2, ?_⟩
  rcases h3 with h3 | ⟨g, o, e2, hg, ht⟩
  · exact Or.inl h3
  · exact Or.inr ⟨g, o, e2, hg, fun i hi => (ht i hi).later (by omega) hb⟩
theorem Rdr.past {w w' : World} {b me ma q : Nat} {last : Int} {rest : List Tok} {d : Nat} (h : Rdr w b me ma last rest d) (hb : w.grownBy w' (some q)) (hq : b < q) : Rdr w' b me ma last rest d := by
  obtain ⟨v, hv, hr⟩ := h.c0
  have lt := Bl hv
  have hn : ∀ {j}, some (⟨b, j, none⟩ : Addr).block ≠ some q := by intro j e; simp at e; omega
  exact ⟨⟨v, hb.cell hv hn, hr.past hb hq⟩, hb.cell h.c1 hn, hb.cell h.c2 hn, hb.cell h.c3 hn, hb.cell h.c4 hn, fun j => (World.frozen?_of_block (w := w) (hb.block _ (by simpa using lt) (by simp; omega))).trans (h.z j)⟩
theorem grown_some {w w' : World} {o : Option Nat} {b : Nat} (hb : w.grownBy w' o) (ho : ∀ g, o = some g → b < g) : ∃ q, b < q ∧ w.grownBy w' (some q) := by
  cases o with
  | some q => exact ⟨q, ho q rfl, hb⟩
  | none => exact ⟨b + 1, by omega, hb.os, hb.tape, hb.output, hb.size, fun k hk _ => hb.block k hk (by simp)⟩
theorem grown_past {w w' w'' : World} {o : Option Nat} {b : Nat} (h : w.grownBy w' (some b)) (h2 : w'.grownBy w'' o) (ho : ∀ g, o = some g → w.heap.size ≤ g) : w.grownBy w'' (some b) :=
  ⟨h2.os.trans h.os, h2.tape.trans h.tape, h2.output.trans h.output, Nt h.size h2.size, fun k hk hne => (h2.block k (Nat.lt_of_lt_of_le hk h.size) (fun e => by have := ho k e.symm; omega)).trans (h.block k hk hne)⟩
def lenOf : Value → Nat
  | .slice _ n _ => n
  | _ => 0
theorem Tryz.info_text : (Tryz.prog.info? 9).map (fun i => (i.zero, i.size, i.bytes)) = some (some (.string ⟨#[]⟩), 1, 16) := by kernel_rfl
theorem own_shape {w : World} {base : Nat} {e : TypeId} {size : Nat} {v : Value} {n : Nat} {xs : List Value} (h : w.ownsRow base e size v n xs) : ∃ a c, v = .slice a n c ∧ ∀ g, v.ownBlock = some g → base ≤ g := by
  obtain ⟨h0, ⟨rfl, rfl⟩ | ⟨g, cap, cur, rfl, h2, h3⟩⟩ := h
  · exact ⟨_, _, rfl, fun g hg => by cases hg⟩
  · exact ⟨_, _, rfl, fun g' hg => by cases hg; exact h2⟩
def NamesSaid (b me ma d : Nat) (o : List Nm × Int × List Tok) (w : World) (e : Ending) (w' : World) : Prop :=
  ∃ v, e = .returned v ∧ Rdr w' b me ma o.2.1 o.2.2 d ∧ w.grownBy w' (some b) ∧ w'.ownsRow w.heap.size 9 1 v o.1.length (o.1.map fun x => .string (tx x))
def entries (es : List (Sh × Value)) : List MapEntry := es.zipIdx.map fun p => ⟨.agg #[.int .i64 p.1.1.1, .string (tx p.1.1.2)], p.1.2, p.2⟩
def lookSh (es : List (Sh × Value)) (s : Sh) : Option Value := (es.find? fun p => decide (p.1 = s)).map (·.2)
def KF (w : World) (m : Nat) (es : List (Sh × Value)) : Prop := ∃ es' c, w.heap[m]? = some (.map (entries es').toArray c) ∧ ∀ s, lookSh es' s = lookSh es s
theorem KF.later {w w' : World} {m b : Nat} {es : List (Sh × Value)} (h : KF w m es) (hb : w.grownBy w' (some b)) (hm : m ≠ b) : KF w' m es := by
  obtain ⟨es', c, h, hl⟩ := h
  have lt : m < w.heap.size := by
    rcases Nat.lt_or_ge m w.heap.size with h' | h'
    · exact h'
    · rw [Array.getElem?_eq_none h'] at h; cases h
  exact ⟨es', c, (hb.block m lt (by simpa using hm)).trans h, hl⟩
theorem KF.below {w w' : World} {m : Nat} {es : List (Sh × Value)} (h : KF w m es) (hb : Below w.heap.size w w') : KF w' m es := h.later (b := m + 1) (grown_of hb) (by omega)
def FormSaid (p : Int × Int) (es : List (Sh × Value)) (s : Sh) (w : World) (e : Ending) (w' : World) : Prop :=
  (∃ v, lookSh es s = some v ∧ e = .returned v ∧ Below w.heap.size w w') ∨ (lookSh es s = none ∧ Broken p.1 p.2 e ∧ Below w.heap.size w w')
def RowAt (W : World) (K : Nat → Prop) (_e : TypeId) (size : Nat) (v : Value) (n : Nat) (xs : List Value) : Prop :=
  xs.length = n * size ∧ ((v = .slice none 0 0 ∧ n = 0) ∨ ∃ g o c cur, v = .slice (some ⟨g, o, none⟩) n c ∧ K g ∧ W.heap[g]? = some (cur : Obj) ∧ n ≤ c ∧ c ≤ maxLen ∧ ∀ j u, xs[j]? = some u → W.cell? ⟨g, o + j, none⟩ = some u)
theorem RowAt.move {W W' : World} {K K' : Nat → Prop} (hK : ∀ g, K g → g < W.heap.size → K' g ∧ W'.heap[g]? = W.heap[g]?) {e : TypeId} {size : Nat} {v : Value} {n : Nat} {xs : List Value} (h : RowAt W K e size v n xs) : RowAt W' K' e size v n xs := by
  obtain ⟨h0, ⟨rfl, rfl⟩ | ⟨g, o, c, cur, rfl, hk, hc, h1, h2, h3⟩⟩ := h
  · exact ⟨h0, Or.inl ⟨rfl, rfl⟩⟩
  · have lt : g < W.heap.size := by
      rcases Nat.lt_or_ge g W.heap.size with h' | h'
      · exact h'
      · rw [Array.getElem?_eq_none h'] at hc; cases hc
    obtain ⟨k1, k2⟩ := hK g hk lt
    exact ⟨h0, Or.inr ⟨g, o, c, cur, rfl, k1, k2.trans hc, h1, h2, fun j u hj => (World.cell?_of_block (a := ⟨g, o + j, none⟩) k2).trans (h3 j u hj)⟩⟩
theorem RowAt.of {W : World} {base : Nat} {K : Nat → Prop} {e : TypeId} {size : Nat} {v : Value} {n : Nat} {xs : List Value} (h : W.ownsRow base e size v n xs) (hk : ∀ g, base ≤ g → K g) : RowAt W K e size v n xs := by
  obtain ⟨h0, ⟨rfl, rfl⟩ | ⟨g, cap, cur, rfl, hb, hc, h1, h2, -, h4⟩⟩ := h
  · exact ⟨h0, Or.inl ⟨rfl, rfl⟩⟩
  · refine ⟨h0, Or.inr ⟨g, 0, cap, _, rfl, hk g hb, hc, h1, h2, fun j u hj => ?_⟩⟩
    rw [Nat.zero_add, cell_of_row W g j cur e (0, 0) hc]
    rw [← h4] at hj
    have := List.getElem?_take (l := cur.toList) (i := n * size) (j := j)
    rw [hj] at this
    split at this
    · simpa using this.symm
    · cases this
theorem RowAt.nil (W : World) (K : Nat → Prop) (e : TypeId) (size : Nat) : RowAt W K e size (.slice none 0 0) 0 [] := ⟨by simp, Or.inl ⟨rfl, rfl⟩⟩
theorem RowAt.sl {W : World} {K : Nat → Prop} {e : TypeId} {size : Nat} {v : Value} {n : Nat} {xs : List Value} (h : RowAt W K e size v n xs) : ∃ a c, v = .slice a n c := by
  obtain ⟨_, ⟨rfl, rfl⟩ | ⟨g, o, c, cur, rfl, -⟩⟩ := h
  · exact ⟨_, _, rfl⟩
  · exact ⟨_, _, rfl⟩
theorem RowAt.slice {W : World} {K : Nat → Prop} {e : TypeId} {size : Nat} {v : Value} {n : Nat} {xs : List Value} (h : RowAt W K e size v n xs) : ∃ a n c, v = .slice a n c := by
  obtain ⟨a, c, h⟩ := h.sl
  exact ⟨a, n, c, h⟩
theorem RowAt.cap {W : World} {K : Nat → Prop} {e : TypeId} {size : Nat} {v : Value} {n : Nat} {xs : List Value} (h : RowAt W K e size v n xs) : n ≤ maxLen := by
  obtain ⟨_, ⟨rfl, rfl⟩ | ⟨g, o, c, cur, rfl, -, -, h1, h2, -⟩⟩ := h
  · exact Nat.zero_le _
  · omega
theorem RowAt.at {W : World} {K : Nat → Prop} {e : TypeId} {size : Nat} {a : Option Addr} {n c : Nat} {xs : List Value} (h : RowAt W K e size (.slice a n c) n xs) (hn : 0 < n) : ∃ g o, a = some ⟨g, o, none⟩ ∧ n ≤ c ∧ c ≤ maxLen ∧ K g ∧ ∀ j u, xs[j]? = some u → W.cell? ⟨g, o + j, none⟩ = some u := by
  obtain ⟨_, ⟨e, rfl⟩ | ⟨g, o, c', cur, e, hk, -, h1, h2, h3⟩⟩ := h
  · omega
  · cases e
    exact ⟨g, o, rfl, h1, h2, hk, h3⟩
theorem RowAt.tail {W : World} {K : Nat → Prop} {e : TypeId} {size n g o c : Nat} {cs xs : List Value} (h : RowAt W K e size (.slice (some ⟨g, o, none⟩) (n + 1) c) (n + 1) (cs ++ xs)) (hs : cs.length = size) {o' : Nat} (ho : n = 0 ∨ o' = o + size) : RowAt W K e size (.slice (some ⟨g, o', none⟩) n (c - 1)) n xs := by
  obtain ⟨h0, ⟨e, h⟩ | ⟨g', o2, c', cur, e, hk, hc, h1, h2, h3⟩⟩ := h
  · omega
  · cases e
    have hx : xs.length = n * size := by
      rw [List.length_append, Nat.succ_mul] at h0
      omega
    refine ⟨hx, Or.inr ⟨g, o', c - 1, cur, rfl, hk, hc, by omega, by omega, fun j u hj => ?_⟩⟩
    rcases ho with rfl | rfl
    · rw [Nat.zero_mul] at hx
      cases xs with
      | nil => cases hj
      | cons x xs => simp at hx
    · have := h3 (size + j) u (by rw [List.getElem?_append_right (by omega), hs, Nat.add_sub_cancel_left]; exact hj)
      rwa [← Nat.add_assoc] at this
def namesV (l : List Nm) : List Value := l.map fun x => .string (tx x)
mutual
inductive ExAt (W : World) (K : Nat → Prop) : Ex → List Value → Prop
  | mk (k : Int) (n : Nm) (f : Bool) (x : Int) (ps : List Nm) (ks : List Ex) (bs : List Bnd) (al : List Alt) (vp vk vb va : Value) (xk xb xa : List Value)
    (hp : RowAt W K 9 1 vp ps.length (namesV ps)) (hk : RowAt W K 37 8 vk ks.length xk) (hb : RowAt W K 39 10 vb bs.length xb) (ha : RowAt W K 56 13 va al.length xa)
    (tk : ExsAt W K ks xk) (tb : BndsAt W K bs xb) (ta : AltsAt W K al xa) : ExAt W K (.mk k n f x ps ks bs al) [.int .i64 k, .string (tx n), .bool f, .int .u64 x, vp, vk, vb, va]
inductive ExsAt (W : World) (K : Nat → Prop) : List Ex → List Value → Prop
  | nil : ExsAt W K [] []
  | cons (e : Ex) (es : List Ex) (cs xs : List Value) (h : ExAt W K e cs) (t : ExsAt W K es xs) : ExsAt W K (e :: es) (cs ++ xs)
inductive BndsAt (W : World) (K : Nat → Prop) : List Bnd → List Value → Prop
  | nil : BndsAt W K [] []
  | cons (n : Nm) (ps : List Nm) (e : Ex) (bs : List Bnd) (vp : Value) (cs xs : List Value) (hp : RowAt W K 9 1 vp ps.length (namesV ps)) (h : ExAt W K e cs) (t : BndsAt W K bs xs) : BndsAt W K ((n, ps, e) :: bs) (.string (tx n) :: vp :: cs ++ xs)
inductive AltsAt (W : World) (K : Nat → Prop) : List Alt → List Value → Prop
  | nil : AltsAt W K [] []
  | cons (k : Int) (n : Nm) (f : Bool) (x : Int) (ps : List Nm) (e : Ex) (al : List Alt) (vp : Value) (cs xs : List Value) (hp : RowAt W K 9 1 vp ps.length (namesV ps)) (h : ExAt W K e cs) (t : AltsAt W K al xs) : AltsAt W K ((k, n, f, x, ps, e) :: al) (.int .i64 k :: .string (tx n) :: .bool f :: .int .u64 x :: vp :: cs ++ xs)
end
theorem ExAt.move {W W' : World} {K K' : Nat → Prop} (hK : ∀ g, K g → g < W.heap.size → K' g ∧ W'.heap[g]? = W.heap[g]?) {e : Ex} {cs : List Value} (h : ExAt W K e cs) : ExAt W' K' e cs :=
  ExAt.rec (motive_1 := fun e cs _ => ExAt W' K' e cs) (motive_2 := fun es xs _ => ExsAt W' K' es xs) (motive_3 := fun bs xs _ => BndsAt W' K' bs xs) (motive_4 := fun al xs _ => AltsAt W' K' al xs)
    (fun k n f x ps ks bs al vp vk vb va xk xb xa hp hk hb ha _ _ _ t1 t2 t3 => .mk k n f x ps ks bs al vp vk vb va xk xb xa (hp.move hK) (hk.move hK) (hb.move hK) (ha.move hK) t1 t2 t3)
    .nil (fun e es cs xs _ _ h t => .cons e es cs xs h t) .nil (fun n ps e bs vp cs xs hp _ _ h t => .cons n ps e bs vp cs xs (hp.move hK) h t) .nil (fun k n f x ps e al vp cs xs hp _ _ h t => .cons k n f x ps e al vp cs xs (hp.move hK) h t) h
theorem ExsAt.move {W W' : World} {K K' : Nat → Prop} (hK : ∀ g, K g → g < W.heap.size → K' g ∧ W'.heap[g]? = W.heap[g]?) : ∀ {es : List Ex} {xs : List Value}, ExsAt W K es xs → ExsAt W' K' es xs
  | [], _, .nil => .nil
  | e :: es, _, .cons _ _ cs xs h t => .cons e es cs xs (h.move hK) (t.move hK)
theorem BndsAt.move {W W' : World} {K K' : Nat → Prop} (hK : ∀ g, K g → g < W.heap.size → K' g ∧ W'.heap[g]? = W.heap[g]?) : ∀ {bs : List Bnd} {xs : List Value}, BndsAt W K bs xs → BndsAt W' K' bs xs
  | [], _, .nil => .nil
  | _ :: _, _, .cons n ps e bs vp cs xs hp h t => .cons n ps e bs vp cs xs (hp.move hK) (h.move hK) (t.move hK)
theorem AltsAt.move {W W' : World} {K K' : Nat → Prop} (hK : ∀ g, K g → g < W.heap.size → K' g ∧ W'.heap[g]? = W.heap[g]?) : ∀ {al : List Alt} {xs : List Value}, AltsAt W K al xs → AltsAt W' K' al xs
  | [], _, .nil => .nil
  | _ :: _, _, .cons k n f x ps e al vp cs xs hp h t => .cons k n f x ps e al vp cs xs (hp.move hK) (h.move hK) (t.move hK)
theorem ExsAt.snoc {W : World} {K : Nat → Prop} : ∀ {es : List Ex} {xs : List Value} {e : Ex} {cs : List Value}, ExsAt W K es xs → ExAt W K e cs → ExsAt W K (es ++ [e]) (xs ++ cs)
  | [], _, e, cs, .nil, h => by simpa using ExsAt.cons e [] cs [] h .nil
  | e0 :: es, _, e, cs, .cons _ _ c0 x0 h0 t0, h => by simpa [List.append_assoc] using ExsAt.cons e0 _ c0 _ h0 (t0.snoc h)
def ExV (lo : Nat) (x : Ex) (e : Ending) (w : World) : Prop :=
  ∃ k n f u vp vk vb va, e = .returned (.agg #[.int .i64 k, .string n, .bool f, .int .u64 u, vp, vk, vb, va]) ∧ ExAt w (fun g => lo ≤ g) x [.int .i64 k, .string n, .bool f, .int .u64 u, vp, vk, vb, va]
theorem ExAt.leaf (W : World) (K : Nat → Prop) (k : Int) (n : Nm) : ExAt W K (.leaf k n) [.int .i64 k, .string (tx n), .bool false, .int .u64 0, .slice none 0 0, .slice none 0 0, .slice none 0 0, .slice none 0 0] :=
  .mk k n false 0 [] [] [] [] _ _ _ _ [] [] [] (RowAt.nil _ _ _ _) (RowAt.nil _ _ _ _) (RowAt.nil _ _ _ _) (RowAt.nil _ _ _ _) .nil .nil .nil
theorem ExAt.num (W : World) (K : Nat → Prop) (f : Bool) (x : Int) : ExAt W K (.num f x) [.int .i64 3, .string (tx []), .bool f, .int .u64 x, .slice none 0 0, .slice none 0 0, .slice none 0 0, .slice none 0 0] :=
  .mk 3 [] f x [] [] [] [] _ _ _ _ [] [] [] (RowAt.nil _ _ _ _) (RowAt.nil _ _ _ _) (RowAt.nil _ _ _ _) (RowAt.nil _ _ _ _) .nil .nil .nil
abbrev TB : TypeId := 60
theorem b_size : (Tryz.prog.info? TB).map (·.size) = some 2 := by kernel_rfl
theorem b_lies : liesAt Tryz.prog Tryz.prog.depth TB (2 / Tryz.prog.cellsOf TB) 0 TB 1 = true := by kernel_rfl
theorem bcc_used (b : Nat) (w : World) (h0 : w.cell? ⟨b, 0, none⟩ = some (.pointer (some ⟨b, 0, none⟩))) :
    Calls Tryz.prog 39 #[.pointer (some ⟨b, 0, none⟩)] w fun e w' => e = .returned (.tuple #[]) ∧ w' = w := by
  obtain ⟨j, hj, _⟩ := Option.map_eq_some_iff.1 b_size
  go_enter Tryz.func39, Tryz.ntmps39
  go_wp2
  rw [Lib.run_neq_ptr_same w _ Tryz.underlying57 hj]
  go_wp2
  go_end0
  exact ⟨rfl, rfl⟩
theorem bcc_fresh (b : Nat) (w : World) (h0 : w.cell? ⟨b, 0, none⟩ = some (.pointer none)) (hsh : w.shape? b = some (TB, 2)) (hfz : w.frozen? ⟨b, 0, none⟩ = false) :
    Calls Tryz.prog 39 #[.pointer (some ⟨b, 0, none⟩)] w fun e w' => e = .returned (.tuple #[]) ∧ w' = w.setCell ⟨b, 0, none⟩ (.pointer (some ⟨b, 0, none⟩)) := by
  obtain ⟨j, hj, hjs⟩ := Option.map_eq_some_iff.1 b_size
  go_enter Tryz.func39, Tryz.ntmps39
  go_wp2
  rw [Lib.run_to_unsafe w ⟨b, 0, none⟩ Tryz.underlying57 Tryz.underlying115 hj (by rw [hjs]; decide) hsh (Nat.zero_lt_succ 1)]
  simp only [Result.andThen]
  rw [Oper.upon_value]
  go_wp2
  rw [run_callFunc_extern Tryz.func69 (by kernel_rfl) (by kernel_rfl) (by kernel_rfl) (e := Extern.AbiNoEscape.same) (by kernel_rfl)]
  rw [Lib.run_noEscape]
  simp only [Result.andThen]
  rw [Oper.upon_value]
  go_wp2
  rw [Lib.run_from_unsafe w ⟨b, 0, none⟩ Tryz.underlying115 Tryz.underlying57 hj hsh b_lies]
  simp only [Result.andThen]
  rw [Oper.upon_value]
  go_wp2
  go_end0
  exact ⟨rfl, rfl⟩
theorem bcc_any (B b : Nat) (bs : List Value) (w : World) (h : Lib.IsBuilder TB 5 B b bs w) :
    Calls Tryz.prog 39 #[.pointer (some ⟨b, 0, none⟩)] w fun e w' => e = .returned (.tuple #[]) ∧ (Lib.BuilderAt TB 5 B b (.pointer (some ⟨b, 0, none⟩)) bs w' ∧ Below B w w') := by
  rcases h with h | h
  · refine (bcc_fresh b w h.cell0 h.shape h.frozen0).mono ?_
    rintro e w' ⟨rfl, rfl⟩
    exact ⟨rfl, h.used _, (Below.refl B w).setCell (p := ⟨b, 0, none⟩) h.1 _⟩
  · refine (bcc_used b w h.cell0).mono ?_
    rintro e w' ⟨rfl, rfl⟩
    exact ⟨rfl, h, Below.refl B _⟩
theorem b_byte : (Tryz.prog.info? 5).map (fun i => (i.zero, i.size, i.bytes)) = some (some (.int .u8 0), 1, 1) := by kernel_rfl
theorem ws_any (B b : Nat) (bs : List Value) (s : ByteArray) (w : World) (h : Lib.IsBuilder TB 5 B b bs w) (hlen : bs.length + s.size ≤ 140737488355328) (hBw : B ≤ w.heap.size) :
    Calls Tryz.prog 23 #[.pointer (some ⟨b, 0, none⟩), .string s] w fun e w' => e = .returned (.tuple #[.int .i64 s.size, .nilIface]) ∧ (Lib.BuilderAt TB 5 B b (.pointer (some ⟨b, 0, none⟩)) (bs ++ Lib.strCells s) w' ∧ Below B w w') := by
  obtain ⟨i0, hi, hz0, hz1, hz2⟩ := info_parts b_byte
  have HC := Hd (bcc_any B b bs w h)
  go_enter Tryz.func23, Tryz.ntmps23
  go_wp2_with fail
  refine HC.out.mono ?_
  rintro e w1 ⟨rfl, h1, hb1⟩
  obtain ⟨hB, v, hbk, hown, hne⟩ := h1
  have c0 : w1.cell? ⟨b, 0, none⟩ = some (.pointer (some ⟨b, 0, none⟩)) := by rw [Lib.cell_of_heap hbk]; rfl
  have c1 : w1.cell? ⟨b, 1, none⟩ = some v := by rw [Lib.cell_of_heap hbk]; rfl
  go_wp2_with (at_builtin; refine Lib.wpList_append_own_string _ rfl _ _ 58 9 rfl B 5 i0 Tryz.underlying58 Tryz.underlying9 hi hz0 hz1 hz2 _ _ _ rfl hown s rfl ?c3 ?c4 ?c5 ?_)
  case c3 => unfold maxLen; omega
  case c4 => omega
  case c5 => have := hb1.size; omega
  intro v' w2 hown' hgrow _
  have hlt : b < w1.heap.size := by
    rcases Nat.lt_or_ge b w1.heap.size with h' | h'
    · exact h'
    · simp [Array.getElem?_eq_none h'] at hbk
  have hb2 : w2.heap[b]? = some (.cells #[.pointer (some ⟨b, 0, none⟩), v] TB (0, 0)) := by
    rw [hgrow.block b hlt (fun e => hne e.symm)]
    exact hbk
  have d0 : w2.cell? ⟨b, 0, none⟩ = some (.pointer (some ⟨b, 0, none⟩)) := by rw [Lib.cell_of_heap hb2]; rfl
  have d1 : w2.cell? ⟨b, 1, none⟩ = some v := by rw [Lib.cell_of_heap hb2]; rfl
  have f1 : w2.frozen? ⟨b, 1, none⟩ = false := Lib.frozen_of_heap hb2 1
  obtain ⟨ao, n', cap, rfl⟩ : ∃ ao n' cap, v' = .slice ao n' cap := by
    rcases hown'.2 with ⟨hv, _⟩ | ⟨g, cap, cur, hv, _⟩
    · exact ⟨_, _, _, hv⟩
    · exact ⟨_, _, _, hv⟩
  go_wp2
  go_ret2
  refine ⟨rfl, ?_, ?_⟩
  · exact Lib.BuilderAt.put (T := TB) (e := 5) hB hb2 (bs' := bs ++ Lib.strCells s) (by simpa [Lib.strCells_length] using hown') (by decide)
  · exact (hb1.grown hgrow (by have := hb1.size; omega) (fun k hk => (hown.lt k hk).1)).setCell (p := ⟨b, 1, none⟩) hB _
def Box8 (p : Nat) (w3 : World) : Prop := w3.cell? ⟨p, 0, none⟩ = some (.int .i64 0) ∧ w3.cell? ⟨p, 1, none⟩ = some (.string ⟨#[]⟩) ∧ w3.cell? ⟨p, 2, none⟩ = some (.bool false) ∧ w3.cell? ⟨p, 3, none⟩ = some (.int .u64 0) ∧ w3.cell? ⟨p, 4, none⟩ = some (.slice none 0 0) ∧ w3.cell? ⟨p, 5, none⟩ = some (.slice none 0 0) ∧ w3.cell? ⟨p, 6, none⟩ = some (.slice none 0 0) ∧ w3.cell? ⟨p, 7, none⟩ = some (.slice none 0 0) ∧ w3.frozen? ⟨p, 0, none⟩ = false ∧ w3.frozen? ⟨p, 1, none⟩ = false ∧ w3.frozen? ⟨p, 2, none⟩ = false ∧ w3.frozen? ⟨p, 3, none⟩ = false ∧ w3.frozen? ⟨p, 4, none⟩ = false ∧ w3.frozen? ⟨p, 5, none⟩ = false ∧ w3.frozen? ⟨p, 6, none⟩ = false ∧ w3.frozen? ⟨p, 7, none⟩ = false
def meth (f b : Nat) : Value := .func (.func f) #[.pointer (some ⟨b, 0, none⟩)] #[]
def namer (k r : Nat) : Value := .func (.func 87) #[] #[.pointer (some ⟨k, 0, none⟩), .pointer (some ⟨r, 0, none⟩)]
structure Bx where
  k1 : Nat
  r1 : Nat
  k2 : Nat
  r2 : Nat
  k3 : Nat
  r3 : Nat
def exprForms (b : Nat) : List (Sh × Value) := [(sLet, meth 44 b), (sCase, meth 45 b), (sLam, meth 46 b), (sName, meth 47 b), (sCon, meth 47 b), (sNum, meth 47 b), (sBack, meth 47 b), (sOpen, meth 47 b)]
def atomForms (b : Nat) (B : Bx) : List (Sh × Value) := [(sName, namer B.k1 B.r1), (sCon, namer B.k2 B.r2), (sNum, meth 49 b), (sBack, namer B.k3 B.r3), (sOpen, meth 50 b)]
def BoxAt (W : World) (b k r : Nat) (kind : Int) : Prop := W.cell? ⟨k, 0, none⟩ = some (.int .i64 kind) ∧ W.cell? ⟨r, 0, none⟩ = some (.pointer (some ⟨b, 0, none⟩)) ∧ k ≠ b ∧ r ≠ b
theorem BoxAt.later {W W' : World} {b k r : Nat} {kind : Int} (h : BoxAt W b k r kind) (hb : W.grownBy W' (some b)) : BoxAt W' b k r kind :=
  ⟨hb.cell h.1 (by simpa using h.2.2.1), hb.cell h.2.1 (by simpa using h.2.2.2), h.2.2⟩
structure Ctx (W : World) (b me ma : Nat) (B : Bx) : Prop where
  env : Env8 W b
  ex : KF W me (exprForms b)
  at' : KF W ma (atomForms b B)
  ne : me ≠ b
  na : ma ≠ b
  b1 : BoxAt W b B.k1 B.r1 1
  b2 : BoxAt W b B.k2 B.r2 2
  b3 : BoxAt W b B.k3 B.r3 5
theorem Ctx.later {W W' : World} {b me ma : Nat} {B : Bx} (h : Ctx W b me ma B) (hb : W.grownBy W' (some b)) : Ctx W' b me ma B :=
  ⟨h.env.later hb, h.ex.later hb h.ne, h.at'.later hb h.na, h.ne, h.na, h.b1.later hb, h.b2.later hb, h.b3.later hb⟩
def ExprC (b me ma : Nat) (B : Bx) (n d : Nat) : Prop :=
  ∀ (last : Int) (rest : List Tok) (W : World), rest.length < n → rest.length ≤ 4096 → Ctx W b me ma B → Rdr W b me ma last rest d → Calls Tryz.prog 80 #[.pointer (some ⟨b, 0, none⟩)] W (OutSaid b me ma d (ExV W.heap.size) (exprO n d last rest) W)
theorem ExAt.slices {W : World} {K : Nat → Prop} {x : Ex} {k n f u vp vk vb va : Value} (h : ExAt W K x [k, n, f, u, vp, vk, vb, va]) : (∃ a n c, vp = .slice a n c) ∧ (∃ a n c, vk = .slice a n c) ∧ (∃ a n c, vb = .slice a n c) ∧ (∃ a n c, va = .slice a n c) := by
  cases h with
  | mk _ _ _ _ _ _ _ _ _ _ _ _ _ _ _ hp hk hb ha => exact ⟨hp.slice, hk.slice, hb.slice, ha.slice⟩
theorem atomO_none {ex : Par Ex} {last : Int} {rest : List Tok} (h : shapeL rest ≠ sName ∧ shapeL rest ≠ sCon ∧ shapeL rest ≠ sNum ∧ shapeL rest ≠ sBack ∧ shapeL rest ≠ sOpen) : atomO ex last rest = .bad (refE 3 last rest).1 (refE 3 last rest).2 := by
  unfold atomO
  rw [if_neg h.1, if_neg h.2.1, if_neg h.2.2.1, if_neg h.2.2.2.1, if_neg h.2.2.2.2, refuseO_eq]
theorem Tryz.info_expr : (Tryz.prog.info? 37).map (fun i => (i.zero, i.size, i.bytes)) = some (some (.agg #[.int .i64 0, .string ⟨#[]⟩, .bool false, .int .u64 0, .slice none 0 0, .slice none 0 0, .slice none 0 0, .slice none 0 0]), 8, 136) := by kernel_rfl
def ExsV (lo : Nat) (xs : List Ex) (e : Ending) (w : World) : Prop := ∃ v cs, e = .returned v ∧ w.ownsRow lo 37 8 v xs.length cs ∧ ExsAt w (fun g => lo ≤ g) xs cs
end Go.Proofs.YthehgcmhcioffaaGreatDoor
