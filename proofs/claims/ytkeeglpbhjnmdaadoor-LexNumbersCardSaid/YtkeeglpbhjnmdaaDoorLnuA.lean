/- A number, as a source has it, is one token. -/
import Derived.Test.YtkeeglpbhjnmdaaDoorLinV
import Derived.Test.YtkeeglpbhjnmdaaDoorLxT
import Derived.Test.YtkeeglpbhjnmdaaDoorTextF
import Derived.Deep.QuietTactic
import Derived.BigQuiet
namespace Go.Proofs.YtkeeglpbhjnmdaaDoor
open Go.RowKit Go.Lib

theorem hd_in : ∀ d : Fin 16, inRun (hdB d.val) = true ∧ (d.val < 10 → dgB (hdB d.val) = true) := by decide +kernel
theorem digs_in (b : Nat) (h2 : 2 ≤ b) (h16 : b ≤ 16) (n : Nat) : (∀ c, c ∈ digs b n → inRun c = true ∧ (b ≤ 10 → dgB c = true)) ∧ digs b n ≠ [] := by
  induction n using Nat.strongRecOn with
  | ind n ih =>
    rw [digs]
    have hl : n % b < b := Nat.mod_lt _ (by omega)
    have hh := hd_in ⟨n % b, by omega⟩
    split
    · refine ⟨fun c hc => ?_, by simp⟩
      rw [List.mem_singleton] at hc
      subst hc
      exact ⟨hh.1, fun h10 => hh.2 (by show n % b < 10; omega)⟩
    · refine ⟨fun c hc => ?_, by simp⟩
      rcases List.mem_append.1 hc with hc | hc
      · exact (ih (n / b) (Nat.div_lt_self (by omega) (by omega))).1 c hc
      · rw [List.mem_singleton] at hc
        subst hc
        exact ⟨hh.1, fun h10 => hh.2 (by show n % b < 10; omega)⟩

/-- A number as a source has it. -/
def srcL (f : Bool) (x : Int) : List UInt8 := if (printL f x).head? = some 45 then 35 :: printL f x else printL f x
theorem run_all : ∀ (l : List UInt8), (∀ c, c ∈ l → inRun c = true) → runL l = l
  | [], _ => rfl
  | c :: l, h => by
    rw [run_cons, if_pos (h c (List.mem_cons_self ..)), run_all l fun d hd => h d (List.mem_cons_of_mem _ hd)]

/-- What a number's text looks like: digits ahead, or a minus and digits. -/
theorem print_form (f : Bool) (x : Int) (h0 : 0 ≤ x) (h1 : x < 18446744073709551616) :
    (∃ c r, printL f x = c :: r ∧ dgB c = true ∧ ∀ d, d ∈ c :: r → inRun d = true) ∨ (∃ r, printL f x = 45 :: r ∧ r ≠ [] ∧ ∀ d, d ∈ r → inRun d = true) := by
  obtain ⟨n, rfl⟩ : ∃ n : Nat, x = n := ⟨x.toNat, by omega⟩
  cases f with
  | true =>
    left
    have ht := (flt_text n (by omega)).2
    have hp : printL true (n : Int) = fltL n := by simp [printL]
    rw [hp, ← ht]
    refine ⟨48, _, rfl, by decide, fun d hd => ?_⟩
    rcases List.mem_cons.1 hd with rfl | hd
    · decide
    rcases List.mem_cons.1 hd with rfl | hd
    · decide
    rcases List.mem_append.1 hd with hd | hd
    · rw [(List.mem_replicate.1 hd).2]; decide
    · exact ((digs_in 16 (by omega) (by omega) n).1 d hd).1
  | false =>
    have hp : printL false (n : Int) = itoa (wrap64 n) := by simp [printL]
    rw [hp]
    by_cases g : n < 9223372036854775808
    · left
      rw [← int_text_up n g]
      obtain ⟨hd, hne⟩ := digs_in 10 (by omega) (by omega) n
      cases hc : digs 10 n with
      | nil => exact absurd hc hne
      | cons c r =>
        rw [hc] at hd
        exact ⟨c, r, rfl, (hd c (List.mem_cons_self ..)).2 (by omega), fun d h => (hd d h).1⟩
    · right
      rw [← int_text_down n (by omega) (by omega)]
      obtain ⟨hd, hne⟩ := digs_in 10 (by omega) (by omega) (18446744073709551616 - n)
      exact ⟨_, rfl, hne, fun d h => (hd d h).1⟩

theorem numT_good {t : List UInt8} {f : Bool} {x : Int} (h : parseL (trimPrefix t [35]) = (f, x, 0)) : numT t = (⟨3, t, f, x⟩, 0) := by
  unfold numT
  rw [h]
  rfl
theorem no_trim {c : UInt8} {r : List UInt8} (h : c ≠ 35) : trimPrefix (c :: r) [35] = c :: r := by
  unfold trimPrefix
  rw [if_neg]
  rw [has35_iff]
  exact h

/-- ITS TEXT IS ONE TOKEN, OF THAT NUMBER. -/
theorem src_own (f : Bool) (x : Int) (h0 : 0 ≤ x) (h1 : x < 18446744073709551616) : Own ⟨3, srcL f x, f, x⟩ := by
  have hth := there f x h0 h1
  rcases print_form f x h0 h1 with ⟨c, r, e, hc, hall⟩ | ⟨r, e, hne, hall⟩
  · have hcn : c ≠ 45 ∧ c ≠ 35 ∧ c ≠ 10 ∧ ¬ (c = 9 ∨ c = 13 ∨ c = 32) := by
      rw [dgB_iff] at hc
      unfold Dg at hc
      refine ⟨?_, ?_, ?_, ?_⟩
      · rintro rfl; revert hc; decide
      · rintro rfl; revert hc; decide
      · rintro rfl; revert hc; decide
      · rintro (rfl | rfl | rfl) <;> (revert hc; decide)
    have es : srcL f x = c :: r := by
      unfold srcL
      rw [e, if_neg]
      simp only [List.head?_cons, Option.some.injEq]
      exact hcn.1
    refine ⟨c, r, es, hcn.2.2.1, hcn.2.2.2, ?_, ?_⟩
    · show hasPrefix (srcL f x) [45, 45] = false
      rw [es, has_cons]
      have : (45 == c) = false := by simpa using Ne.symm hcn.1
      rw [this, Bool.false_and]
    · show readL (srcL f x) = _
      rw [es, one_read]
      have hs : smB c = false ∧ cpB c = false := by
        rw [dgB_iff] at hc
        unfold Dg at hc
        constructor
        · exact decide_eq_false (by omega)
        · exact decide_eq_false (by omega)
      unfold oneL
      rw [if_neg (by rw [hs.1, hs.2]; decide), if_pos hc, run_all _ hall]
      refine numT_good ?_
      rw [no_trim hcn.2.1, ← e, hth]
  · have es : srcL f x = 35 :: 45 :: r := by
      unfold srcL
      rw [e]
      rfl
    refine ⟨35, 45 :: r, es, by decide, by decide, ?_, ?_⟩
    · show hasPrefix (srcL f x) [45, 45] = false
      rw [es, has_cons]
      rfl
    · show readL (srcL f x) = _
      rw [es, one_read]
      have et : trimPrefix (45 :: r) [45] = r := by simp [trimPrefix, hasPrefix]
      unfold oneL
      rw [if_neg (by decide), if_neg (by decide), if_pos rfl, et, run_all _ hall, if_neg hne, marked_minus, run_all _ hall]
      refine numT_good ?_
      have e2 : trimPrefix (35 :: 45 :: r) [35] = 45 :: r := by simp [trimPrefix, hasPrefix]
      rw [e2, ← e, hth]

theorem own_a : Own ⟨1, [97], false, 0⟩ := ⟨97, [], rfl, by decide, by decide, by decide, by kernel_rfl⟩
theorem own_b : Own ⟨1, [98], false, 0⟩ := ⟨98, [], rfl, by decide, by decide, by decide, by kernel_rfl⟩
theorem lexL_one {y : Tk} (h : Own y) : lexL y.t = .good [(y, 1)] := by
  unfold lexL
  rw [last_own h _ _ _ (by simp)]
  rfl
theorem lexL_three {y a b : Tk} (h : Own y) (ha : Own a) (hb : Own b) : lexL (a.t ++ 32 :: (y.t ++ 32 :: b.t)) = .good [(a, 1), (y, 1), (b, 1)] := by
  have hpos : ∀ z : Tk, Own z → 1 ≤ z.t.length := fun z hz => by
    obtain ⟨c, r, ht, _⟩ := hz
    rw [ht]
    simp
  have p1 := hpos a ha
  have p2 := hpos y h
  have p3 := hpos b hb
  unfold lexL
  rw [fuel _ ((a.t ++ 32 :: (y.t ++ 32 :: b.t)).length + 5 + 1) _ _ _ (by omega) (by omega)]
  rw [take_own ha _ (Or.inl rfl) _ _ _ (by simp), skip_32, take_own h _ (Or.inl rfl) _ _ _ (by simp), skip_32, last_own hb _ _ _ (by simp)]
  rfl

theorem numbers_tail (f : Bool) (x : Int) (h0 : 0 ≤ x) (h1 : x < 18446744073709551616) (S : ByteArray) (hS : S.data.toList = srcL f x) : 
    lexL S.data.toList = .good [(⟨3, srcL f x, f, x⟩, 1)] ∧ lexL (⟨#[97, 32]⟩ ++ S ++ ⟨#[32, 98]⟩ : ByteArray).data.toList = .good [(⟨1, [97], false, 0⟩, 1), (⟨3, srcL f x, f, x⟩, 1), (⟨1, [98], false, 0⟩, 1)] := by
  have ho := src_own f x h0 h1
  refine ⟨by rw [hS]; exact lexL_one ho, ?_⟩
  have e : (⟨#[97, 32]⟩ ++ S ++ ⟨#[32, 98]⟩ : ByteArray).data.toList = [97] ++ 32 :: (srcL f x ++ 32 :: [98]) := by rw [cat_list, cat_list, hS]; simp
  rw [e]
  exact lexL_three (a := ⟨1, [97], false, 0⟩) (b := ⟨1, [98], false, 0⟩) (y := ⟨3, srcL f x, f, x⟩) ho own_a own_b
theorem src_len (f : Bool) (x : Int) (h0 : 0 ≤ x) (h1 : x < 18446744073709551616) : (srcL f x).length ≤ 1001 := by
  have := print_len f x h0 h1
  unfold srcL
  split
  · rw [List.length_cons]; omega
  · omega

end Go.Proofs.YtkeeglpbhjnmdaaDoor
