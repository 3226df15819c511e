/- Contracts of the document's own answers, the small ones: what each returns. -/
import Derived.Test.YtkipioojdlkbcaaDoorNumA
import Derived.Test.YtkipioojdlkbcaaDoorFloatB
import Derived.LoopTactic
import Derived.Lib.Hide
namespace Go.Proofs.YtkipioojdlkbcaaDoor
open Go.RowKit

theorem ret_u {k : IntKind} {a b : Int} (h : a = b) : Ending.returned (.int k a) = .returned (.int k b) := by rw [h]

set_option maxHeartbeats 1000000 in
theorem r_size (n : Int) (w : World) (h : -9223372036854775808 ≤ n ∧ n ≤ 9223372036854775807) :
    Calls Tryd.prog 73 #[.int .i64 n] w fun e w' => e = .returned (.int .u64 (n.natAbs : Int)) ∧ Below w.heap.size w w' := by
  obtain ⟨h1, h2⟩ := h
  by_cases hn : n < 0
  · go_enter Tryd.func73, Tryd.ntmps73
    go_wp2
    go_ret
    exact ⟨ret_u (by omega), Below.refl _ _⟩
  · go_enter Tryd.func73, Tryd.ntmps73
    go_wp2
    go_ret
    exact ⟨ret_u (by omega), Below.refl _ _⟩

theorem ret_b {a b : Bool} (h : a = b) : Ending.returned (.bool a) = .returned (.bool b) := by rw [h]

/-- What holds of the product's three variables. -/
def PI (A B out a b : Nat) : Prop := (out + a * b) % 18446744073709551616 = A * B % 18446744073709551616 ∧ out < 18446744073709551616 ∧ a < 18446744073709551616 ∧ b < 18446744073709551616

theorem PI_odd {A B out a b : Nat} (h : PI A B out a b) (hb : b % 2 = 1) : PI A B ((out + a) % 18446744073709551616) ((a + a) % 18446744073709551616) (b / 2) := by
  obtain ⟨h1, h2, h3, h4⟩ := h
  refine ⟨?_, by omega, by omega, by omega⟩
  rw [← h1, Nat.add_mod, Nat.mod_mod, Nat.mul_mod, Nat.mod_mod, ← Nat.mul_mod, ← Nat.add_mod]
  congr 1
  have e : b = 2 * (b / 2) + 1 := by omega
  conv => rhs; rw [e]
  rw [Nat.mul_add, Nat.mul_one, ← Nat.mul_assoc, Nat.mul_two]
  omega

theorem PI_even {A B out a b : Nat} (h : PI A B out a b) (hb : b % 2 = 0) : PI A B out ((a + a) % 18446744073709551616) (b / 2) := by
  obtain ⟨h1, h2, h3, h4⟩ := h
  refine ⟨?_, by omega, by omega, by omega⟩
  rw [← h1, Nat.add_mod, Nat.mul_mod, Nat.mod_mod, ← Nat.mul_mod, ← Nat.add_mod]
  congr 1
  have e : b = 2 * (b / 2) := by omega
  conv => rhs; rw [e]
  rw [← Nat.mul_assoc, Nat.mul_two]

set_option maxHeartbeats 1000000 in
theorem r_product (a b : Nat) (w : World) (ha : a < 18446744073709551616) (hb : b < 18446744073709551616) :
    Calls Tryd.prog 53 #[.int .u64 a, .int .u64 b] w fun e w' => e = .returned (.int .u64 ((a * b % 18446744073709551616 : Nat) : Int)) ∧ Below w.heap.size w w' := by
  go_enter Tryd.func53, Tryd.ntmps53
  go_wp2
  have hs : PI a b 0 a b := ⟨by rw [Nat.zero_add], by decide, ha, hb⟩
  go_loop [0, 1, 5] (fun va vb vo => ∃ x y o : Nat, va = .int .u64 x ∧ vb = .int .u64 y ∧ vo = .int .u64 o ∧ PI a b o x y) (fun _ vb _ => (intOf vb).toNat)
  case atStart => exact ⟨a, b, 0, rfl, rfl, rfl, hs⟩
  case round =>
    obtain ⟨x, y, o, rfl, rfl, rfl, hI⟩ := hrel
    have HI := Lib.hid hI
    have hx : (x : Int) < 18446744073709551616 := by have := hI.2.2.1; omega
    have hy : (y : Int) < 18446744073709551616 := by have := hI.2.2.2; omega
    have ho : (o : Int) < 18446744073709551616 := by have := hI.2.1; omega
    clear hI hs ha hb
    by_cases h0 : 0 < y
    · by_cases h2 : y % 2 = 1
      · have h2' : ((y : Int) % 2 == 1) = true := by rw [beq_iff_eq]; omega
        have H2 := Lib.hid h2
        clear h2
        go_wp2
        exact ⟨⟨_, _, _, congrArg (Value.int .u64) (by rw [IntKind.wrap_u64]; omega), congrArg (Value.int .u64) (by omega), congrArg (Value.int .u64) (by rw [IntKind.wrap_u64]; omega), PI_odd HI.out H2.out⟩, by simp [intOf]; omega⟩
      · have h2' : ((y : Int) % 2 == 1) = false := by rw [beq_eq_false_iff_ne]; omega
        have H2 := Lib.hid h2
        clear h2
        go_wp2
        exact ⟨⟨_, _, _, congrArg (Value.int .u64) (by rw [IntKind.wrap_u64]; omega), congrArg (Value.int .u64) (by omega), rfl, PI_even HI.out (by have := H2.out; omega)⟩, by simp [intOf]; omega⟩
    · have hy0 : y = 0 := by omega
      have e : a * b % 18446744073709551616 = o := by
        have := HI.out.1
        rw [hy0, Nat.mul_zero, Nat.add_zero, Nat.mod_eq_of_lt HI.out.2.1] at this
        exact this.symm
      have E := Lib.hid e
      clear e hy0
      go_wp2
      go_ret
      exact ⟨ret_u (by rw [← E.out]; simp), Below.refl _ _⟩

set_option maxRecDepth 100000 in
set_option maxHeartbeats 1000000 in
theorem r_flt (n : Nat) (hn : n < 18446744073709551616) (w : World) :
    Calls Tryd.prog 24 #[.float .f64 n] w fun e w' => e = .returned (.agg #[.bool true, .int .u64 (if 9218868437227405312 < n % 9223372036854775808 then 9221120237041090560 else (n : Int))]) ∧ Below w.heap.size w w' := by
  have e52 := fun w => bits_run n w
  by_cases h : 9218868437227405312 < n % 9223372036854775808
  · rw [if_pos h]
    go_enter Tryd.func24, Tryd.ntmps24
    go_wp2
    exact bodyPost_ret (v := .agg #[.bool true, .int .u64 9221120237041090560]) (by simp [results, Tryd.results24, go_sem]) rfl ⟨rfl, (Below.refl _ _).alloc (Nat.le_refl _) _⟩
  · rw [if_neg h]
    go_enter Tryd.func24, Tryd.ntmps24
    go_wp2
    exact bodyPost_ret (v := .agg #[.bool true, .int .u64 n]) (by simp [results, Tryd.results24, go_sem]) rfl ⟨rfl, (Below.refl _ _).alloc (Nat.le_refl _) _⟩

set_option maxRecDepth 100000 in
set_option maxHeartbeats 1000000 in
theorem r_nan (n : Nat) (hn : n < 18446744073709551616) (w : World) :
    Calls Tryd.prog 28 #[.int .u64 n] w fun e w' => e = .returned (.bool (decide (9218868437227405312 < n % 9223372036854775808))) ∧ Below w.heap.size w w' := by
  go_enter Tryd.func28, Tryd.ntmps28
  go_wp2
  go_ret
  refine ⟨ret_b ?_, Below.refl _ _⟩
  rw [Bool.eq_iff_iff, decide_eq_true_eq, decide_eq_true_eq]
  omega

set_option maxRecDepth 100000 in
set_option maxHeartbeats 1000000 in
theorem r_order (n : Nat) (hn : n < 18446744073709551616) (w : World) :
    Calls Tryd.prog 29 #[.int .u64 n] w fun e w' => e = .returned (.int .i64 (if 9223372036854775808 ≤ n then -((n : Int) - 9223372036854775808) else n)) ∧ Below w.heap.size w w' := by
  by_cases h : 9223372036854775808 ≤ n
  · rw [if_pos h]
    have h' : (9223372036854775808 : Int) ≤ n := by omega
    have hn' : (n : Int) ≤ 18446744073709551615 := by omega
    clear h hn
    go_enter Tryd.func29, Tryd.ntmps29
    go_wp2
    go_ret
    exact ⟨ret_u rfl, Below.refl _ _⟩
  · rw [if_neg h]
    have h' : ¬ (9223372036854775808 : Int) ≤ n := by omega
    clear h hn
    go_enter Tryd.func29, Tryd.ntmps29
    go_wp2
    go_ret
    exact ⟨ret_u rfl, Below.refl _ _⟩

end Go.Proofs.YtkipioojdlkbcaaDoor
