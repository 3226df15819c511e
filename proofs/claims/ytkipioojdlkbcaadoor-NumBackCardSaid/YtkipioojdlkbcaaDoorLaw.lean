/- What the number layer answers of ints that are within 64 bits, in plain words; and what the statements' rows give. -/
import Derived.Test.YtkipioojdlkbcaaDoorAwake
import Derived.Test.YtkipioojdlkbcaaDoorRows
import Derived.ProofKit
import Derived.OpenShut
import Derived.Deep.DeepHandedRow
import Derived.Lib.LaidTab
import Derived.Stop.LaidErr
namespace Go.Proofs.YtkipioojdlkbcaaDoor
open Go.RowKit

/-- An int's bits. -/
def U (a : Int) : Int := IntKind.u64.wrap a

/-- Within 64 bits. -/
def InR (a : Int) : Prop := -9223372036854775808 ≤ a ∧ a ≤ 9223372036854775807

theorem U_eq (a : Int) : U a = a % 18446744073709551616 := by unfold U; exact IntKind.wrap_u64 a
theorem wrap64_U (a : Int) (h : InR a) : wrap64 (U a) = a := by obtain ⟨h1, h2⟩ := h; rw [U_eq]; unfold wrap64; omega
theorem U_wrap64 (a : Int) : U (wrap64 a) = U a := by rw [U_eq, U_eq]; unfold wrap64; omega
theorem InR_wrap64 (a : Int) : InR (wrap64 a) := wrap64_range a
theorem i64wrap (a : Int) : IntKind.i64.wrap a = wrap64 a := by unfold wrap64; exact IntKind.wrap_i64 a
theorem U_inj {a b : Int} (ha : InR a) (hb : InR b) (h : U a = U b) : a = b := by rw [← wrap64_U a ha, ← wrap64_U b hb, h]

theorem int_U (a : Int) (w : World) : Calls Tryd.prog 18 #[.int .i64 a] w fun e w' => e = .returned (.agg #[.bool false, .int .u64 (U a)]) ∧ Below w.heap.size w w' := int_any a w

theorem test_less (a b : Int) (w : World) (ha : InR a) (hb : InR b) : Calls Tryd.prog 14 #[.int .i64 6, .agg #[.bool false, .int .u64 (U a)], .agg #[.bool false, .int .u64 (U b)]] w fun e w' =>
      e = .returned (.tuple #[.bool (decide (a < b)), .int .i64 0]) ∧ Below w.heap.size w w' := by
  refine test_ok 6 56 false false (decide (a < b)) _ _ w (by decide) (by decide) rfl
    (enter_fn _ Tryd.func56 (by kernel_rfl) rfl) (by decide) (fun w => ?_)
  have h := less_any false false (U a) (U b) w
  rw [wrap64_U a ha, wrap64_U b hb] at h
  exact h

theorem test_eq (a b : Int) (w : World) (ha : InR a) (hb : InR b) : Calls Tryd.prog 14 #[.int .i64 5, .agg #[.bool false, .int .u64 (U a)], .agg #[.bool false, .int .u64 (U b)]] w fun e w' =>
      e = .returned (.tuple #[.bool (a == b), .int .i64 0]) ∧ Below w.heap.size w w' := by
  refine test_ok 5 55 false false (a == b) _ _ w (by decide) (by decide) rfl
    (enter_fn _ Tryd.func55 (by kernel_rfl) rfl) (by decide) (fun w => ?_)
  have h := eq_any false false (U a) (U b) w
  rw [wrap64_U a ha, wrap64_U b hb] at h
  exact h

theorem calc_add' (a b : Int) (w : World) (ha : InR a) (hb : InR b) : Calls Tryd.prog 12 #[.int .i64 0, .agg #[.bool false, .int .u64 (U a)], .agg #[.bool false, .int .u64 (U b)]] w fun e w' =>
      e = .returned (.tuple #[.agg #[.bool false, .int .u64 (U (wrap64 (a + b)))], .int .i64 0]) ∧ Below w.heap.size w w' := by
  refine calc_ok 0 37 false false false _ _ (U (wrap64 (a + b))) 0 w (by decide) (by decide) (by decide) (by decide) rfl
    (enter_fn _ Tryd.func37 (by kernel_rfl) rfl) (by decide) (fun w => ?_)
  have h := add_any false false (U a) (U b) w
  rw [wrap64_U a ha, wrap64_U b hb, i64wrap] at h
  exact h

theorem calc_sub' (a b : Int) (w : World) (ha : InR a) (hb : InR b) : Calls Tryd.prog 12 #[.int .i64 1, .agg #[.bool false, .int .u64 (U a)], .agg #[.bool false, .int .u64 (U b)]] w fun e w' =>
      e = .returned (.tuple #[.agg #[.bool false, .int .u64 (U (wrap64 (a - b)))], .int .i64 0]) ∧ Below w.heap.size w w' := by
  refine calc_ok 1 38 false false false _ _ (U (wrap64 (a - b))) 0 w (by decide) (by decide) (by decide) (by decide) rfl
    (enter_fn _ Tryd.func38 (by kernel_rfl) rfl) (by decide) (fun w => ?_)
  have h := sub_any false false (U a) (U b) w
  rw [wrap64_U a ha, wrap64_U b hb, i64wrap] at h
  exact h

theorem calc_mul' (a b : Int) (w : World) (ha : InR a) (hb : InR b) : Calls Tryd.prog 12 #[.int .i64 2, .agg #[.bool false, .int .u64 (U a)], .agg #[.bool false, .int .u64 (U b)]] w fun e w' =>
      e = .returned (.tuple #[.agg #[.bool false, .int .u64 (U (wrap64 (a * b)))], .int .i64 0]) ∧ Below w.heap.size w w' := by
  refine calc_ok 2 39 false false false _ _ (U (wrap64 (a * b))) 0 w (by decide) (by decide) (by decide) (by decide) rfl
    (enter_fn _ Tryd.func39 (by kernel_rfl) rfl) (by decide) (fun w => ?_)
  have h := mul_any false false (U a) (U b) w
  rw [wrap64_U a ha, wrap64_U b hb, i64wrap] at h
  exact h

theorem calc_div_bad (a b : Int) (w : World) (ha : InR a) (hb : InR b) (hd : dv a b ≠ 0) : Calls Tryd.prog 12 #[.int .i64 3, .agg #[.bool false, .int .u64 (U a)], .agg #[.bool false, .int .u64 (U b)]] w fun e w' =>
      e = .returned (.tuple #[.agg #[.bool false, .int .u64 0], .int .i64 (dv a b)]) ∧ Below w.heap.size w w' := by
  refine calc_ok 3 40 false false false _ _ 0 (dv a b) w (by decide) (by decide) (by decide) (by decide) rfl
    (enter_fn _ Tryd.func40 (by kernel_rfl) rfl) (by decide) (fun w => ?_)
  have h := div_bad false false (U a) (U b) w (by rw [wrap64_U a ha, wrap64_U b hb]; simpa using hd)
  rw [wrap64_U a ha, wrap64_U b hb] at h
  exact h

theorem calc_rem_bad (a b : Int) (w : World) (ha : InR a) (hb : InR b) (hd : dv a b ≠ 0) : Calls Tryd.prog 12 #[.int .i64 4, .agg #[.bool false, .int .u64 (U a)], .agg #[.bool false, .int .u64 (U b)]] w fun e w' =>
      e = .returned (.tuple #[.agg #[.bool false, .int .u64 0], .int .i64 (dv a b)]) ∧ Below w.heap.size w w' := by
  refine calc_ok 4 42 false false false _ _ 0 (dv a b) w (by decide) (by decide) (by decide) (by decide) rfl
    (enter_fn _ Tryd.func42 (by kernel_rfl) rfl) (by decide) (fun w => ?_)
  have h := rem_bad false false (U a) (U b) w (by rw [wrap64_U a ha, wrap64_U b hb]; simpa using hd)
  rw [wrap64_U a ha, wrap64_U b hb] at h
  exact h

theorem calc_div_ok (a b : Int) (w : World) (ha : InR a) (hb : InR b) (hd : dv a b = 0) (h0 : b ≠ 0) : Calls Tryd.prog 12 #[.int .i64 3, .agg #[.bool false, .int .u64 (U a)], .agg #[.bool false, .int .u64 (U b)]] w fun e w' =>
      e = .returned (.tuple #[.agg #[.bool false, .int .u64 (U (wrap64 (a.tdiv b)))], .int .i64 0]) ∧ Below w.heap.size w w' := by
  refine calc_ok 3 40 false false false _ _ (U (wrap64 (a.tdiv b))) 0 w (by decide) (by decide) (by decide) (by decide) rfl
    (enter_fn _ Tryd.func40 (by kernel_rfl) rfl) (by decide) (fun w => ?_)
  have h := div_ok false false (U a) (U b) w (by rw [wrap64_U a ha, wrap64_U b hb, hd]; rfl) (by rw [wrap64_U b hb]; exact h0)
  rw [wrap64_U a ha, wrap64_U b hb, i64wrap] at h
  exact h

theorem calc_rem_ok (a b : Int) (w : World) (ha : InR a) (hb : InR b) (hd : dv a b = 0) (h0 : b ≠ 0) : Calls Tryd.prog 12 #[.int .i64 4, .agg #[.bool false, .int .u64 (U a)], .agg #[.bool false, .int .u64 (U b)]] w fun e w' =>
      e = .returned (.tuple #[.agg #[.bool false, .int .u64 (U (a.tmod b))], .int .i64 0]) ∧ Below w.heap.size w w' := by
  refine calc_ok 4 42 false false false _ _ (U (a.tmod b)) 0 w (by decide) (by decide) (by decide) (by decide) rfl
    (enter_fn _ Tryd.func42 (by kernel_rfl) rfl) (by decide) (fun w => ?_)
  have h := rem_ok false false (U a) (U b) w (by rw [wrap64_U a ha, wrap64_U b hb, hd]; rfl) (by rw [wrap64_U b hb]; exact h0)
  rw [wrap64_U a ha, wrap64_U b hb] at h
  exact h

def tab32 : List Int := [0, 1, 28, 2, 29, 14, 24, 3, 30, 22, 20, 15, 25, 17, 4, 8, 31, 27, 13, 23, 21, 19, 16, 7, 26, 12, 18, 6, 11, 5, 10, 9]
def tab64 : List Int := [0, 1, 56, 2, 57, 49, 28, 3, 61, 58, 42, 50, 38, 29, 17, 4, 62, 47, 59, 36, 45, 43, 51, 22, 53, 39, 33, 30, 24, 18, 12, 5, 63, 55, 48, 27, 60, 41, 37, 16, 46, 35, 44, 21, 52, 32, 23, 11, 54, 26, 40, 15, 34, 20, 31, 10, 25, 14, 19, 9, 13, 8, 7, 6]

/-- A block's cells, laid anew. -/
def putTab (cs : Array Value) : Obj → Obj
  | .cells _ t frozen => .cells cs t frozen
  | o => o

/-- WHAT A ROW's LIST GIVES. -/
theorem env_of {W : World} (h : laidMetH Tryd.prog Rows.numOrdersRow.laid W) : Env W := by
  have h' : laidMet Tryd.prog Rows.numOrdersRow.laid W := h
  have h2 := laidMet.tail h'
  have h3 := laidMet.tail h2
  have g1 : Tryd.prog.globalNamed "internal/strconv.uint64pow10" = some 1 := by kernel_rfl
  have g6 : Tryd.prog.globalNamed "math/bits.deBruijn64tab" = some 6 := by kernel_rfl
  have t1 : Lib.TabIs Tryd.prog W "internal/strconv.uint64pow10" .u64 Lib.pow10Tab :=
    Lib.tabIs_of_head (rest := []) g1 (show (Tryd.prog.globals[1]?).map (·.type) = some 126 by kernel_rfl) Tryd.underlying126 Tryd.underlying22 (by kernel_rfl) (by kernel_rfl) h3
  have t6 : Lib.TabIs Tryd.prog W "math/bits.deBruijn64tab" .u8 tab64 :=
    Lib.tabIs_of_head (rest := [("internal/strconv.uint64pow10", Rows.laid_internal_strconv_uint64pow10)]) g6 (show (Tryd.prog.globals[6]?).map (·.type) = some 147 by kernel_rfl) Tryd.underlying147 Tryd.underlying5 (by kernel_rfl) (by kernel_rfl) h2
  exact ⟨t1, t6.cell g6 15 (by decide)⟩

end Go.Proofs.YtkipioojdlkbcaaDoor
