/- What the number layer answers of floats, and of an int and a float together, in plain words. -/
import Derived.Test.YtkipioojdlkbcaaDoorLaw
import Derived.Test.YtkipioojdlkbcaaDoorFloatB
namespace Go.Proofs.YtkipioojdlkbcaaDoor
open Go.RowKit

theorem cn_num {r : Nat} (h1 : r < 2 ^ 64) (h2 : ¬ 2047 * 2 ^ 52 < r % 2 ^ 63) : cn r = r := by
  have h : FloatKind.f64.format.order r r = some .eq := Fl.order_self r h1 h2
  unfold cn; rw [h, if_neg (by decide)]

/-- The word that an operation on floats comes to. -/
def fo (o : Option Nat) : Int := match o with | some r => (r : Int) | none => 9221120237041090560

theorem lt64 {n : Nat} (h : n < 18446744073709551616) : n < 2 ^ 64 := h

theorem calc_fadd (x y : Nat) (w : World) : Calls Tryd.prog 12 #[.int .i64 7, .agg #[.bool true, .int .u64 x], .agg #[.bool true, .int .u64 y]] w fun e w' =>
      e = .returned (.tuple #[.agg #[.bool true, .int .u64 (fo (Fl.F.add x y))], .int .i64 0]) ∧ Below w.heap.size w w' := by
  refine calc_ok 7 43 true true true _ _ (fo (Fl.F.add x y)) 0 w (by decide) (by decide) (by decide) (by decide) rfl
    (enter_fn _ Tryd.func43 (by kernel_rfl) rfl) (by decide) (fun w => ?_)
  cases h : Fl.F.add x y with
  | none => exact fadd_none true true x y w h
  | some r => have := fadd_num true true x y w r h; rw [cn_num (Fl.add_num h).1 (Fl.add_num h).2] at this; exact this

theorem calc_fsub (x y : Nat) (w : World) : Calls Tryd.prog 12 #[.int .i64 8, .agg #[.bool true, .int .u64 x], .agg #[.bool true, .int .u64 y]] w fun e w' =>
      e = .returned (.tuple #[.agg #[.bool true, .int .u64 (fo (Fl.F.sub x y))], .int .i64 0]) ∧ Below w.heap.size w w' := by
  refine calc_ok 8 46 true true true _ _ (fo (Fl.F.sub x y)) 0 w (by decide) (by decide) (by decide) (by decide) rfl
    (enter_fn _ Tryd.func46 (by kernel_rfl) rfl) (by decide) (fun w => ?_)
  cases h : Fl.F.sub x y with
  | none => exact fsub_none true true x y w h
  | some r => have := fsub_num true true x y w r h; rw [cn_num (Fl.sub_num h).1 (Fl.sub_num h).2] at this; exact this

theorem calc_fmul (x y : Nat) (w : World) : Calls Tryd.prog 12 #[.int .i64 9, .agg #[.bool true, .int .u64 x], .agg #[.bool true, .int .u64 y]] w fun e w' =>
      e = .returned (.tuple #[.agg #[.bool true, .int .u64 (fo (Fl.F.mul x y))], .int .i64 0]) ∧ Below w.heap.size w w' := by
  refine calc_ok 9 47 true true true _ _ (fo (Fl.F.mul x y)) 0 w (by decide) (by decide) (by decide) (by decide) rfl
    (enter_fn _ Tryd.func47 (by kernel_rfl) rfl) (by decide) (fun w => ?_)
  cases h : Fl.F.mul x y with
  | none => exact fmul_none true true x y w h
  | some r => have := fmul_num true true x y w r h; rw [cn_num (Fl.mul_num h).1 (Fl.mul_num h).2] at this; exact this

theorem calc_fdiv (x y : Nat) (w : World) : Calls Tryd.prog 12 #[.int .i64 10, .agg #[.bool true, .int .u64 x], .agg #[.bool true, .int .u64 y]] w fun e w' =>
      e = .returned (.tuple #[.agg #[.bool true, .int .u64 (fo (Fl.F.div x y))], .int .i64 0]) ∧ Below w.heap.size w w' := by
  refine calc_ok 10 48 true true true _ _ (fo (Fl.F.div x y)) 0 w (by decide) (by decide) (by decide) (by decide) rfl
    (enter_fn _ Tryd.func48 (by kernel_rfl) rfl) (by decide) (fun w => ?_)
  cases h : Fl.F.div x y with
  | none => exact fdiv_none true true x y w h
  | some r => have := fdiv_num true true x y w r h; rw [cn_num (Fl.div_num h).1 (Fl.div_num h).2] at this; exact this

theorem ofInt_num (n : Int) : floatOfInt .f64 n < 2 ^ 64 ∧ ¬ 2047 * 2 ^ 52 < floatOfInt .f64 n % 2 ^ 63 := Fl.write_num (.number (n < 0) n.natAbs 0) rfl

theorem calc_float (n : Int) (g : Bool) (y : Int) (w : World) (hn : InR n) : Calls Tryd.prog 12 #[.int .i64 13, .agg #[.bool false, .int .u64 (U n)], .agg #[.bool g, .int .u64 y]] w fun e w' =>
      e = .returned (.tuple #[.agg #[.bool true, .int .u64 (floatOfInt .f64 n : Nat)], .int .i64 0]) ∧ Below w.heap.size w w' := by
  have h := calc_13_ok false g (U n) y w (by decide)
  rw [wrap64_U n hn, cn_num (ofInt_num n).1 (ofInt_num n).2] at h
  exact h

theorem calc_float_bad (x y : Int) (g : Bool) (w : World) : Calls Tryd.prog 12 #[.int .i64 13, .agg #[.bool true, .int .u64 x], .agg #[.bool g, .int .u64 y]] w fun e w' =>
      e = .returned (.tuple #[.agg #[.bool false, .int .u64 0], .int .i64 6]) ∧ Below w.heap.size w w' := calc_13_kind true g x y w (by decide)

theorem calc_trunc_bad (x y : Int) (g : Bool) (w : World) : Calls Tryd.prog 12 #[.int .i64 14, .agg #[.bool false, .int .u64 x], .agg #[.bool g, .int .u64 y]] w fun e w' =>
      e = .returned (.tuple #[.agg #[.bool false, .int .u64 0], .int .i64 6]) ∧ Below w.heap.size w w' := calc_14_kind false g x y w (by decide)

theorem calc_trunc_ok (b : Nat) (g : Bool) (y k : Int) (w : World) (hW : Fl.within b = true) (hk : floatToIntVal .f64 b .i64 = some k) : Calls Tryd.prog 12 #[.int .i64 14, .agg #[.bool true, .int .u64 b], .agg #[.bool g, .int .u64 y]] w fun e w' =>
      e = .returned (.tuple #[.agg #[.bool false, .int .u64 (U k)], .int .i64 0]) ∧ Below w.heap.size w w' := by
  have hW' : within b = true := hW
  have h := calc_14_ok true g b y w (by decide) (fun _ => by rw [show (b : Int).toNat = b from rfl, hk]; rfl)
  have e1 : tr (b : Int).toNat = U k := by unfold tr; rw [show (b : Int).toNat = b from rfl, if_pos hW', hk]; rfl
  have e2 : trE (b : Int).toNat = 0 := by unfold trE; rw [show (b : Int).toNat = b from rfl, if_pos hW']
  rw [e1, e2] at h
  exact h

theorem calc_trunc_out (b : Nat) (g : Bool) (y : Int) (w : World) (hW : Fl.within b = false) : Calls Tryd.prog 12 #[.int .i64 14, .agg #[.bool true, .int .u64 b], .agg #[.bool g, .int .u64 y]] w fun e w' =>
      e = .returned (.tuple #[.agg #[.bool false, .int .u64 0], .int .i64 1]) ∧ Below w.heap.size w w' := by
  have hW' : within b = false := hW
  have h := calc_14_ok true g b y w (by decide) (fun h => by rw [show (b : Int).toNat = b from rfl, hW'] at h; cases h)
  have e1 : tr (b : Int).toNat = 0 := by unfold tr; rw [show (b : Int).toNat = b from rfl, if_neg (by rw [hW']; decide)]
  have e2 : trE (b : Int).toNat = 1 := by unfold trE; rw [show (b : Int).toNat = b from rfl, if_neg (by rw [hW']; decide)]
  rw [e1, e2] at h
  exact h

theorem test_fless (x y : Nat) (w : World) : Calls Tryd.prog 14 #[.int .i64 12, .agg #[.bool true, .int .u64 x], .agg #[.bool true, .int .u64 y]] w fun e w' =>
      e = .returned (.tuple #[.bool (Fl.F.order x y == some .lt), .int .i64 0]) ∧ Below w.heap.size w w' :=
  test_ok 12 58 true true (Fl.F.order x y == some .lt) _ _ w (by decide) (by decide) rfl
    (enter_fn _ Tryd.func58 (by kernel_rfl) rfl) (by decide) (fun w => fless_any true true x y w)

theorem test_feq (x y : Nat) (w : World) : Calls Tryd.prog 14 #[.int .i64 11, .agg #[.bool true, .int .u64 x], .agg #[.bool true, .int .u64 y]] w fun e w' =>
      e = .returned (.tuple #[.bool (Fl.F.order x y == some .eq), .int .i64 0]) ∧ Below w.heap.size w w' :=
  test_ok 11 57 true true (Fl.F.order x y == some .eq) _ _ w (by decide) (by decide) rfl
    (enter_fn _ Tryd.func57 (by kernel_rfl) rfl) (by decide) (fun w => feq_any true true x y w)

/-- Kinds that don't fit, of a question and of an operation of two numbers. -/
theorem kind_test (op : Int) (f g : Bool) (x y : Int) (w : World) (h : op = 5 ∨ op = 6 ∨ op = 11 ∨ op = 12) (hk : kindB f g op = false) : Calls Tryd.prog 14 #[.int .i64 op, .agg #[.bool f, .int .u64 x], .agg #[.bool g, .int .u64 y]] w fun e w' =>
      e = .returned (.tuple #[.bool false, .int .i64 6]) ∧ Below w.heap.size w w' := by
  rcases h with rfl | rfl | rfl | rfl
  · exact test_kind 5 55 f g x y w (by decide) (by decide) rfl hk
  · exact test_kind 6 56 f g x y w (by decide) (by decide) rfl hk
  · exact test_kind 11 57 f g x y w (by decide) (by decide) rfl hk
  · exact test_kind 12 58 f g x y w (by decide) (by decide) rfl hk

theorem kind_calc (op : Int) (f g : Bool) (x y : Int) (w : World) (h : op = 0 ∨ op = 1 ∨ op = 2 ∨ op = 3 ∨ op = 4 ∨ op = 7 ∨ op = 8 ∨ op = 9 ∨ op = 10) (hk : kindB f g op = false) : Calls Tryd.prog 12 #[.int .i64 op, .agg #[.bool f, .int .u64 x], .agg #[.bool g, .int .u64 y]] w fun e w' =>
      e = .returned (.tuple #[.agg #[.bool false, .int .u64 0], .int .i64 6]) ∧ Below w.heap.size w w' := by
  rcases h with rfl | rfl | rfl | rfl | rfl | rfl | rfl | rfl | rfl
  · exact calc_kind 0 37 f g x y w (by decide) (by decide) (by decide) (by decide) rfl hk
  · exact calc_kind 1 38 f g x y w (by decide) (by decide) (by decide) (by decide) rfl hk
  · exact calc_kind 2 39 f g x y w (by decide) (by decide) (by decide) (by decide) rfl hk
  · exact calc_kind 3 40 f g x y w (by decide) (by decide) (by decide) (by decide) rfl hk
  · exact calc_kind 4 42 f g x y w (by decide) (by decide) (by decide) (by decide) rfl hk
  · exact calc_kind 7 43 f g x y w (by decide) (by decide) (by decide) (by decide) rfl hk
  · exact calc_kind 8 46 f g x y w (by decide) (by decide) (by decide) (by decide) rfl hk
  · exact calc_kind 9 47 f g x y w (by decide) (by decide) (by decide) (by decide) rfl hk
  · exact calc_kind 10 48 f g x y w (by decide) (by decide) (by decide) (by decide) rfl hk

end Go.Proofs.YtkipioojdlkbcaaDoor
