/- The examples that each statement begins with hold: what 'awake' returns. -/
import Derived.Test.YtkipioojdlkbcaaGreatDoorNumG
import Derived.Test.YtkipioojdlkbcaaGreatDoorNumH
import Derived.Test.YtkipioojdlkbcaaGreatDoorNumI
import Derived.Test.YtkipioojdlkbcaaGreatDoorPrint
namespace Go.Proofs.YtkipioojdlkbcaaGreatDoor
open Go.RowKit

theorem enter_fn (f : FuncId) {fn : Func} {c : Code} (hf : Tryz.prog.funcs[f]? = some fn) (hname : (fn.name == "runtime.NumGoroutine") = false) (hb : fn.body = some c) :
    ∀ (args : Array Value) (w : World), (callFunc f args).run Tryz.prog w = .ok (.enter f args) w := fun args w => run_enter hf hname hb args w

/-- One over minus nought is minus infinity. -/
theorem awake_fdiv (w : World) : Calls Tryz.prog 9 #[.int .i64 10, .agg #[.bool true, .int .u64 4607182418800017408], .agg #[.bool true, .int .u64 9223372036854775808]] w fun e w' =>
      e = .returned (.tuple #[.agg #[.bool true, .int .u64 18442240474082181120], .int .i64 0]) ∧ Below w.heap.size w w' := by
  have h1 : floatBits .quo .f64 (4607182418800017408 : Int).toNat (9223372036854775808 : Int).toNat = some 18442240474082181120 := by decide +kernel
  have h2 : cn 18442240474082181120 = 18442240474082181120 := by decide +kernel
  refine calc_ok 10 48 true true true _ _ 18442240474082181120 0 w (by decide) (by decide) (by decide) (by decide) rfl
    (enter_fn _ Tryz.func48 (by kernel_rfl) rfl) (by decide) (fun w => ?_)
  have := fdiv_num true true 4607182418800017408 9223372036854775808 w 18442240474082181120 h1
  rw [h2] at this
  exact this

theorem awake_div (w : World) : Calls Tryz.prog 9 #[.int .i64 3, .agg #[.bool false, .int .u64 7], .agg #[.bool false, .int .u64 18446744073709551614]] w fun e w' =>
      e = .returned (.tuple #[.agg #[.bool false, .int .u64 18446744073709551613], .int .i64 0]) ∧ Below w.heap.size w w' := by
  refine calc_ok 3 40 false false false _ _ 18446744073709551613 0 w (by decide) (by decide) (by decide) (by decide) rfl
    (enter_fn _ Tryz.func40 (by kernel_rfl) rfl) (by decide) (fun w => ?_)
  have h := div_ok false false 7 18446744073709551614 w (by decide +kernel) (by decide +kernel)
  have e : IntKind.u64.wrap (IntKind.i64.wrap ((wrap64 7).tdiv (wrap64 18446744073709551614))) = 18446744073709551613 := by decide +kernel
  rw [e] at h
  exact h

theorem awake_rem (w : World) : Calls Tryz.prog 9 #[.int .i64 4, .agg #[.bool false, .int .u64 7], .agg #[.bool false, .int .u64 18446744073709551614]] w fun e w' =>
      e = .returned (.tuple #[.agg #[.bool false, .int .u64 1], .int .i64 0]) ∧ Below w.heap.size w w' := by
  refine calc_ok 4 42 false false false _ _ 1 0 w (by decide) (by decide) (by decide) (by decide) rfl
    (enter_fn _ Tryz.func42 (by kernel_rfl) rfl) (by decide) (fun w => ?_)
  have h := rem_ok false false 7 18446744073709551614 w (by decide +kernel) (by decide +kernel)
  have e : IntKind.u64.wrap ((wrap64 7).tmod (wrap64 18446744073709551614)) = 1 := by decide +kernel
  rw [e] at h
  exact h

/-- What the statements' rows say of the library's tables. -/
def Env (w : World) : Prop := Lib.TabIs Tryz.prog w "internal/strconv.uint64pow10" .u64 Lib.pow10Tab ∧ w.cell? ⟨6, 15, none⟩ = some (.int .u8 4)

theorem Env.below {w w' : World} (h : Env w) (hb : Below w.heap.size w w') : Env w' := ⟨tabIs_below h.1 hb, cell_later hb h.2⟩
theorem Env.alloc {w : World} (h : Env w) (o : Obj) : Env (w.alloc o) := h.below ((Below.refl _ _).alloc (Nat.le_refl _) _)

theorem stepB {w W W' : World} (h : Below w.heap.size w W) (hb : Below W.heap.size W W') : Below w.heap.size w W' := h.trans (hb.mono h.size)

set_option maxRecDepth 100000 in
set_option maxHeartbeats 4000000 in
theorem awake_any (w : World) (hE : Env w) : Calls Tryz.prog 4 #[] w fun e w' => e = .returned (.bool true) ∧ Below w.heap.size w w' := by
  have hB := Below.refl w.heap.size w
  go_enter Tryz.func4, Tryz.ntmps4
  go_wp2_with fail
  refine (flt_any _ _).mono ?_
  rintro e w1 ⟨rfl, hb⟩
  replace hE := hE.below hb
  replace hB := stepB hB hb
  clear hb
  go_wp2_with fail
  refine (flt_any _ _).mono ?_
  rintro e w2 ⟨rfl, hb⟩
  replace hE := hE.below hb
  replace hB := stepB hB hb
  clear hb
  go_wp2_with fail
  refine (awake_fdiv _).mono ?_
  rintro e w3 ⟨rfl, hb⟩
  replace hE := hE.below hb
  replace hB := stepB hB hb
  clear hb
  go_wp2_with fail
  have a0 : (w3.alloc (Obj.cells #[Value.bool true, Value.int IntKind.u64 18442240474082181120] 24)).cell? ⟨w3.heap.size, 0, none⟩ = some (.bool true) := by simp
  have a1 : (w3.alloc (Obj.cells #[Value.bool true, Value.int IntKind.u64 18442240474082181120] 24)).cell? ⟨w3.heap.size, 1, none⟩ = some (.int .u64 18442240474082181120) := by simp
  replace hE := hE.alloc (Obj.cells #[Value.bool true, Value.int IntKind.u64 18442240474082181120] 24)
  replace hB := hB.alloc hB.size (Obj.cells #[Value.bool true, Value.int IntKind.u64 18442240474082181120] 24)
  refine (int_any _ _).mono ?_
  rintro e w4 ⟨rfl, hb⟩
  replace hE := hE.below hb
  replace hB := stepB hB hb
  replace a0 := cell_later hb a0
  replace a1 := cell_later hb a1
  clear hb
  go_wp2_with fail
  refine (int_any _ _).mono ?_
  rintro e w5 ⟨rfl, hb⟩
  replace hE := hE.below hb
  replace hB := stepB hB hb
  replace a0 := cell_later hb a0
  replace a1 := cell_later hb a1
  clear hb
  go_wp2_with fail
  refine (awake_div _).mono ?_
  rintro e w6 ⟨rfl, hb⟩
  replace hE := hE.below hb
  replace hB := stepB hB hb
  replace a0 := cell_later hb a0
  replace a1 := cell_later hb a1
  clear hb
  go_wp2_with fail
  replace a0 := cell_later ((Below.refl _ _).alloc (Nat.le_refl _) (Obj.cells #[Value.bool false, Value.int IntKind.u64 18446744073709551613] 24)) a0
  replace a1 := cell_later ((Below.refl _ _).alloc (Nat.le_refl _) (Obj.cells #[Value.bool false, Value.int IntKind.u64 18446744073709551613] 24)) a1
  have b0 : (w6.alloc (Obj.cells #[Value.bool false, Value.int IntKind.u64 18446744073709551613] 24)).cell? ⟨w6.heap.size, 0, none⟩ = some (.bool false) := by simp
  have b1 : (w6.alloc (Obj.cells #[Value.bool false, Value.int IntKind.u64 18446744073709551613] 24)).cell? ⟨w6.heap.size, 1, none⟩ = some (.int .u64 18446744073709551613) := by simp
  replace hE := hE.alloc (Obj.cells #[Value.bool false, Value.int IntKind.u64 18446744073709551613] 24)
  replace hB := hB.alloc hB.size (Obj.cells #[Value.bool false, Value.int IntKind.u64 18446744073709551613] 24)
  refine (int_any _ _).mono ?_
  rintro e w7 ⟨rfl, hb⟩
  replace hE := hE.below hb
  replace hB := stepB hB hb
  replace a0 := cell_later hb a0
  replace a1 := cell_later hb a1
  replace b0 := cell_later hb b0
  replace b1 := cell_later hb b1
  clear hb
  go_wp2_with fail
  refine (int_any _ _).mono ?_
  rintro e w8 ⟨rfl, hb⟩
  replace hE := hE.below hb
  replace hB := stepB hB hb
  replace a0 := cell_later hb a0
  replace a1 := cell_later hb a1
  replace b0 := cell_later hb b0
  replace b1 := cell_later hb b1
  clear hb
  go_wp2_with fail
  refine (awake_rem _).mono ?_
  rintro e w9 ⟨rfl, hb⟩
  replace hE := hE.below hb
  replace hB := stepB hB hb
  replace a0 := cell_later hb a0
  replace a1 := cell_later hb a1
  replace b0 := cell_later hb b0
  replace b1 := cell_later hb b1
  clear hb
  have l1 : w3.heap.size < w9.heap.size := World.block_lt_of_cell? _ _ a0
  have l2 : w6.heap.size < w9.heap.size := World.block_lt_of_cell? _ _ b0
  go_wp2_with fail
  clear l1 l2
  replace a0 := cell_later ((Below.refl _ _).alloc (Nat.le_refl _) (Obj.cells #[Value.bool false, Value.int IntKind.u64 1] 24)) a0
  replace a1 := cell_later ((Below.refl _ _).alloc (Nat.le_refl _) (Obj.cells #[Value.bool false, Value.int IntKind.u64 1] 24)) a1
  replace b0 := cell_later ((Below.refl _ _).alloc (Nat.le_refl _) (Obj.cells #[Value.bool false, Value.int IntKind.u64 1] 24)) b0
  replace b1 := cell_later ((Below.refl _ _).alloc (Nat.le_refl _) (Obj.cells #[Value.bool false, Value.int IntKind.u64 1] 24)) b1
  have c0 : (w9.alloc (Obj.cells #[Value.bool false, Value.int IntKind.u64 1] 24)).cell? ⟨w9.heap.size, 0, none⟩ = some (.bool false) := by simp
  have c1 : (w9.alloc (Obj.cells #[Value.bool false, Value.int IntKind.u64 1] 24)).cell? ⟨w9.heap.size, 1, none⟩ = some (.int .u64 1) := by simp
  replace hE := hE.alloc (Obj.cells #[Value.bool false, Value.int IntKind.u64 1] 24)
  replace hB := hB.alloc hB.size (Obj.cells #[Value.bool false, Value.int IntKind.u64 1] 24)
  refine (print_float 18442240474082181120 (by decide) _ hE.2).mono ?_
  rintro e x1 ⟨rfl, hb⟩
  replace hE := hE.below hb
  replace hB := stepB hB hb
  replace b0 := cell_later hb b0
  replace b1 := cell_later hb b1
  replace c0 := cell_later hb c0
  replace c1 := cell_later hb c1
  clear hb
  rw [show fltL 18442240474082181120 = [48, 102, 102, 102, 102, 48, 48, 48, 48, 48, 48, 48, 48, 48, 48, 48, 48, 48] by decide +kernel]
  go_wp2_with fail
  refine (print_int 18446744073709551613 _ hE.1).mono ?_
  rintro e x2 ⟨rfl, hb⟩
  replace hE := hE.below hb
  replace hB := stepB hB hb
  replace c0 := cell_later hb c0
  replace c1 := cell_later hb c1
  clear hb
  rw [show Lib.itoa (wrap64 18446744073709551613) = [45, 51] by decide +kernel]
  go_wp2_with fail
  refine (print_int 1 _ hE.1).mono ?_
  rintro e x3 ⟨rfl, hb⟩
  replace hE := hE.below hb
  replace hB := stepB hB hb
  clear hb
  rw [show Lib.itoa (wrap64 1) = [49] by decide +kernel]
  go_wp2_with fail
  go_ret
  exact ⟨rfl, hB⟩

end Go.Proofs.YtkipioojdlkbcaaGreatDoor
