/- NumKinds: for all integers of its parameters' kinds the statement's function returns true, where the three tables of the library that it reads are as the program's text lays them; each argument reads behind the call as before. -/
import Derived.Test.YtkmickgngijdlaaDoorCards
import Derived.Test.YtkmickgngijdlaaDoorTie
import Derived.Test.YtkmickgngijdlaaDoorLawF
namespace Go.Proofs.YtkmickgngijdlaaDoor.numKinds
open Go.ChangeShapes Go.WideShapes Go.ChangeAt Go.RowKit

theorem own : ownKnob Tryd.prog.godebug = none := by kernel_rfl

theorem two_boxes (f g : Bool) (x y : Int) (w : World) : ∃ Y, Y = ((w.alloc (Obj.cells #[Value.bool f, Value.int IntKind.u64 x] 24)).alloc (Obj.cells #[Value.bool g, Value.int IntKind.u64 y] 24)) ∧
      Y.cell? ⟨w.heap.size, 0, none⟩ = some (.bool f) ∧ Y.cell? ⟨w.heap.size, 1, none⟩ = some (.int .u64 x) ∧ Y.cell? ⟨w.heap.size + 1, 0, none⟩ = some (.bool g) ∧ Y.cell? ⟨w.heap.size + 1, 1, none⟩ = some (.int .u64 y) ∧ Below w.heap.size w Y := by
  obtain ⟨Y, hY, h⟩ := boxes2 f g x y w
  exact ⟨Y, hY, h.2.2.1, h.2.2.2.1, h.2.2.2.2.1, h.2.2.2.2.2, h.1⟩

set_option maxRecDepth 100000 in
set_option maxHeartbeats 4000000 in
theorem walk_T (op a b : Int) (W : World) (_ : InR a) (h : op = 5 ∨ op = 6 ∨ op = 11 ∨ op = 12) (hE : Env W) :
    Calls Tryd.prog 9 #[.int .i64 op, .int .i64 a, .int .u64 b] W fun e W' => e = .returned (.bool true) ∧ Below W.heap.size W W' := by
  have hB := Below.refl W.heap.size W
  have hA := Lib.hid (awake_any W hE)
  clear hE
  rcases h with rfl | rfl | rfl | rfl
  all_goals
    go_enter Tryd.func9, Tryd.ntmps9
    go_wp2_with fail
    refine (hA.out).mono ?_
    rintro e x1 ⟨rfl, hb⟩
    replace hB := stepB hB hb
    clear hb
    go_wp2_with fail
    refine (int_U _ _).mono ?_
    rintro e x2 ⟨rfl, hb⟩
    replace hB := stepB hB hb
    clear hb
    go_wp2_with fail
    refine (flt_any _ _).mono ?_
    rintro e x3 ⟨rfl, hb⟩
    replace hB := stepB hB hb
    clear hb
    obtain ⟨Y, hY, y0, y1, y2, y3, hYB⟩ := two_boxes false true (U a) b x3
    replace hB := stepB hB hYB
    clear hYB
    go_wp2_with fail
    rw [← hY]
    clear hY
    refine (kind_test _ _ _ _ _ _ (by decide) (by decide)).mono ?_
    rintro e x4 ⟨rfl, hb⟩
    replace hB := stepB hB hb
    replace y0 := cell_later hb y0
    replace y1 := cell_later hb y1
    replace y2 := cell_later hb y2
    replace y3 := cell_later hb y3
    clear hb
    go_wp2_with fail
    refine (kind_test _ _ _ _ _ _ (by decide) (by decide)).mono ?_
    rintro e x5 ⟨rfl, hb⟩
    replace hB := stepB hB hb
    clear hb
    go_wp2
    go_ret
    exact ⟨rfl, hB⟩

set_option maxRecDepth 100000 in
set_option maxHeartbeats 4000000 in
theorem walk_C (op a b : Int) (W : World) (_ : InR a) (h : op = 0 ∨ op = 1 ∨ op = 2 ∨ op = 3 ∨ op = 4 ∨ op = 7 ∨ op = 8 ∨ op = 9 ∨ op = 10) (hE : Env W) :
    Calls Tryd.prog 9 #[.int .i64 op, .int .i64 a, .int .u64 b] W fun e W' => e = .returned (.bool true) ∧ Below W.heap.size W W' := by
  have hB := Below.refl W.heap.size W
  have hA := Lib.hid (awake_any W hE)
  clear hE
  rcases h with rfl | rfl | rfl | rfl | rfl | rfl | rfl | rfl | rfl
  all_goals
    go_enter Tryd.func9, Tryd.ntmps9
    go_wp2_with fail
    refine (hA.out).mono ?_
    rintro e x1 ⟨rfl, hb⟩
    replace hB := stepB hB hb
    clear hb
    go_wp2_with fail
    refine (int_U _ _).mono ?_
    rintro e x2 ⟨rfl, hb⟩
    replace hB := stepB hB hb
    clear hb
    go_wp2_with fail
    refine (flt_any _ _).mono ?_
    rintro e x3 ⟨rfl, hb⟩
    replace hB := stepB hB hb
    clear hb
    obtain ⟨Y, hY, y0, y1, y2, y3, hYB⟩ := two_boxes false true (U a) b x3
    replace hB := stepB hB hYB
    clear hYB
    go_wp2_with fail
    rw [← hY]
    clear hY
    refine (kind_calc _ _ _ _ _ _ (by decide) (by decide)).mono ?_
    rintro e x4 ⟨rfl, hb⟩
    replace hB := stepB hB hb
    replace y0 := cell_later hb y0
    replace y1 := cell_later hb y1
    replace y2 := cell_later hb y2
    replace y3 := cell_later hb y3
    clear hb
    have l1 : x3.heap.size < x4.heap.size := World.block_lt_of_cell? _ _ y0
    have l2 : x3.heap.size + 1 < x4.heap.size := World.block_lt_of_cell? _ _ y2
    go_wp2_with fail
    clear l1 l2
    replace hB := hB.alloc hB.size (Obj.cells #[Value.bool false, Value.int IntKind.u64 0] 24)
    replace y0 := cell_later ((Below.refl _ _).alloc (Nat.le_refl _) (Obj.cells #[Value.bool false, Value.int IntKind.u64 0] 24)) y0
    replace y1 := cell_later ((Below.refl _ _).alloc (Nat.le_refl _) (Obj.cells #[Value.bool false, Value.int IntKind.u64 0] 24)) y1
    replace y2 := cell_later ((Below.refl _ _).alloc (Nat.le_refl _) (Obj.cells #[Value.bool false, Value.int IntKind.u64 0] 24)) y2
    replace y3 := cell_later ((Below.refl _ _).alloc (Nat.le_refl _) (Obj.cells #[Value.bool false, Value.int IntKind.u64 0] 24)) y3
    refine (kind_calc _ _ _ _ _ _ (by decide) (by decide)).mono ?_
    rintro e x5 ⟨rfl, hb⟩
    replace hB := stepB hB hb
    clear hb
    go_wp2
    go_ret
    exact ⟨rfl, hB.alloc hB.size _⟩

set_option maxRecDepth 100000 in
set_option maxHeartbeats 4000000 in
theorem walk_low (op a b : Int) (W : World) (ha : InR a) (h : op < 0) (hE : Env W) :
    Calls Tryd.prog 9 #[.int .i64 op, .int .i64 a, .int .u64 b] W fun e W' => e = .returned (.bool true) ∧ Below W.heap.size W W' := by
  have hB := Below.refl W.heap.size W
  have hA := Lib.hid (awake_any W hE)
  clear hE
  go_enter Tryd.func9, Tryd.ntmps9
  go_wp2_with fail
  refine (hA.out).mono ?_
  rintro e x1 ⟨rfl, hb⟩
  replace hB := stepB hB hb
  clear hb
  go_wp2_with fail
  refine (int_U _ _).mono ?_
  rintro e x2 ⟨rfl, hb⟩
  replace hB := stepB hB hb
  clear hb
  go_wp2_with fail
  refine (flt_any _ _).mono ?_
  rintro e x3 ⟨rfl, hb⟩
  replace hB := stepB hB hb
  clear hb
  obtain ⟨Y, hY, y0, y1, y2, y3, hYB⟩ := two_boxes false true (U a) b x3
  replace hB := stepB hB hYB
  clear hYB
  go_wp2_with fail
  rw [← hY]
  clear hY
  refine (calc_float a _ _ _ ha).mono ?_
  rintro e x4 ⟨rfl, hb⟩
  replace hB := stepB hB hb
  replace y0 := cell_later hb y0
  replace y1 := cell_later hb y1
  replace y2 := cell_later hb y2
  replace y3 := cell_later hb y3
  clear hb
  have l1 : x3.heap.size < x4.heap.size := World.block_lt_of_cell? _ _ y0
  have l2 : x3.heap.size + 1 < x4.heap.size := World.block_lt_of_cell? _ _ y2
  go_wp2_with fail
  clear l1 l2
  replace y0 := cell_later ((Below.refl _ _).alloc (Nat.le_refl _) (Obj.cells #[Value.bool true, Value.int IntKind.u64 ((floatOfInt .f64 a : Nat) : Int)] 24)) y0
  replace y1 := cell_later ((Below.refl _ _).alloc (Nat.le_refl _) (Obj.cells #[Value.bool true, Value.int IntKind.u64 ((floatOfInt .f64 a : Nat) : Int)] 24)) y1
  replace y2 := cell_later ((Below.refl _ _).alloc (Nat.le_refl _) (Obj.cells #[Value.bool true, Value.int IntKind.u64 ((floatOfInt .f64 a : Nat) : Int)] 24)) y2
  replace y3 := cell_later ((Below.refl _ _).alloc (Nat.le_refl _) (Obj.cells #[Value.bool true, Value.int IntKind.u64 ((floatOfInt .f64 a : Nat) : Int)] 24)) y3
  have p0 : (World.alloc x4 (Obj.cells #[Value.bool true, Value.int IntKind.u64 ((floatOfInt .f64 a : Nat) : Int)] 24)).cell? ⟨x4.heap.size, 0, none⟩ = some (.bool true) := by simp
  have p1 : (World.alloc x4 (Obj.cells #[Value.bool true, Value.int IntKind.u64 ((floatOfInt .f64 a : Nat) : Int)] 24)).cell? ⟨x4.heap.size, 1, none⟩ = some (.int .u64 ((floatOfInt .f64 a : Nat) : Int)) := by simp
  replace hB := hB.alloc hB.size (Obj.cells #[Value.bool true, Value.int IntKind.u64 ((floatOfInt .f64 a : Nat) : Int)] 24)
  refine (calc_float a _ _ _ ha).mono ?_
  rintro e x5 ⟨rfl, hb⟩
  replace hB := stepB hB hb
  replace y0 := cell_later hb y0
  replace y1 := cell_later hb y1
  replace y2 := cell_later hb y2
  replace y3 := cell_later hb y3
  replace p0 := cell_later hb p0
  replace p1 := cell_later hb p1
  clear hb
  have l1 : x3.heap.size < x5.heap.size := World.block_lt_of_cell? _ _ y0
  have l2 : x3.heap.size + 1 < x5.heap.size := World.block_lt_of_cell? _ _ y2
  have l3 : x4.heap.size < x5.heap.size := World.block_lt_of_cell? _ _ p0
  go_wp2_with fail
  clear l1 l2 l3
  replace y0 := cell_later ((Below.refl _ _).alloc (Nat.le_refl _) (Obj.cells #[Value.bool true, Value.int IntKind.u64 ((floatOfInt .f64 a : Nat) : Int)] 24)) y0
  replace y1 := cell_later ((Below.refl _ _).alloc (Nat.le_refl _) (Obj.cells #[Value.bool true, Value.int IntKind.u64 ((floatOfInt .f64 a : Nat) : Int)] 24)) y1
  replace y2 := cell_later ((Below.refl _ _).alloc (Nat.le_refl _) (Obj.cells #[Value.bool true, Value.int IntKind.u64 ((floatOfInt .f64 a : Nat) : Int)] 24)) y2
  replace y3 := cell_later ((Below.refl _ _).alloc (Nat.le_refl _) (Obj.cells #[Value.bool true, Value.int IntKind.u64 ((floatOfInt .f64 a : Nat) : Int)] 24)) y3
  replace p0 := cell_later ((Below.refl _ _).alloc (Nat.le_refl _) (Obj.cells #[Value.bool true, Value.int IntKind.u64 ((floatOfInt .f64 a : Nat) : Int)] 24)) p0
  replace p1 := cell_later ((Below.refl _ _).alloc (Nat.le_refl _) (Obj.cells #[Value.bool true, Value.int IntKind.u64 ((floatOfInt .f64 a : Nat) : Int)] 24)) p1
  have q0 : (World.alloc x5 (Obj.cells #[Value.bool true, Value.int IntKind.u64 ((floatOfInt .f64 a : Nat) : Int)] 24)).cell? ⟨x5.heap.size, 0, none⟩ = some (.bool true) := by simp
  have q1 : (World.alloc x5 (Obj.cells #[Value.bool true, Value.int IntKind.u64 ((floatOfInt .f64 a : Nat) : Int)] 24)).cell? ⟨x5.heap.size, 1, none⟩ = some (.int .u64 ((floatOfInt .f64 a : Nat) : Int)) := by simp
  replace hB := hB.alloc hB.size (Obj.cells #[Value.bool true, Value.int IntKind.u64 ((floatOfInt .f64 a : Nat) : Int)] 24)
  refine (calc_trunc_bad _ _ _ _).mono ?_
  rintro e x6 ⟨rfl, hb⟩
  replace hB := stepB hB hb
  replace y0 := cell_later hb y0
  replace y1 := cell_later hb y1
  replace y2 := cell_later hb y2
  replace y3 := cell_later hb y3
  replace p0 := cell_later hb p0
  replace p1 := cell_later hb p1
  replace q0 := cell_later hb q0
  replace q1 := cell_later hb q1
  clear hb
  have l1 : x3.heap.size < x6.heap.size := World.block_lt_of_cell? _ _ y0
  have l2 : x3.heap.size + 1 < x6.heap.size := World.block_lt_of_cell? _ _ y2
  have l3 : x4.heap.size < x6.heap.size := World.block_lt_of_cell? _ _ p0
  have l4 : x5.heap.size < x6.heap.size := World.block_lt_of_cell? _ _ q0
  go_wp2
  go_ret
  exact ⟨rfl, hB.alloc hB.size _⟩

set_option maxRecDepth 100000 in
set_option maxHeartbeats 4000000 in
theorem walk_high (op a b : Int) (W : World) (ha : InR a) (h0 : 0 ≤ op) (h : 12 < op) (hE : Env W) :
    Calls Tryd.prog 9 #[.int .i64 op, .int .i64 a, .int .u64 b] W fun e W' => e = .returned (.bool true) ∧ Below W.heap.size W W' := by
  have hB := Below.refl W.heap.size W
  have hA := Lib.hid (awake_any W hE)
  clear hE
  go_enter Tryd.func9, Tryd.ntmps9
  go_wp2_with fail
  refine (hA.out).mono ?_
  rintro e x1 ⟨rfl, hb⟩
  replace hB := stepB hB hb
  clear hb
  go_wp2_with fail
  refine (int_U _ _).mono ?_
  rintro e x2 ⟨rfl, hb⟩
  replace hB := stepB hB hb
  clear hb
  go_wp2_with fail
  refine (flt_any _ _).mono ?_
  rintro e x3 ⟨rfl, hb⟩
  replace hB := stepB hB hb
  clear hb
  obtain ⟨Y, hY, y0, y1, y2, y3, hYB⟩ := two_boxes false true (U a) b x3
  replace hB := stepB hB hYB
  clear hYB
  go_wp2_with fail
  rw [← hY]
  clear hY
  refine (calc_float a _ _ _ ha).mono ?_
  rintro e x4 ⟨rfl, hb⟩
  replace hB := stepB hB hb
  replace y0 := cell_later hb y0
  replace y1 := cell_later hb y1
  replace y2 := cell_later hb y2
  replace y3 := cell_later hb y3
  clear hb
  have l1 : x3.heap.size < x4.heap.size := World.block_lt_of_cell? _ _ y0
  have l2 : x3.heap.size + 1 < x4.heap.size := World.block_lt_of_cell? _ _ y2
  go_wp2_with fail
  clear l1 l2
  replace y0 := cell_later ((Below.refl _ _).alloc (Nat.le_refl _) (Obj.cells #[Value.bool true, Value.int IntKind.u64 ((floatOfInt .f64 a : Nat) : Int)] 24)) y0
  replace y1 := cell_later ((Below.refl _ _).alloc (Nat.le_refl _) (Obj.cells #[Value.bool true, Value.int IntKind.u64 ((floatOfInt .f64 a : Nat) : Int)] 24)) y1
  replace y2 := cell_later ((Below.refl _ _).alloc (Nat.le_refl _) (Obj.cells #[Value.bool true, Value.int IntKind.u64 ((floatOfInt .f64 a : Nat) : Int)] 24)) y2
  replace y3 := cell_later ((Below.refl _ _).alloc (Nat.le_refl _) (Obj.cells #[Value.bool true, Value.int IntKind.u64 ((floatOfInt .f64 a : Nat) : Int)] 24)) y3
  have p0 : (World.alloc x4 (Obj.cells #[Value.bool true, Value.int IntKind.u64 ((floatOfInt .f64 a : Nat) : Int)] 24)).cell? ⟨x4.heap.size, 0, none⟩ = some (.bool true) := by simp
  have p1 : (World.alloc x4 (Obj.cells #[Value.bool true, Value.int IntKind.u64 ((floatOfInt .f64 a : Nat) : Int)] 24)).cell? ⟨x4.heap.size, 1, none⟩ = some (.int .u64 ((floatOfInt .f64 a : Nat) : Int)) := by simp
  replace hB := hB.alloc hB.size (Obj.cells #[Value.bool true, Value.int IntKind.u64 ((floatOfInt .f64 a : Nat) : Int)] 24)
  refine (calc_float a _ _ _ ha).mono ?_
  rintro e x5 ⟨rfl, hb⟩
  replace hB := stepB hB hb
  replace y0 := cell_later hb y0
  replace y1 := cell_later hb y1
  replace y2 := cell_later hb y2
  replace y3 := cell_later hb y3
  replace p0 := cell_later hb p0
  replace p1 := cell_later hb p1
  clear hb
  have l1 : x3.heap.size < x5.heap.size := World.block_lt_of_cell? _ _ y0
  have l2 : x3.heap.size + 1 < x5.heap.size := World.block_lt_of_cell? _ _ y2
  have l3 : x4.heap.size < x5.heap.size := World.block_lt_of_cell? _ _ p0
  go_wp2_with fail
  clear l1 l2 l3
  replace y0 := cell_later ((Below.refl _ _).alloc (Nat.le_refl _) (Obj.cells #[Value.bool true, Value.int IntKind.u64 ((floatOfInt .f64 a : Nat) : Int)] 24)) y0
  replace y1 := cell_later ((Below.refl _ _).alloc (Nat.le_refl _) (Obj.cells #[Value.bool true, Value.int IntKind.u64 ((floatOfInt .f64 a : Nat) : Int)] 24)) y1
  replace y2 := cell_later ((Below.refl _ _).alloc (Nat.le_refl _) (Obj.cells #[Value.bool true, Value.int IntKind.u64 ((floatOfInt .f64 a : Nat) : Int)] 24)) y2
  replace y3 := cell_later ((Below.refl _ _).alloc (Nat.le_refl _) (Obj.cells #[Value.bool true, Value.int IntKind.u64 ((floatOfInt .f64 a : Nat) : Int)] 24)) y3
  replace p0 := cell_later ((Below.refl _ _).alloc (Nat.le_refl _) (Obj.cells #[Value.bool true, Value.int IntKind.u64 ((floatOfInt .f64 a : Nat) : Int)] 24)) p0
  replace p1 := cell_later ((Below.refl _ _).alloc (Nat.le_refl _) (Obj.cells #[Value.bool true, Value.int IntKind.u64 ((floatOfInt .f64 a : Nat) : Int)] 24)) p1
  have q0 : (World.alloc x5 (Obj.cells #[Value.bool true, Value.int IntKind.u64 ((floatOfInt .f64 a : Nat) : Int)] 24)).cell? ⟨x5.heap.size, 0, none⟩ = some (.bool true) := by simp
  have q1 : (World.alloc x5 (Obj.cells #[Value.bool true, Value.int IntKind.u64 ((floatOfInt .f64 a : Nat) : Int)] 24)).cell? ⟨x5.heap.size, 1, none⟩ = some (.int .u64 ((floatOfInt .f64 a : Nat) : Int)) := by simp
  replace hB := hB.alloc hB.size (Obj.cells #[Value.bool true, Value.int IntKind.u64 ((floatOfInt .f64 a : Nat) : Int)] 24)
  refine (calc_trunc_bad _ _ _ _).mono ?_
  rintro e x6 ⟨rfl, hb⟩
  replace hB := stepB hB hb
  replace y0 := cell_later hb y0
  replace y1 := cell_later hb y1
  replace y2 := cell_later hb y2
  replace y3 := cell_later hb y3
  replace p0 := cell_later hb p0
  replace p1 := cell_later hb p1
  replace q0 := cell_later hb q0
  replace q1 := cell_later hb q1
  clear hb
  have l1 : x3.heap.size < x6.heap.size := World.block_lt_of_cell? _ _ y0
  have l2 : x3.heap.size + 1 < x6.heap.size := World.block_lt_of_cell? _ _ y2
  have l3 : x4.heap.size < x6.heap.size := World.block_lt_of_cell? _ _ p0
  have l4 : x5.heap.size < x6.heap.size := World.block_lt_of_cell? _ _ q0
  go_wp2
  go_ret
  exact ⟨rfl, hB.alloc hB.size _⟩

theorem walk (op a b : Int) (W : World) (_ : -9223372036854775808 ≤ op ∧ op ≤ 9223372036854775807) (ha : -9223372036854775808 ≤ a ∧ a ≤ 9223372036854775807) (_ : 0 ≤ b ∧ b ≤ 18446744073709551615) (hE : Env W) :
    Calls Tryd.prog 9 #[.int .i64 op, .int .i64 a, .int .u64 b] W fun e W' => e = .returned (.bool true) ∧ Below W.heap.size W W' := by
  by_cases h1 : op < 0
  · exact walk_low op a b W ha h1 hE
  · by_cases h2 : 12 < op
    · exact walk_high op a b W ha (by omega) h2 hE
    · by_cases h3 : op = 5 ∨ op = 6 ∨ op = 11 ∨ op = 12
      · exact walk_T op a b W ha h3 hE
      · exact walk_C op a b W ha (by omega) hE


set_option maxRecDepth 100000 in
/-- WHAT THE WALK GIVES, FOR EVERY ARGUMENT AND EVERY WORLD THAT HOLDS THE TABLES. -/
theorem contract (H : Type) (enc : TypeId × Value → H) (W : World) (base : Nat) (args : Array Value) (ds gs : List (DataW H)) (before : List MemPlace)
    (hval : ∀ (j : Nat) t v, Tryd.f9.params[j]? = some t → args[j]? = some v → Value.okWide Tryd.prog W .any base t v)
    (hW : DataW.Whole enc Tryd.prog Tryd.f9.params.toList Rows.numKindsSpec.vars false W args.toList ds gs before) (hL : laidMetH Tryd.prog Rows.numKindsRow.laid W) :
    Calls Tryd.prog 9 args W fun e W' => ∃ v, e = .returned v ∧ Rows.numKindsSpec.post enc Tryd.prog Tryd.f9 false true false false W args v W' := by
  have hE : Env W := env_of hL
  have hW' := hW
  obtain ⟨p, q, hA0, hV, rfl, hfz, hnd⟩ := hW
  have hA : DataW.TrodAll enc Tryd.prog W 0 (fun _ => true) true Tryd.f9.params.toList args.toList ds p := hA0
  rw [Tryd.params9] at hA hval
  obtain ⟨v0, vs0, d0, ds0, p0, q0, hargs, rfl, rfl, h0, r0⟩ := trodAll_cons hA
  obtain ⟨v1, vs1, d1, ds1, p1, q1, rfl, rfl, rfl, h1, r1⟩ := trodAll_cons r0
  obtain ⟨v2, vs2, d2, ds2, p2, q2, rfl, rfl, rfl, h2, r2⟩ := trodAll_cons r1
  obtain ⟨rfl, rfl, rfl⟩ := trodAll_nil r2
  obtain rfl : args = #[v0, v1, v2] := by cases args; simp_all
  obtain ⟨rfl, rfl⟩ := trodVars_none hV
  obtain ⟨op, rfl, rfl, rfl, wop⟩ := open_int Tryd.underlying3 (hval 0 3 v0 rfl rfl) h0
  obtain ⟨a, rfl, rfl, rfl, wa⟩ := open_int Tryd.underlying2 (hval 1 2 v1 rfl rfl) h1
  obtain ⟨b, rfl, rfl, rfl, wb⟩ := open_int Tryd.underlying22 (hval 2 22 v2 rfl rfl) h2
  clear hA0
  simp only [List.append_nil] at hW'
  refine (walk op a b W (bounds_i64 wop) (bounds_i64 wa) (bounds_u64 wb) hE).mono fun e W' ⟨he, hb⟩ => ?_
  subst he
  exact ⟨_, rfl, _, _, _, [], [], [], hW', trodAll_cons_mk (shut_bool Tryd.underlying4 _) trodAll_mk0, trodAll_cons_mk (shut_int Tryd.underlying3 wop) (trodAll_cons_mk (shut_int Tryd.underlying2 wa) (trodAll_cons_mk (shut_int Tryd.underlying22 wb) trodAll_mk0)), rfl, hb.frame _, fun h => by cases h⟩

/-- A WORLD FOR THE WITNESS: the settled one, the three tables holding what their initialisers lay. -/
noncomputable def laidWorld (os : Os) : World :=
  { World.holding Tryd.prog os ⟨#[], #[], []⟩ with heap := (((World.holding Tryd.prog os ⟨#[], #[], []⟩).heap.modify 5 (putTab (tab32.map (Value.int .u8)).toArray)).modify 6
      (putTab (tab64.map (Value.int .u8)).toArray)).modify 1 (putTab (Lib.pow10Tab.map (Value.int .u64)).toArray) }
theorem laid_met (os : Os) : laidMet Tryd.prog Rows.numKindsRow.laid ((laidWorld os).forCall (fun _ _ => 0) ⟨#[], #[.int .i64 0, .int .i64 0, .int .u64 0], []⟩).memory :=
  laidMet_of_run' 8 (by kernel_rfl) (by kernel_rfl)
theorem reads (os : Os) {H : Type} (enc : TypeId × Value → H) : ∃ places, DataW.whole enc Tryd.prog ((laidWorld os).forCall (fun _ _ => 0) ⟨#[], #[.int .i64 0, .int .i64 0, .int .u64 0], []⟩).memory Tryd.f9.params.toList Rows.numKindsSpec.vars false (#[.int .i64 0, .int .i64 0, .int .u64 0] : Array Value).toList 8 = some ([.lit (.int .i64 0), .lit (.int .i64 0), .lit (.int .u64 0)], [], places) :=
  ⟨[], by kernel_rfl⟩

set_option maxRecDepth 100000 in
theorem lifted (os : Os) (started : os.Started) (H : Type) (enc : TypeId × Value → H) (F : Stop.Interp) :
    ReturnsInHanded {} Tryd.checked os 9 .any ((OpenSpec.ofChange Rows.numKindsSpec).preRow enc Tryd.prog Tryd.f9 Rows.numKindsRow.domain false Rows.numKindsRow.laid) (((OpenSpec.ofChange Rows.numKindsSpec).at F).post enc Tryd.prog Tryd.f9 false true false false) := by
  obtain ⟨places, hx⟩ := reads os enc
  refine returnsInHanded_of_row (C := Tryd.checked) (s := OpenSpec.ofChange Rows.numKindsSpec) own started (by kernel_rfl) Tryd.func9
    (witness_row_at (enc := enc) (C := Tryd.checked) false (laidWorld os) #[.int .i64 0, .int .i64 0, .int .u64 0] rfl (by kernel_rfl) (by kernel_rfl) (by kernel_rfl)
      (OpenSpec.preRow_of_cond 8 hx (by kernel_rfl) (fun k hk => by cases hk) (by kernel_rfl) (laid_met os))) ?_
  intro W base args ds gs before hval hW _ _ _ hL _ _
  exact contract H enc W base args ds gs before hval hW hL

theorem said : Rows.NumKindsSaid :=
  OpenClaim.holds_of_cond 9 Tryd.f9 rfl rfl rfl rfl rfl rfl rfl ⟨rfl, rfl, rfl, rfl, rfl⟩ rfl rfl rfl rfl rfl (by kernel_rfl) Tryd.func9 (by kernel_rfl)
    (of_decide_eq_true (by kernel_rfl)) (by unfold Func.isWrapper; first | (rw [if_pos (by decide +kernel)]; kernel_rfl) | (rw [if_neg (by decide +kernel)]; exact ⟨rfl, rfl⟩))
    (fun os started H enc _ F => by rw [OpenClaim.pre_eq_preRow]; exact lifted os started H enc F)

/-- No parameter wants a stand-in; the program's own looks are off. -/
theorem plain (f : FuncId) (fn : Func) (hf : Tryd.pinned.checked.prog.funcNamed "treadwheel/treadwheellaw01.NumKinds" = some f) (hfn : Tryd.pinned.checked.prog.funcs[f]? = some fn) :
    true = Tryd.pinned.checked.prog.looks [] ∧ ∀ (j : Nat) t, fn.params[j]? = some t → Tryd.pinned.checked.prog.wantsStandIn t = false := by
  obtain rfl : f = 9 := Option.some.inj ((show Tryd.prog.funcNamed "treadwheel/treadwheellaw01.NumKinds" = some 9 by kernel_rfl).symm.trans hf) |>.symm
  obtain rfl : fn = Tryd.f9 := (Option.some.inj (Tryd.func9.symm.trans hfn)).symm
  refine ⟨by kernel_rfl, fun j t ht => ?_⟩
  rw [Tryd.params9] at ht
  have hm := Array.mem_of_getElem? ht
  simp only [List.mem_toArray, List.mem_cons, List.not_mem_nil, or_false] at hm
  rcases hm with rfl | rfl | rfl
  · exact (show Tryd.prog.wantsStandIn 3 = false by kernel_rfl)
  · exact (show Tryd.prog.wantsStandIn 2 = false by kernel_rfl)
  · exact (show Tryd.prog.wantsStandIn 22 = false by kernel_rfl)

/-- THE CARD. -/
theorem card : Rows.NumKindsCardSaid :=
  Claim7.holds_tied_plain_at .later [] _ _ _ _ said (fun _ h => by cases h) (by kernel_rfl) (fun _ h => by cases h) numKinds_row_tie rfl ⟨rfl, rfl⟩ (by kernel_rfl) rfl plain (by kernel_rfl)
end Go.Proofs.YtkmickgngijdlaaDoor.numKinds
namespace Go.Proofs.YtkmickgngijdlaaDoor
theorem numKinds_card : Rows.NumKindsCardSaid := numKinds.card
end Go.Proofs.YtkmickgngijdlaaDoor
