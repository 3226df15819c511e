/- NumSmall: for all integers of its parameters' kinds the statement's function returns true, where the three tables of the library that it reads are as the program's text lays them; each argument reads behind the call as before. -/
import Derived.Test.YtkmickgngijdlaaDoorCards
import Derived.Test.YtkmickgngijdlaaDoorTie
import Derived.Test.YtkmickgngijdlaaDoorLawF
namespace Go.Proofs.YtkmickgngijdlaaDoor.numSmall
open Go.ChangeShapes Go.WideShapes Go.ChangeAt Go.RowKit

theorem own : ownKnob Tryd.prog.godebug = none := by kernel_rfl

set_option maxRecDepth 100000 in
set_option maxHeartbeats 4000000 in
theorem walk_o0 (op a b : Int) (W : World) (h : op < 0) (hE : Env W) :
    Calls Tryd.prog 10 #[.int .i64 op, .int .i32 a, .int .i32 b] W fun e W' => e = .returned (.bool true) ∧ Below W.heap.size W W' := by
  have hB := Below.refl W.heap.size W
  have hA := Lib.hid (awake_any W hE)
  clear hE
  go_enter Tryd.func10, Tryd.ntmps10
  go_wp2_with fail
  refine (hA.out).mono ?_
  rintro e x1 ⟨rfl, hb⟩
  replace hB := stepB hB hb
  clear hb
  go_wp2
  go_ret
  exact ⟨rfl, hB⟩

set_option maxRecDepth 100000 in
set_option maxHeartbeats 4000000 in
theorem walk_o1 (op a b : Int) (W : World) (h0 : 0 ≤ op) (h : 2 < op) (hE : Env W) :
    Calls Tryd.prog 10 #[.int .i64 op, .int .i32 a, .int .i32 b] W fun e W' => e = .returned (.bool true) ∧ Below W.heap.size W W' := by
  have hB := Below.refl W.heap.size W
  have hA := Lib.hid (awake_any W hE)
  clear hE
  go_enter Tryd.func10, Tryd.ntmps10
  go_wp2_with fail
  refine (hA.out).mono ?_
  rintro e x1 ⟨rfl, hb⟩
  replace hB := stepB hB hb
  clear hb
  go_wp2
  go_ret
  exact ⟨rfl, hB⟩

set_option maxRecDepth 100000 in
set_option maxHeartbeats 4000000 in
theorem walk_o2 (op a b : Int) (W : World) (h0 : 0 ≤ op) (h1 : op ≤ 2) (h : 33554432 < a) (hE : Env W) :
    Calls Tryd.prog 10 #[.int .i64 op, .int .i32 a, .int .i32 b] W fun e W' => e = .returned (.bool true) ∧ Below W.heap.size W W' := by
  have hB := Below.refl W.heap.size W
  have hA := Lib.hid (awake_any W hE)
  clear hE
  go_enter Tryd.func10, Tryd.ntmps10
  go_wp2_with fail
  refine (hA.out).mono ?_
  rintro e x1 ⟨rfl, hb⟩
  replace hB := stepB hB hb
  clear hb
  go_wp2
  go_ret
  exact ⟨rfl, hB⟩

set_option maxRecDepth 100000 in
set_option maxHeartbeats 4000000 in
theorem walk_o3 (op a b : Int) (W : World) (h0 : 0 ≤ op) (h1 : op ≤ 2) (h2 : a ≤ 33554432) (h : a < -33554432) (hE : Env W) :
    Calls Tryd.prog 10 #[.int .i64 op, .int .i32 a, .int .i32 b] W fun e W' => e = .returned (.bool true) ∧ Below W.heap.size W W' := by
  have hB := Below.refl W.heap.size W
  have hA := Lib.hid (awake_any W hE)
  clear hE
  go_enter Tryd.func10, Tryd.ntmps10
  go_wp2_with fail
  refine (hA.out).mono ?_
  rintro e x1 ⟨rfl, hb⟩
  replace hB := stepB hB hb
  clear hb
  go_wp2
  go_ret
  exact ⟨rfl, hB⟩

set_option maxRecDepth 100000 in
set_option maxHeartbeats 4000000 in
theorem walk_o4 (op a b : Int) (W : World) (h0 : 0 ≤ op) (h1 : op ≤ 2) (h2 : a ≤ 33554432) (h3 : -33554432 ≤ a) (h : 33554432 < b) (hE : Env W) :
    Calls Tryd.prog 10 #[.int .i64 op, .int .i32 a, .int .i32 b] W fun e W' => e = .returned (.bool true) ∧ Below W.heap.size W W' := by
  have hB := Below.refl W.heap.size W
  have hA := Lib.hid (awake_any W hE)
  clear hE
  go_enter Tryd.func10, Tryd.ntmps10
  go_wp2_with fail
  refine (hA.out).mono ?_
  rintro e x1 ⟨rfl, hb⟩
  replace hB := stepB hB hb
  clear hb
  go_wp2
  go_ret
  exact ⟨rfl, hB⟩

set_option maxRecDepth 100000 in
set_option maxHeartbeats 4000000 in
theorem walk_o5 (op a b : Int) (W : World) (h0 : 0 ≤ op) (h1 : op ≤ 2) (h2 : a ≤ 33554432) (h3 : -33554432 ≤ a) (h4 : b ≤ 33554432) (h : b < -33554432) (hE : Env W) :
    Calls Tryd.prog 10 #[.int .i64 op, .int .i32 a, .int .i32 b] W fun e W' => e = .returned (.bool true) ∧ Below W.heap.size W W' := by
  have hB := Below.refl W.heap.size W
  have hA := Lib.hid (awake_any W hE)
  clear hE
  go_enter Tryd.func10, Tryd.ntmps10
  go_wp2_with fail
  refine (hA.out).mono ?_
  rintro e x1 ⟨rfl, hb⟩
  replace hB := stepB hB hb
  clear hb
  go_wp2
  go_ret
  exact ⟨rfl, hB⟩

set_option maxRecDepth 100000 in
set_option maxHeartbeats 4000000 in
theorem walk_m0 (a b : Int) (W : World) (h2 : a ≤ 33554432) (h3 : -33554432 ≤ a) (h4 : b ≤ 33554432) (h5 : -33554432 ≤ b) (r : Nat) (v : Int) (Ha : InR a) (Hb : InR b)
    (k1 : ∀ w, Calls Tryd.prog 12 #[.int .i64 7, .agg #[.bool true, .int .u64 ((floatOfInt .f64 a : Nat) : Int)], .agg #[.bool true, .int .u64 ((floatOfInt .f64 b : Nat) : Int)]] w fun e w' => e = .returned (.tuple #[.agg #[.bool true, .int .u64 r], .int .i64 0]) ∧ Below w.heap.size w w')
    (k2 : ∀ w, Calls Tryd.prog 12 #[.int .i64 0, .agg #[.bool false, .int .u64 (U a)], .agg #[.bool false, .int .u64 (U b)]] w fun e w' => e = .returned (.tuple #[.agg #[.bool false, .int .u64 (U v)], .int .i64 0]) ∧ Below w.heap.size w w')
    (k3 : Fl.within r = true) (k4 : floatToIntVal .f64 r .i64 = some v) (hE : Env W) :
    Calls Tryd.prog 10 #[.int .i64 0, .int .i32 a, .int .i32 b] W fun e W' => e = .returned (.bool true) ∧ Below W.heap.size W W' := by
  have hB := Below.refl W.heap.size W
  have hA := Lib.hid (awake_any W hE)
  clear hE
  have Hk1 := Lib.hid k1
  clear k1
  have Hk2 := Lib.hid k2
  clear k2
  have Hk3 := Lib.hid k3
  clear k3
  have Hk4 := Lib.hid k4
  clear k4
  have HHa := Lib.hid Ha
  clear Ha
  have HHb := Lib.hid Hb
  clear Hb
  go_enter Tryd.func10, Tryd.ntmps10
  go_wp2_with fail
  refine (hA.out).mono ?_
  rintro e x1 ⟨rfl, hb⟩
  replace hB := stepB hB hb
  clear hb
  go_wp2_with fail
  refine (int_U a _).mono ?_
  rintro e x2 ⟨rfl, hb⟩
  replace hB := stepB hB hb
  clear hb
  go_wp2_with fail
  refine (calc_float a _ _ _ HHa.out).mono ?_
  rintro e x3 ⟨rfl, hb⟩
  replace hB := stepB hB hb
  clear hb
  go_wp2_with fail
  have p0 : (World.alloc x3 (Obj.cells #[Value.bool true, Value.int IntKind.u64 ((floatOfInt .f64 a : Nat) : Int)] 24)).cell? ⟨x3.heap.size, 0, none⟩ = some (.bool true) := by simp
  have p1 : (World.alloc x3 (Obj.cells #[Value.bool true, Value.int IntKind.u64 ((floatOfInt .f64 a : Nat) : Int)] 24)).cell? ⟨x3.heap.size, 1, none⟩ = some (.int .u64 ((floatOfInt .f64 a : Nat) : Int)) := by simp
  replace hB := hB.alloc hB.size (Obj.cells #[Value.bool true, Value.int IntKind.u64 ((floatOfInt .f64 a : Nat) : Int)] 24)
  refine (int_U b _).mono ?_
  rintro e x4 ⟨rfl, hb⟩
  replace hB := stepB hB hb
  replace p0 := cell_later hb p0
  replace p1 := cell_later hb p1
  clear hb
  have lp : x3.heap.size < x4.heap.size := World.block_lt_of_cell? _ _ p0
  go_wp2_with fail
  clear lp
  refine (calc_float b _ _ _ HHb.out).mono ?_
  rintro e x5 ⟨rfl, hb⟩
  replace hB := stepB hB hb
  replace p0 := cell_later hb p0
  replace p1 := cell_later hb p1
  clear hb
  have lp : x3.heap.size < x5.heap.size := World.block_lt_of_cell? _ _ p0
  go_wp2_with fail
  clear lp
  replace p0 := cell_later ((Below.refl _ _).alloc (Nat.le_refl _) (Obj.cells #[Value.bool true, Value.int IntKind.u64 ((floatOfInt .f64 b : Nat) : Int)] 24)) p0
  replace p1 := cell_later ((Below.refl _ _).alloc (Nat.le_refl _) (Obj.cells #[Value.bool true, Value.int IntKind.u64 ((floatOfInt .f64 b : Nat) : Int)] 24)) p1
  have q0 : (World.alloc x5 (Obj.cells #[Value.bool true, Value.int IntKind.u64 ((floatOfInt .f64 b : Nat) : Int)] 24)).cell? ⟨x5.heap.size, 0, none⟩ = some (.bool true) := by simp
  have q1 : (World.alloc x5 (Obj.cells #[Value.bool true, Value.int IntKind.u64 ((floatOfInt .f64 b : Nat) : Int)] 24)).cell? ⟨x5.heap.size, 1, none⟩ = some (.int .u64 ((floatOfInt .f64 b : Nat) : Int)) := by simp
  replace hB := hB.alloc hB.size (Obj.cells #[Value.bool true, Value.int IntKind.u64 ((floatOfInt .f64 b : Nat) : Int)] 24)
  refine (Hk1.out _).mono ?_
  rintro e x6 ⟨rfl, hb⟩
  replace hB := stepB hB hb
  replace p0 := cell_later hb p0
  replace p1 := cell_later hb p1
  replace q0 := cell_later hb q0
  replace q1 := cell_later hb q1
  clear hb
  have lp : x3.heap.size < x6.heap.size := World.block_lt_of_cell? _ _ p0
  have lq : x5.heap.size < x6.heap.size := World.block_lt_of_cell? _ _ q0
  go_wp2_with fail
  clear lp lq
  clear p0 p1 q0 q1
  have z0 : (World.alloc x6 (Obj.cells #[Value.bool true, Value.int IntKind.u64 (r : Int)] 24)).cell? ⟨x6.heap.size, 0, none⟩ = some (.bool true) := by simp
  have z1 : (World.alloc x6 (Obj.cells #[Value.bool true, Value.int IntKind.u64 (r : Int)] 24)).cell? ⟨x6.heap.size, 1, none⟩ = some (.int .u64 (r : Int)) := by simp
  replace hB := hB.alloc hB.size (Obj.cells #[Value.bool true, Value.int IntKind.u64 (r : Int)] 24)
  refine (int_U a _).mono ?_
  rintro e x7 ⟨rfl, hb⟩
  replace hB := stepB hB hb
  replace z0 := cell_later hb z0
  replace z1 := cell_later hb z1
  clear hb
  have lz : x6.heap.size < x7.heap.size := World.block_lt_of_cell? _ _ z0
  go_wp2_with fail
  clear lz
  refine (int_U b _).mono ?_
  rintro e x8 ⟨rfl, hb⟩
  replace hB := stepB hB hb
  replace z0 := cell_later hb z0
  replace z1 := cell_later hb z1
  clear hb
  have lz : x6.heap.size < x8.heap.size := World.block_lt_of_cell? _ _ z0
  go_wp2_with fail
  clear lz
  refine (Hk2.out _).mono ?_
  rintro e x9 ⟨rfl, hb⟩
  replace hB := stepB hB hb
  replace z0 := cell_later hb z0
  replace z1 := cell_later hb z1
  clear hb
  have lz : x6.heap.size < x9.heap.size := World.block_lt_of_cell? _ _ z0
  go_wp2_with fail
  clear lz
  replace z0 := cell_later ((Below.refl _ _).alloc (Nat.le_refl _) (Obj.cells #[Value.bool false, Value.int IntKind.u64 (U v)] 24)) z0
  replace z1 := cell_later ((Below.refl _ _).alloc (Nat.le_refl _) (Obj.cells #[Value.bool false, Value.int IntKind.u64 (U v)] 24)) z1
  have k0 : (World.alloc x9 (Obj.cells #[Value.bool false, Value.int IntKind.u64 (U v)] 24)).cell? ⟨x9.heap.size, 0, none⟩ = some (.bool false) := by simp
  have k1 : (World.alloc x9 (Obj.cells #[Value.bool false, Value.int IntKind.u64 (U v)] 24)).cell? ⟨x9.heap.size, 1, none⟩ = some (.int .u64 (U v)) := by simp
  replace hB := hB.alloc hB.size (Obj.cells #[Value.bool false, Value.int IntKind.u64 (U v)] 24)
  refine (calc_trunc_ok r _ _ v _ Hk3.out Hk4.out).mono ?_
  rintro e x10 ⟨rfl, hb⟩
  replace hB := stepB hB hb
  replace z0 := cell_later hb z0
  replace z1 := cell_later hb z1
  replace k0 := cell_later hb k0
  replace k1 := cell_later hb k1
  clear hb
  have lz : x6.heap.size < x10.heap.size := World.block_lt_of_cell? _ _ z0
  have lk : x9.heap.size < x10.heap.size := World.block_lt_of_cell? _ _ k0
  go_wp2
  clear lz lk
  go_ret
  exact ⟨rfl, hB.alloc hB.size _⟩

set_option maxRecDepth 100000 in
set_option maxHeartbeats 4000000 in
theorem walk_m1 (a b : Int) (W : World) (h2 : a ≤ 33554432) (h3 : -33554432 ≤ a) (h4 : b ≤ 33554432) (h5 : -33554432 ≤ b) (r : Nat) (v : Int) (Ha : InR a) (Hb : InR b)
    (k1 : ∀ w, Calls Tryd.prog 12 #[.int .i64 8, .agg #[.bool true, .int .u64 ((floatOfInt .f64 a : Nat) : Int)], .agg #[.bool true, .int .u64 ((floatOfInt .f64 b : Nat) : Int)]] w fun e w' => e = .returned (.tuple #[.agg #[.bool true, .int .u64 r], .int .i64 0]) ∧ Below w.heap.size w w')
    (k2 : ∀ w, Calls Tryd.prog 12 #[.int .i64 1, .agg #[.bool false, .int .u64 (U a)], .agg #[.bool false, .int .u64 (U b)]] w fun e w' => e = .returned (.tuple #[.agg #[.bool false, .int .u64 (U v)], .int .i64 0]) ∧ Below w.heap.size w w')
    (k3 : Fl.within r = true) (k4 : floatToIntVal .f64 r .i64 = some v) (hE : Env W) :
    Calls Tryd.prog 10 #[.int .i64 1, .int .i32 a, .int .i32 b] W fun e W' => e = .returned (.bool true) ∧ Below W.heap.size W W' := by
  have hB := Below.refl W.heap.size W
  have hA := Lib.hid (awake_any W hE)
  clear hE
  have Hk1 := Lib.hid k1
  clear k1
  have Hk2 := Lib.hid k2
  clear k2
  have Hk3 := Lib.hid k3
  clear k3
  have Hk4 := Lib.hid k4
  clear k4
  have HHa := Lib.hid Ha
  clear Ha
  have HHb := Lib.hid Hb
  clear Hb
  go_enter Tryd.func10, Tryd.ntmps10
  go_wp2_with fail
  refine (hA.out).mono ?_
  rintro e x1 ⟨rfl, hb⟩
  replace hB := stepB hB hb
  clear hb
  go_wp2_with fail
  refine (int_U a _).mono ?_
  rintro e x2 ⟨rfl, hb⟩
  replace hB := stepB hB hb
  clear hb
  go_wp2_with fail
  refine (calc_float a _ _ _ HHa.out).mono ?_
  rintro e x3 ⟨rfl, hb⟩
  replace hB := stepB hB hb
  clear hb
  go_wp2_with fail
  have p0 : (World.alloc x3 (Obj.cells #[Value.bool true, Value.int IntKind.u64 ((floatOfInt .f64 a : Nat) : Int)] 24)).cell? ⟨x3.heap.size, 0, none⟩ = some (.bool true) := by simp
  have p1 : (World.alloc x3 (Obj.cells #[Value.bool true, Value.int IntKind.u64 ((floatOfInt .f64 a : Nat) : Int)] 24)).cell? ⟨x3.heap.size, 1, none⟩ = some (.int .u64 ((floatOfInt .f64 a : Nat) : Int)) := by simp
  replace hB := hB.alloc hB.size (Obj.cells #[Value.bool true, Value.int IntKind.u64 ((floatOfInt .f64 a : Nat) : Int)] 24)
  refine (int_U b _).mono ?_
  rintro e x4 ⟨rfl, hb⟩
  replace hB := stepB hB hb
  replace p0 := cell_later hb p0
  replace p1 := cell_later hb p1
  clear hb
  have lp : x3.heap.size < x4.heap.size := World.block_lt_of_cell? _ _ p0
  go_wp2_with fail
  clear lp
  refine (calc_float b _ _ _ HHb.out).mono ?_
  rintro e x5 ⟨rfl, hb⟩
  replace hB := stepB hB hb
  replace p0 := cell_later hb p0
  replace p1 := cell_later hb p1
  clear hb
  have lp : x3.heap.size < x5.heap.size := World.block_lt_of_cell? _ _ p0
  go_wp2_with fail
  clear lp
  replace p0 := cell_later ((Below.refl _ _).alloc (Nat.le_refl _) (Obj.cells #[Value.bool true, Value.int IntKind.u64 ((floatOfInt .f64 b : Nat) : Int)] 24)) p0
  replace p1 := cell_later ((Below.refl _ _).alloc (Nat.le_refl _) (Obj.cells #[Value.bool true, Value.int IntKind.u64 ((floatOfInt .f64 b : Nat) : Int)] 24)) p1
  have q0 : (World.alloc x5 (Obj.cells #[Value.bool true, Value.int IntKind.u64 ((floatOfInt .f64 b : Nat) : Int)] 24)).cell? ⟨x5.heap.size, 0, none⟩ = some (.bool true) := by simp
  have q1 : (World.alloc x5 (Obj.cells #[Value.bool true, Value.int IntKind.u64 ((floatOfInt .f64 b : Nat) : Int)] 24)).cell? ⟨x5.heap.size, 1, none⟩ = some (.int .u64 ((floatOfInt .f64 b : Nat) : Int)) := by simp
  replace hB := hB.alloc hB.size (Obj.cells #[Value.bool true, Value.int IntKind.u64 ((floatOfInt .f64 b : Nat) : Int)] 24)
  refine (Hk1.out _).mono ?_
  rintro e x6 ⟨rfl, hb⟩
  replace hB := stepB hB hb
  replace p0 := cell_later hb p0
  replace p1 := cell_later hb p1
  replace q0 := cell_later hb q0
  replace q1 := cell_later hb q1
  clear hb
  have lp : x3.heap.size < x6.heap.size := World.block_lt_of_cell? _ _ p0
  have lq : x5.heap.size < x6.heap.size := World.block_lt_of_cell? _ _ q0
  go_wp2_with fail
  clear lp lq
  clear p0 p1 q0 q1
  have z0 : (World.alloc x6 (Obj.cells #[Value.bool true, Value.int IntKind.u64 (r : Int)] 24)).cell? ⟨x6.heap.size, 0, none⟩ = some (.bool true) := by simp
  have z1 : (World.alloc x6 (Obj.cells #[Value.bool true, Value.int IntKind.u64 (r : Int)] 24)).cell? ⟨x6.heap.size, 1, none⟩ = some (.int .u64 (r : Int)) := by simp
  replace hB := hB.alloc hB.size (Obj.cells #[Value.bool true, Value.int IntKind.u64 (r : Int)] 24)
  refine (int_U a _).mono ?_
  rintro e x7 ⟨rfl, hb⟩
  replace hB := stepB hB hb
  replace z0 := cell_later hb z0
  replace z1 := cell_later hb z1
  clear hb
  have lz : x6.heap.size < x7.heap.size := World.block_lt_of_cell? _ _ z0
  go_wp2_with fail
  clear lz
  refine (int_U b _).mono ?_
  rintro e x8 ⟨rfl, hb⟩
  replace hB := stepB hB hb
  replace z0 := cell_later hb z0
  replace z1 := cell_later hb z1
  clear hb
  have lz : x6.heap.size < x8.heap.size := World.block_lt_of_cell? _ _ z0
  go_wp2_with fail
  clear lz
  refine (Hk2.out _).mono ?_
  rintro e x9 ⟨rfl, hb⟩
  replace hB := stepB hB hb
  replace z0 := cell_later hb z0
  replace z1 := cell_later hb z1
  clear hb
  have lz : x6.heap.size < x9.heap.size := World.block_lt_of_cell? _ _ z0
  go_wp2_with fail
  clear lz
  replace z0 := cell_later ((Below.refl _ _).alloc (Nat.le_refl _) (Obj.cells #[Value.bool false, Value.int IntKind.u64 (U v)] 24)) z0
  replace z1 := cell_later ((Below.refl _ _).alloc (Nat.le_refl _) (Obj.cells #[Value.bool false, Value.int IntKind.u64 (U v)] 24)) z1
  have k0 : (World.alloc x9 (Obj.cells #[Value.bool false, Value.int IntKind.u64 (U v)] 24)).cell? ⟨x9.heap.size, 0, none⟩ = some (.bool false) := by simp
  have k1 : (World.alloc x9 (Obj.cells #[Value.bool false, Value.int IntKind.u64 (U v)] 24)).cell? ⟨x9.heap.size, 1, none⟩ = some (.int .u64 (U v)) := by simp
  replace hB := hB.alloc hB.size (Obj.cells #[Value.bool false, Value.int IntKind.u64 (U v)] 24)
  refine (calc_trunc_ok r _ _ v _ Hk3.out Hk4.out).mono ?_
  rintro e x10 ⟨rfl, hb⟩
  replace hB := stepB hB hb
  replace z0 := cell_later hb z0
  replace z1 := cell_later hb z1
  replace k0 := cell_later hb k0
  replace k1 := cell_later hb k1
  clear hb
  have lz : x6.heap.size < x10.heap.size := World.block_lt_of_cell? _ _ z0
  have lk : x9.heap.size < x10.heap.size := World.block_lt_of_cell? _ _ k0
  go_wp2
  clear lz lk
  go_ret
  exact ⟨rfl, hB.alloc hB.size _⟩

set_option maxRecDepth 100000 in
set_option maxHeartbeats 4000000 in
theorem walk_m2 (a b : Int) (W : World) (h2 : a ≤ 33554432) (h3 : -33554432 ≤ a) (h4 : b ≤ 33554432) (h5 : -33554432 ≤ b) (r : Nat) (v : Int) (Ha : InR a) (Hb : InR b)
    (k1 : ∀ w, Calls Tryd.prog 12 #[.int .i64 9, .agg #[.bool true, .int .u64 ((floatOfInt .f64 a : Nat) : Int)], .agg #[.bool true, .int .u64 ((floatOfInt .f64 b : Nat) : Int)]] w fun e w' => e = .returned (.tuple #[.agg #[.bool true, .int .u64 r], .int .i64 0]) ∧ Below w.heap.size w w')
    (k2 : ∀ w, Calls Tryd.prog 12 #[.int .i64 2, .agg #[.bool false, .int .u64 (U a)], .agg #[.bool false, .int .u64 (U b)]] w fun e w' => e = .returned (.tuple #[.agg #[.bool false, .int .u64 (U v)], .int .i64 0]) ∧ Below w.heap.size w w')
    (k3 : Fl.within r = true) (k4 : floatToIntVal .f64 r .i64 = some v) (hE : Env W) :
    Calls Tryd.prog 10 #[.int .i64 2, .int .i32 a, .int .i32 b] W fun e W' => e = .returned (.bool true) ∧ Below W.heap.size W W' := by
  have hB := Below.refl W.heap.size W
  have hA := Lib.hid (awake_any W hE)
  clear hE
  have Hk1 := Lib.hid k1
  clear k1
  have Hk2 := Lib.hid k2
  clear k2
  have Hk3 := Lib.hid k3
  clear k3
  have Hk4 := Lib.hid k4
  clear k4
  have HHa := Lib.hid Ha
  clear Ha
  have HHb := Lib.hid Hb
  clear Hb
  go_enter Tryd.func10, Tryd.ntmps10
  go_wp2_with fail
  refine (hA.out).mono ?_
  rintro e x1 ⟨rfl, hb⟩
  replace hB := stepB hB hb
  clear hb
  go_wp2_with fail
  refine (int_U a _).mono ?_
  rintro e x2 ⟨rfl, hb⟩
  replace hB := stepB hB hb
  clear hb
  go_wp2_with fail
  refine (calc_float a _ _ _ HHa.out).mono ?_
  rintro e x3 ⟨rfl, hb⟩
  replace hB := stepB hB hb
  clear hb
  go_wp2_with fail
  have p0 : (World.alloc x3 (Obj.cells #[Value.bool true, Value.int IntKind.u64 ((floatOfInt .f64 a : Nat) : Int)] 24)).cell? ⟨x3.heap.size, 0, none⟩ = some (.bool true) := by simp
  have p1 : (World.alloc x3 (Obj.cells #[Value.bool true, Value.int IntKind.u64 ((floatOfInt .f64 a : Nat) : Int)] 24)).cell? ⟨x3.heap.size, 1, none⟩ = some (.int .u64 ((floatOfInt .f64 a : Nat) : Int)) := by simp
  replace hB := hB.alloc hB.size (Obj.cells #[Value.bool true, Value.int IntKind.u64 ((floatOfInt .f64 a : Nat) : Int)] 24)
  refine (int_U b _).mono ?_
  rintro e x4 ⟨rfl, hb⟩
  replace hB := stepB hB hb
  replace p0 := cell_later hb p0
  replace p1 := cell_later hb p1
  clear hb
  have lp : x3.heap.size < x4.heap.size := World.block_lt_of_cell? _ _ p0
  go_wp2_with fail
  clear lp
  refine (calc_float b _ _ _ HHb.out).mono ?_
  rintro e x5 ⟨rfl, hb⟩
  replace hB := stepB hB hb
  replace p0 := cell_later hb p0
  replace p1 := cell_later hb p1
  clear hb
  have lp : x3.heap.size < x5.heap.size := World.block_lt_of_cell? _ _ p0
  go_wp2_with fail
  clear lp
  replace p0 := cell_later ((Below.refl _ _).alloc (Nat.le_refl _) (Obj.cells #[Value.bool true, Value.int IntKind.u64 ((floatOfInt .f64 b : Nat) : Int)] 24)) p0
  replace p1 := cell_later ((Below.refl _ _).alloc (Nat.le_refl _) (Obj.cells #[Value.bool true, Value.int IntKind.u64 ((floatOfInt .f64 b : Nat) : Int)] 24)) p1
  have q0 : (World.alloc x5 (Obj.cells #[Value.bool true, Value.int IntKind.u64 ((floatOfInt .f64 b : Nat) : Int)] 24)).cell? ⟨x5.heap.size, 0, none⟩ = some (.bool true) := by simp
  have q1 : (World.alloc x5 (Obj.cells #[Value.bool true, Value.int IntKind.u64 ((floatOfInt .f64 b : Nat) : Int)] 24)).cell? ⟨x5.heap.size, 1, none⟩ = some (.int .u64 ((floatOfInt .f64 b : Nat) : Int)) := by simp
  replace hB := hB.alloc hB.size (Obj.cells #[Value.bool true, Value.int IntKind.u64 ((floatOfInt .f64 b : Nat) : Int)] 24)
  refine (Hk1.out _).mono ?_
  rintro e x6 ⟨rfl, hb⟩
  replace hB := stepB hB hb
  replace p0 := cell_later hb p0
  replace p1 := cell_later hb p1
  replace q0 := cell_later hb q0
  replace q1 := cell_later hb q1
  clear hb
  have lp : x3.heap.size < x6.heap.size := World.block_lt_of_cell? _ _ p0
  have lq : x5.heap.size < x6.heap.size := World.block_lt_of_cell? _ _ q0
  go_wp2_with fail
  clear lp lq
  clear p0 p1 q0 q1
  have z0 : (World.alloc x6 (Obj.cells #[Value.bool true, Value.int IntKind.u64 (r : Int)] 24)).cell? ⟨x6.heap.size, 0, none⟩ = some (.bool true) := by simp
  have z1 : (World.alloc x6 (Obj.cells #[Value.bool true, Value.int IntKind.u64 (r : Int)] 24)).cell? ⟨x6.heap.size, 1, none⟩ = some (.int .u64 (r : Int)) := by simp
  replace hB := hB.alloc hB.size (Obj.cells #[Value.bool true, Value.int IntKind.u64 (r : Int)] 24)
  refine (int_U a _).mono ?_
  rintro e x7 ⟨rfl, hb⟩
  replace hB := stepB hB hb
  replace z0 := cell_later hb z0
  replace z1 := cell_later hb z1
  clear hb
  have lz : x6.heap.size < x7.heap.size := World.block_lt_of_cell? _ _ z0
  go_wp2_with fail
  clear lz
  refine (int_U b _).mono ?_
  rintro e x8 ⟨rfl, hb⟩
  replace hB := stepB hB hb
  replace z0 := cell_later hb z0
  replace z1 := cell_later hb z1
  clear hb
  have lz : x6.heap.size < x8.heap.size := World.block_lt_of_cell? _ _ z0
  go_wp2_with fail
  clear lz
  refine (Hk2.out _).mono ?_
  rintro e x9 ⟨rfl, hb⟩
  replace hB := stepB hB hb
  replace z0 := cell_later hb z0
  replace z1 := cell_later hb z1
  clear hb
  have lz : x6.heap.size < x9.heap.size := World.block_lt_of_cell? _ _ z0
  go_wp2_with fail
  clear lz
  replace z0 := cell_later ((Below.refl _ _).alloc (Nat.le_refl _) (Obj.cells #[Value.bool false, Value.int IntKind.u64 (U v)] 24)) z0
  replace z1 := cell_later ((Below.refl _ _).alloc (Nat.le_refl _) (Obj.cells #[Value.bool false, Value.int IntKind.u64 (U v)] 24)) z1
  have k0 : (World.alloc x9 (Obj.cells #[Value.bool false, Value.int IntKind.u64 (U v)] 24)).cell? ⟨x9.heap.size, 0, none⟩ = some (.bool false) := by simp
  have k1 : (World.alloc x9 (Obj.cells #[Value.bool false, Value.int IntKind.u64 (U v)] 24)).cell? ⟨x9.heap.size, 1, none⟩ = some (.int .u64 (U v)) := by simp
  replace hB := hB.alloc hB.size (Obj.cells #[Value.bool false, Value.int IntKind.u64 (U v)] 24)
  refine (calc_trunc_ok r _ _ v _ Hk3.out Hk4.out).mono ?_
  rintro e x10 ⟨rfl, hb⟩
  replace hB := stepB hB hb
  replace z0 := cell_later hb z0
  replace z1 := cell_later hb z1
  replace k0 := cell_later hb k0
  replace k1 := cell_later hb k1
  clear hb
  have lz : x6.heap.size < x10.heap.size := World.block_lt_of_cell? _ _ z0
  have lk : x9.heap.size < x10.heap.size := World.block_lt_of_cell? _ _ k0
  go_wp2
  clear lz lk
  go_ret
  exact ⟨rfl, hB.alloc hB.size _⟩

theorem walk (op a b : Int) (W : World) (_ : -9223372036854775808 ≤ op ∧ op ≤ 9223372036854775807) (_ : -2147483648 ≤ a ∧ a ≤ 2147483647) (_ : -2147483648 ≤ b ∧ b ≤ 2147483647) (hE : Env W) :
    Calls Tryd.prog 10 #[.int .i64 op, .int .i32 a, .int .i32 b] W fun e W' => e = .returned (.bool true) ∧ Below W.heap.size W W' := by
  by_cases h0 : op < 0
  · exact walk_o0 op a b W h0 hE
  by_cases h1 : 2 < op
  · exact walk_o1 op a b W (by omega) h1 hE
  by_cases h2 : 33554432 < a
  · exact walk_o2 op a b W (by omega) (by omega) h2 hE
  by_cases h3 : a < -33554432
  · exact walk_o3 op a b W (by omega) (by omega) (by omega) h3 hE
  by_cases h4 : 33554432 < b
  · exact walk_o4 op a b W (by omega) (by omega) (by omega) (by omega) h4 hE
  by_cases h5 : b < -33554432
  · exact walk_o5 op a b W (by omega) (by omega) (by omega) (by omega) (by omega) h5 hE
  have Ha : InR a := ⟨by omega, by omega⟩
  have Hb : InR b := ⟨by omega, by omega⟩
  have na : a.natAbs ≤ 33554432 := by omega
  have nb : b.natAbs ≤ 33554432 := by omega
  have hops : op = 0 ∨ op = 1 ∨ op = 2 := by omega
  rcases hops with rfl | rfl | rfl
  · refine walk_m0 a b W (by omega) (by omega) (by omega) (by omega) (floatOfInt .f64 (a + b)) (a + b) Ha Hb (fun w => ?_) (fun w => ?_) ?_ ?_ hE
    · have h := calc_fadd (floatOfInt .f64 a) (floatOfInt .f64 b) w
      rw [Fl.add_ofInt a b (by omega) (by omega)] at h
      exact h
    · have h := calc_add' a b w Ha Hb
      rw [U_wrap64] at h
      exact h
    · exact (Fl.back_small (a + b) (by omega)).1
    · exact (Fl.back_small (a + b) (by omega)).2
  · refine walk_m1 a b W (by omega) (by omega) (by omega) (by omega) (floatOfInt .f64 (a - b)) (a - b) Ha Hb (fun w => ?_) (fun w => ?_) ?_ ?_ hE
    · have h := calc_fsub (floatOfInt .f64 a) (floatOfInt .f64 b) w
      rw [Fl.sub_ofInt a b (by omega) (by omega)] at h
      exact h
    · have h := calc_sub' a b w Ha Hb
      rw [U_wrap64] at h
      exact h
    · exact (Fl.back_small (a - b) (by omega)).1
    · exact (Fl.back_small (a - b) (by omega)).2
  · have hab : (a * b).natAbs < 2 ^ 53 := by
      rw [Int.natAbs_mul]
      have := Nat.mul_le_mul na nb
      omega
    obtain ⟨r, hr, hW, hv⟩ := Fl.mul_ofInt a b (by omega) (by omega) hab
    refine walk_m2 a b W (by omega) (by omega) (by omega) (by omega) r (a * b) Ha Hb (fun w => ?_) (fun w => ?_) hW hv hE
    · have h := calc_fmul (floatOfInt .f64 a) (floatOfInt .f64 b) w
      rw [hr] at h
      exact h
    · have h := calc_mul' a b w Ha Hb
      rw [U_wrap64] at h
      exact h


set_option maxRecDepth 100000 in
/-- WHAT THE WALK GIVES, FOR EVERY ARGUMENT AND EVERY WORLD THAT HOLDS THE TABLES. -/
theorem contract (H : Type) (enc : TypeId × Value → H) (W : World) (base : Nat) (args : Array Value) (ds gs : List (DataW H)) (before : List MemPlace)
    (hval : ∀ (j : Nat) t v, Tryd.f10.params[j]? = some t → args[j]? = some v → Value.okWide Tryd.prog W .any base t v)
    (hW : DataW.Whole enc Tryd.prog Tryd.f10.params.toList Rows.numSmallSpec.vars false W args.toList ds gs before) (hL : laidMetH Tryd.prog Rows.numSmallRow.laid W) :
    Calls Tryd.prog 10 args W fun e W' => ∃ v, e = .returned v ∧ Rows.numSmallSpec.post enc Tryd.prog Tryd.f10 false true false false W args v W' := by
  have hE : Env W := env_of hL
  have hW' := hW
  obtain ⟨p, q, hA0, hV, rfl, hfz, hnd⟩ := hW
  have hA : DataW.TrodAll enc Tryd.prog W 0 (fun _ => true) true Tryd.f10.params.toList args.toList ds p := hA0
  rw [Tryd.params10] at hA hval
  obtain ⟨v0, vs0, d0, ds0, p0, q0, hargs, rfl, rfl, h0, r0⟩ := trodAll_cons hA
  obtain ⟨v1, vs1, d1, ds1, p1, q1, rfl, rfl, rfl, h1, r1⟩ := trodAll_cons r0
  obtain ⟨v2, vs2, d2, ds2, p2, q2, rfl, rfl, rfl, h2, r2⟩ := trodAll_cons r1
  obtain ⟨rfl, rfl, rfl⟩ := trodAll_nil r2
  obtain rfl : args = #[v0, v1, v2] := by cases args; simp_all
  obtain ⟨rfl, rfl⟩ := trodVars_none hV
  obtain ⟨op, rfl, rfl, rfl, wop⟩ := open_int Tryd.underlying3 (hval 0 3 v0 rfl rfl) h0
  obtain ⟨a, rfl, rfl, rfl, wa⟩ := open_int Tryd.underlying21 (hval 1 21 v1 rfl rfl) h1
  obtain ⟨b, rfl, rfl, rfl, wb⟩ := open_int Tryd.underlying21 (hval 2 21 v2 rfl rfl) h2
  clear hA0
  simp only [List.append_nil] at hW'
  refine (walk op a b W (bounds_i64 wop) (bounds_i32 wa) (bounds_i32 wb) hE).mono fun e W' ⟨he, hb⟩ => ?_
  subst he
  exact ⟨_, rfl, _, _, _, [], [], [], hW', trodAll_cons_mk (shut_bool Tryd.underlying4 _) trodAll_mk0, trodAll_cons_mk (shut_int Tryd.underlying3 wop) (trodAll_cons_mk (shut_int Tryd.underlying21 wa) (trodAll_cons_mk (shut_int Tryd.underlying21 wb) trodAll_mk0)), rfl, hb.frame _, fun h => by cases h⟩

/-- A WORLD FOR THE WITNESS: the settled one, the three tables holding what their initialisers lay. -/
noncomputable def laidWorld (os : Os) : World :=
  { World.holding Tryd.prog os ⟨#[], #[], []⟩ with heap := (((World.holding Tryd.prog os ⟨#[], #[], []⟩).heap.modify 5 (putTab (tab32.map (Value.int .u8)).toArray)).modify 6
      (putTab (tab64.map (Value.int .u8)).toArray)).modify 1 (putTab (Lib.pow10Tab.map (Value.int .u64)).toArray) }
theorem laid_met (os : Os) : laidMet Tryd.prog Rows.numSmallRow.laid ((laidWorld os).forCall (fun _ _ => 0) ⟨#[], #[.int .i64 0, .int .i32 0, .int .i32 0], []⟩).memory :=
  laidMet_of_run' 8 (by kernel_rfl) (by kernel_rfl)
theorem reads (os : Os) {H : Type} (enc : TypeId × Value → H) : ∃ places, DataW.whole enc Tryd.prog ((laidWorld os).forCall (fun _ _ => 0) ⟨#[], #[.int .i64 0, .int .i32 0, .int .i32 0], []⟩).memory Tryd.f10.params.toList Rows.numSmallSpec.vars false (#[.int .i64 0, .int .i32 0, .int .i32 0] : Array Value).toList 8 = some ([.lit (.int .i64 0), .lit (.int .i32 0), .lit (.int .i32 0)], [], places) :=
  ⟨[], by kernel_rfl⟩

set_option maxRecDepth 100000 in
theorem lifted (os : Os) (started : os.Started) (H : Type) (enc : TypeId × Value → H) (F : Stop.Interp) :
    ReturnsInHanded {} Tryd.checked os 10 .any ((OpenSpec.ofChange Rows.numSmallSpec).preRow enc Tryd.prog Tryd.f10 Rows.numSmallRow.domain false Rows.numSmallRow.laid) (((OpenSpec.ofChange Rows.numSmallSpec).at F).post enc Tryd.prog Tryd.f10 false true false false) := by
  obtain ⟨places, hx⟩ := reads os enc
  refine returnsInHanded_of_row (C := Tryd.checked) (s := OpenSpec.ofChange Rows.numSmallSpec) own started (by kernel_rfl) Tryd.func10
    (witness_row_at (enc := enc) (C := Tryd.checked) false (laidWorld os) #[.int .i64 0, .int .i32 0, .int .i32 0] rfl (by kernel_rfl) (by kernel_rfl) (by kernel_rfl)
      (OpenSpec.preRow_of_cond 8 hx (by kernel_rfl) (fun k hk => by cases hk) (by kernel_rfl) (laid_met os))) ?_
  intro W base args ds gs before hval hW _ _ _ hL _ _
  exact contract H enc W base args ds gs before hval hW hL

theorem said : Rows.NumSmallSaid :=
  OpenClaim.holds_of_cond 10 Tryd.f10 rfl rfl rfl rfl rfl rfl rfl ⟨rfl, rfl, rfl, rfl, rfl⟩ rfl rfl rfl rfl rfl (by kernel_rfl) Tryd.func10 (by kernel_rfl)
    (of_decide_eq_true (by kernel_rfl)) (by unfold Func.isWrapper; first | (rw [if_pos (by decide +kernel)]; kernel_rfl) | (rw [if_neg (by decide +kernel)]; exact ⟨rfl, rfl⟩))
    (fun os started H enc _ F => by rw [OpenClaim.pre_eq_preRow]; exact lifted os started H enc F)

/-- No parameter wants a stand-in; the program's own looks are off. -/
theorem plain (f : FuncId) (fn : Func) (hf : Tryd.pinned.checked.prog.funcNamed "treadwheel/treadwheellaw01.NumSmall" = some f) (hfn : Tryd.pinned.checked.prog.funcs[f]? = some fn) :
    true = Tryd.pinned.checked.prog.looks [] ∧ ∀ (j : Nat) t, fn.params[j]? = some t → Tryd.pinned.checked.prog.wantsStandIn t = false := by
  obtain rfl : f = 10 := Option.some.inj ((show Tryd.prog.funcNamed "treadwheel/treadwheellaw01.NumSmall" = some 10 by kernel_rfl).symm.trans hf) |>.symm
  obtain rfl : fn = Tryd.f10 := (Option.some.inj (Tryd.func10.symm.trans hfn)).symm
  refine ⟨by kernel_rfl, fun j t ht => ?_⟩
  rw [Tryd.params10] at ht
  have hm := Array.mem_of_getElem? ht
  simp only [List.mem_toArray, List.mem_cons, List.not_mem_nil, or_false] at hm
  rcases hm with rfl | rfl | rfl
  · exact (show Tryd.prog.wantsStandIn 3 = false by kernel_rfl)
  · exact (show Tryd.prog.wantsStandIn 21 = false by kernel_rfl)
  · exact (show Tryd.prog.wantsStandIn 21 = false by kernel_rfl)

/-- THE CARD. -/
theorem card : Rows.NumSmallCardSaid :=
  Claim7.holds_tied_plain_at .later [] _ _ _ _ said (fun _ h => by cases h) (by kernel_rfl) (fun _ h => by cases h) numSmall_row_tie rfl ⟨rfl, rfl⟩ (by kernel_rfl) rfl plain (by kernel_rfl)
end Go.Proofs.YtkmickgngijdlaaDoor.numSmall
namespace Go.Proofs.YtkmickgngijdlaaDoor
theorem numSmall_card : Rows.NumSmallCardSaid := numSmall.card
end Go.Proofs.YtkmickgngijdlaaDoor
