/- NumTrunc: for all integers of its parameters' kinds the statement's function returns true, where the three tables of the library that it reads are as the program's text lays them; each argument reads behind the call as before. -/
import Derived.Test.YtkmickgngijdlaaDoorCards
import Derived.Test.YtkmickgngijdlaaDoorTie
import Derived.Test.YtkmickgngijdlaaDoorLawF
import Derived.BigQuiet
import Derived.Deep.QuietTactic
namespace Go.Proofs.YtkmickgngijdlaaDoor.numTrunc
open Go.ChangeShapes Go.WideShapes Go.ChangeAt Go.RowKit

theorem own : ownKnob Tryd.prog.godebug = none := by kernel_rfl

theorem keepc2 {W w w' : World} {a0 a1 : Addr} {v0 v1 : Value} (h : Below W.heap.size W w ∧ w.cell? a0 = some v0 ∧ w.cell? a1 = some v1) (hb : Below w.heap.size w w') :
    Below W.heap.size W w' ∧ w'.cell? a0 = some v0 ∧ w'.cell? a1 = some v1 :=
  ⟨stepB h.1 hb, cell_later hb h.2.1, cell_later hb h.2.2⟩

theorem belowN {B : Nat} {a w : World} (h : Below B a w) (n : Nat) : Below B a (w.drewN n) := ⟨h.os, h.tape, h.output, h.size, h.block⟩

theorem back53 (n : Int) (h1 : n ≤ 9007199254740992) (h2 : -9007199254740992 ≤ n) : Fl.within (floatOfInt .f64 n) = true ∧ floatToIntVal .f64 (floatOfInt .f64 n) .i64 = some n := by
  by_cases hs : n.natAbs < 2 ^ 53
  · exact Fl.back_small n hs
  · have : n = 9007199254740992 ∨ n = -9007199254740992 := by omega
    rcases this with rfl | rfl
    · exact ⟨by decide +kernel, by decide +kernel⟩
    · exact ⟨by decide +kernel, by decide +kernel⟩

set_option maxRecDepth 100000 in
set_option maxHeartbeats 4000000 in
theorem walk_1_1 (n : Int) (b : Nat) (W : World) (hn : InR n) (r1 : n ≤ 9007199254740992) (r2 : -9007199254740992 ≤ n) (hW : Fl.within (floatOfInt .f64 n) = true) (hk : floatToIntVal .f64 (floatOfInt .f64 n) .i64 = some n) (k : Int) (hkr : InR k) (bW : Fl.within b = true) (bk : floatToIntVal .f64 b .i64 = some k) (cW : Fl.within (floatOfInt .f64 k) = true) (ck : floatToIntVal .f64 (floatOfInt .f64 k) .i64 = some k) (hE : Env W) :
    Calls Tryd.prog 7 #[.int .i64 n, .int .u64 b] W fun e W' => e = .returned (.bool true) ∧ Below W.heap.size W W' := by
  have hB := Below.refl W.heap.size W
  have hA := Lib.hid (awake_any W hE)
  clear hE
  have HhW := Lib.hid hW
  clear hW
  have Hhk := Lib.hid hk
  clear hk
  have HbW := Lib.hid bW
  clear bW
  have Hbk := Lib.hid bk
  clear bk
  have HcW := Lib.hid cW
  clear cW
  have Hck := Lib.hid ck
  clear ck
  go_enter Tryd.func7, Tryd.ntmps7
  go_wp2_with fail
  refine (hA.out).mono ?_
  rintro e x1 ⟨rfl, hb⟩
  replace hB := stepB hB hb
  clear hb
  go_wp2_with fail
  refine (int_U n _).mono ?_
  rintro e x2 ⟨rfl, hb⟩
  replace hB := stepB hB hb
  clear hb
  go_wp2_with fail
  refine (calc_float n _ _ _ hn).mono ?_
  rintro e x3 ⟨rfl, hb⟩
  replace hB := stepB hB hb
  clear hb
  go_wp2_with fail
  have p0 : (World.alloc x3 (Obj.cells #[Value.bool true, Value.int IntKind.u64 ((floatOfInt .f64 n : Nat) : Int)] 24)).cell? ⟨x3.heap.size, 0, none⟩ = some (.bool true) := by simp
  have p1 : (World.alloc x3 (Obj.cells #[Value.bool true, Value.int IntKind.u64 ((floatOfInt .f64 n : Nat) : Int)] 24)).cell? ⟨x3.heap.size, 1, none⟩ = some (.int .u64 ((floatOfInt .f64 n : Nat) : Int)) := by simp
  replace hB := hB.alloc hB.size (Obj.cells #[Value.bool true, Value.int IntKind.u64 ((floatOfInt .f64 n : Nat) : Int)] 24)
  refine (calc_trunc_ok (floatOfInt .f64 n) _ _ n _ HhW.out Hhk.out).mono ?_
  rintro e x4 ⟨rfl, hb⟩
  replace hB := stepB hB hb
  replace p0 := cell_later hb p0
  replace p1 := cell_later hb p1
  clear hb
  have lp : x3.heap.size < x4.heap.size := World.block_lt_of_cell? _ _ p0
  go_wp2_with fail
  clear lp
  have y0 : (World.alloc x4 (Obj.cells #[Value.bool false, Value.int IntKind.u64 (U n)] 24)).cell? ⟨x4.heap.size, 0, none⟩ = some (.bool false) := by simp
  have y1 : (World.alloc x4 (Obj.cells #[Value.bool false, Value.int IntKind.u64 (U n)] 24)).cell? ⟨x4.heap.size, 1, none⟩ = some (.int .u64 (U n)) := by simp
  replace hB := hB.alloc hB.size (Obj.cells #[Value.bool false, Value.int IntKind.u64 (U n)] 24)
  go_region_held3 (fun w' => Below W.heap.size W w' ∧ w'.cell? ⟨x4.heap.size, 0, none⟩ = some (.bool false) ∧ w'.cell? ⟨x4.heap.size, 1, none⟩ = some (.int .u64 (U n)))
    (first
      | exact keepc2 (by assumption) hb
      | exact keepc2 ⟨hB, y0, y1⟩ (Below.refl _ _).drew)
    (first
      | (go_at_call 18; refine (int_U n _).mono ?_; rintro e w' ⟨rfl, hb⟩))
  replace hB := stepB hB.drew hb
  clear hb
  go_wp2_with fail
  refine (flt_any b _).mono ?_
  rintro e x5 ⟨rfl, hb⟩
  replace hB := stepB hB hb
  clear hb
  go_wp2_with fail
  refine (calc_trunc_ok b _ _ k _ HbW.out Hbk.out).mono ?_
  rintro e x6 ⟨rfl, hb⟩
  replace hB := stepB hB hb
  clear hb
  go_wp2_with fail
  clear y0 y1
  have i0 : (World.alloc x6 (Obj.cells #[Value.bool false, Value.int IntKind.u64 (U k)] 24)).cell? ⟨x6.heap.size, 0, none⟩ = some (.bool false) := by simp
  have i1 : (World.alloc x6 (Obj.cells #[Value.bool false, Value.int IntKind.u64 (U k)] 24)).cell? ⟨x6.heap.size, 1, none⟩ = some (.int .u64 (U k)) := by simp
  replace hB := hB.alloc hB.size (Obj.cells #[Value.bool false, Value.int IntKind.u64 (U k)] 24)
  refine (calc_float k _ _ _ hkr).mono ?_
  rintro e x7 ⟨rfl, hb⟩
  replace hB := stepB hB hb
  replace i0 := cell_later hb i0
  replace i1 := cell_later hb i1
  clear hb
  have li : x6.heap.size < x7.heap.size := World.block_lt_of_cell? _ _ i0
  go_wp2_with fail
  clear li
  replace i0 := cell_later ((Below.refl _ _).alloc (Nat.le_refl _) (Obj.cells #[Value.bool true, Value.int IntKind.u64 ((floatOfInt .f64 k : Nat) : Int)] 24)) i0
  replace i1 := cell_later ((Below.refl _ _).alloc (Nat.le_refl _) (Obj.cells #[Value.bool true, Value.int IntKind.u64 ((floatOfInt .f64 k : Nat) : Int)] 24)) i1
  have f0 : (World.alloc x7 (Obj.cells #[Value.bool true, Value.int IntKind.u64 ((floatOfInt .f64 k : Nat) : Int)] 24)).cell? ⟨x7.heap.size, 0, none⟩ = some (.bool true) := by simp
  have f1 : (World.alloc x7 (Obj.cells #[Value.bool true, Value.int IntKind.u64 ((floatOfInt .f64 k : Nat) : Int)] 24)).cell? ⟨x7.heap.size, 1, none⟩ = some (.int .u64 ((floatOfInt .f64 k : Nat) : Int)) := by simp
  replace hB := hB.alloc hB.size (Obj.cells #[Value.bool true, Value.int IntKind.u64 ((floatOfInt .f64 k : Nat) : Int)] 24)
  refine (calc_trunc_ok (floatOfInt .f64 k) _ _ k _ HcW.out Hck.out).mono ?_
  rintro e x8 ⟨rfl, hb⟩
  replace hB := stepB hB hb
  replace i0 := cell_later hb i0
  replace i1 := cell_later hb i1
  replace f0 := cell_later hb f0
  replace f1 := cell_later hb f1
  clear hb
  have li : x6.heap.size < x8.heap.size := World.block_lt_of_cell? _ _ i0
  have lf : x7.heap.size < x8.heap.size := World.block_lt_of_cell? _ _ f0
  go_wp2
  clear li lf
  go_ret
  exact ⟨rfl, hB.alloc hB.size _⟩

set_option maxRecDepth 100000 in
set_option maxHeartbeats 4000000 in
theorem walk_1_2 (n : Int) (b : Nat) (W : World) (hn : InR n) (r1 : n ≤ 9007199254740992) (r2 : -9007199254740992 ≤ n) (hW : Fl.within (floatOfInt .f64 n) = true) (hk : floatToIntVal .f64 (floatOfInt .f64 n) .i64 = some n) (bW : Fl.within b = false) (hE : Env W) :
    Calls Tryd.prog 7 #[.int .i64 n, .int .u64 b] W fun e W' => e = .returned (.bool true) ∧ Below W.heap.size W W' := by
  have hB := Below.refl W.heap.size W
  have hA := Lib.hid (awake_any W hE)
  clear hE
  have HhW := Lib.hid hW
  clear hW
  have Hhk := Lib.hid hk
  clear hk
  have HbW := Lib.hid bW
  clear bW
  go_enter Tryd.func7, Tryd.ntmps7
  go_wp2_with fail
  refine (hA.out).mono ?_
  rintro e x1 ⟨rfl, hb⟩
  replace hB := stepB hB hb
  clear hb
  go_wp2_with fail
  refine (int_U n _).mono ?_
  rintro e x2 ⟨rfl, hb⟩
  replace hB := stepB hB hb
  clear hb
  go_wp2_with fail
  refine (calc_float n _ _ _ hn).mono ?_
  rintro e x3 ⟨rfl, hb⟩
  replace hB := stepB hB hb
  clear hb
  go_wp2_with fail
  have p0 : (World.alloc x3 (Obj.cells #[Value.bool true, Value.int IntKind.u64 ((floatOfInt .f64 n : Nat) : Int)] 24)).cell? ⟨x3.heap.size, 0, none⟩ = some (.bool true) := by simp
  have p1 : (World.alloc x3 (Obj.cells #[Value.bool true, Value.int IntKind.u64 ((floatOfInt .f64 n : Nat) : Int)] 24)).cell? ⟨x3.heap.size, 1, none⟩ = some (.int .u64 ((floatOfInt .f64 n : Nat) : Int)) := by simp
  replace hB := hB.alloc hB.size (Obj.cells #[Value.bool true, Value.int IntKind.u64 ((floatOfInt .f64 n : Nat) : Int)] 24)
  refine (calc_trunc_ok (floatOfInt .f64 n) _ _ n _ HhW.out Hhk.out).mono ?_
  rintro e x4 ⟨rfl, hb⟩
  replace hB := stepB hB hb
  replace p0 := cell_later hb p0
  replace p1 := cell_later hb p1
  clear hb
  have lp : x3.heap.size < x4.heap.size := World.block_lt_of_cell? _ _ p0
  go_wp2_with fail
  clear lp
  have y0 : (World.alloc x4 (Obj.cells #[Value.bool false, Value.int IntKind.u64 (U n)] 24)).cell? ⟨x4.heap.size, 0, none⟩ = some (.bool false) := by simp
  have y1 : (World.alloc x4 (Obj.cells #[Value.bool false, Value.int IntKind.u64 (U n)] 24)).cell? ⟨x4.heap.size, 1, none⟩ = some (.int .u64 (U n)) := by simp
  replace hB := hB.alloc hB.size (Obj.cells #[Value.bool false, Value.int IntKind.u64 (U n)] 24)
  go_region_held3 (fun w' => Below W.heap.size W w' ∧ w'.cell? ⟨x4.heap.size, 0, none⟩ = some (.bool false) ∧ w'.cell? ⟨x4.heap.size, 1, none⟩ = some (.int .u64 (U n)))
    (first
      | exact keepc2 (by assumption) hb
      | exact keepc2 ⟨hB, y0, y1⟩ (Below.refl _ _).drew)
    (first
      | (go_at_call 18; refine (int_U n _).mono ?_; rintro e w' ⟨rfl, hb⟩))
  replace hB := stepB hB.drew hb
  clear hb
  go_wp2_with fail
  refine (flt_any b _).mono ?_
  rintro e x5 ⟨rfl, hb⟩
  replace hB := stepB hB hb
  clear hb
  go_wp2_with fail
  refine (calc_trunc_out b _ _ _ HbW.out).mono ?_
  rintro e x6 ⟨rfl, hb⟩
  replace hB := stepB hB hb
  clear hb
  go_wp2
  go_ret
  exact ⟨rfl, hB.alloc hB.size _⟩

set_option maxRecDepth 100000 in
set_option maxHeartbeats 4000000 in
theorem walk_2a_1 (n : Int) (b : Nat) (W : World) (hn : InR n) (r : decide (n ≤ 9007199254740992) = false) (k1 : Int) (hW : Fl.within (floatOfInt .f64 n) = true) (hk : floatToIntVal .f64 (floatOfInt .f64 n) .i64 = some k1) (k : Int) (hkr : InR k) (bW : Fl.within b = true) (bk : floatToIntVal .f64 b .i64 = some k) (cW : Fl.within (floatOfInt .f64 k) = true) (ck : floatToIntVal .f64 (floatOfInt .f64 k) .i64 = some k) (hE : Env W) :
    Calls Tryd.prog 7 #[.int .i64 n, .int .u64 b] W fun e W' => e = .returned (.bool true) ∧ Below W.heap.size W W' := by
  have hB := Below.refl W.heap.size W
  have hA := Lib.hid (awake_any W hE)
  clear hE
  have HhW := Lib.hid hW
  clear hW
  have Hhk := Lib.hid hk
  clear hk
  have HbW := Lib.hid bW
  clear bW
  have Hbk := Lib.hid bk
  clear bk
  have HcW := Lib.hid cW
  clear cW
  have Hck := Lib.hid ck
  clear ck
  go_enter Tryd.func7, Tryd.ntmps7
  go_wp2_with fail
  refine (hA.out).mono ?_
  rintro e x1 ⟨rfl, hb⟩
  replace hB := stepB hB hb
  clear hb
  go_wp2_with fail
  refine (int_U n _).mono ?_
  rintro e x2 ⟨rfl, hb⟩
  replace hB := stepB hB hb
  clear hb
  go_wp2_with fail
  refine (calc_float n _ _ _ hn).mono ?_
  rintro e x3 ⟨rfl, hb⟩
  replace hB := stepB hB hb
  clear hb
  go_wp2_with fail
  have p0 : (World.alloc x3 (Obj.cells #[Value.bool true, Value.int IntKind.u64 ((floatOfInt .f64 n : Nat) : Int)] 24)).cell? ⟨x3.heap.size, 0, none⟩ = some (.bool true) := by simp
  have p1 : (World.alloc x3 (Obj.cells #[Value.bool true, Value.int IntKind.u64 ((floatOfInt .f64 n : Nat) : Int)] 24)).cell? ⟨x3.heap.size, 1, none⟩ = some (.int .u64 ((floatOfInt .f64 n : Nat) : Int)) := by simp
  replace hB := hB.alloc hB.size (Obj.cells #[Value.bool true, Value.int IntKind.u64 ((floatOfInt .f64 n : Nat) : Int)] 24)
  refine (calc_trunc_ok (floatOfInt .f64 n) _ _ k1 _ HhW.out Hhk.out).mono ?_
  rintro e x4 ⟨rfl, hb⟩
  replace hB := stepB hB hb
  replace p0 := cell_later hb p0
  replace p1 := cell_later hb p1
  clear hb
  have lp : x3.heap.size < x4.heap.size := World.block_lt_of_cell? _ _ p0
  go_wp2_with fail
  clear lp
  clear p0 p1
  have y0 : (World.alloc x4 (Obj.cells #[Value.bool false, Value.int IntKind.u64 (U k1)] 24)).cell? ⟨x4.heap.size, 0, none⟩ = some (.bool false) := by simp
  have y1 : (World.alloc x4 (Obj.cells #[Value.bool false, Value.int IntKind.u64 (U k1)] 24)).cell? ⟨x4.heap.size, 1, none⟩ = some (.int .u64 (U k1)) := by simp
  replace hB := hB.alloc hB.size (Obj.cells #[Value.bool false, Value.int IntKind.u64 (U k1)] 24)
  go_quiet (fail)
  go_wp2_with fail
  replace hB := belowN hB nq
  clear y0 y1
  refine (flt_any b _).mono ?_
  rintro e x5 ⟨rfl, hb⟩
  replace hB := stepB hB hb
  clear hb
  go_wp2_with fail
  refine (calc_trunc_ok b _ _ k _ HbW.out Hbk.out).mono ?_
  rintro e x6 ⟨rfl, hb⟩
  replace hB := stepB hB hb
  clear hb
  go_wp2_with fail
  have i0 : (World.alloc x6 (Obj.cells #[Value.bool false, Value.int IntKind.u64 (U k)] 24)).cell? ⟨x6.heap.size, 0, none⟩ = some (.bool false) := by simp
  have i1 : (World.alloc x6 (Obj.cells #[Value.bool false, Value.int IntKind.u64 (U k)] 24)).cell? ⟨x6.heap.size, 1, none⟩ = some (.int .u64 (U k)) := by simp
  replace hB := hB.alloc hB.size (Obj.cells #[Value.bool false, Value.int IntKind.u64 (U k)] 24)
  refine (calc_float k _ _ _ hkr).mono ?_
  rintro e x7 ⟨rfl, hb⟩
  replace hB := stepB hB hb
  replace i0 := cell_later hb i0
  replace i1 := cell_later hb i1
  clear hb
  have li : x6.heap.size < x7.heap.size := World.block_lt_of_cell? _ _ i0
  go_wp2_with fail
  clear li
  replace i0 := cell_later ((Below.refl _ _).alloc (Nat.le_refl _) (Obj.cells #[Value.bool true, Value.int IntKind.u64 ((floatOfInt .f64 k : Nat) : Int)] 24)) i0
  replace i1 := cell_later ((Below.refl _ _).alloc (Nat.le_refl _) (Obj.cells #[Value.bool true, Value.int IntKind.u64 ((floatOfInt .f64 k : Nat) : Int)] 24)) i1
  have f0 : (World.alloc x7 (Obj.cells #[Value.bool true, Value.int IntKind.u64 ((floatOfInt .f64 k : Nat) : Int)] 24)).cell? ⟨x7.heap.size, 0, none⟩ = some (.bool true) := by simp
  have f1 : (World.alloc x7 (Obj.cells #[Value.bool true, Value.int IntKind.u64 ((floatOfInt .f64 k : Nat) : Int)] 24)).cell? ⟨x7.heap.size, 1, none⟩ = some (.int .u64 ((floatOfInt .f64 k : Nat) : Int)) := by simp
  replace hB := hB.alloc hB.size (Obj.cells #[Value.bool true, Value.int IntKind.u64 ((floatOfInt .f64 k : Nat) : Int)] 24)
  refine (calc_trunc_ok (floatOfInt .f64 k) _ _ k _ HcW.out Hck.out).mono ?_
  rintro e x8 ⟨rfl, hb⟩
  replace hB := stepB hB hb
  replace i0 := cell_later hb i0
  replace i1 := cell_later hb i1
  replace f0 := cell_later hb f0
  replace f1 := cell_later hb f1
  clear hb
  have li : x6.heap.size < x8.heap.size := World.block_lt_of_cell? _ _ i0
  have lf : x7.heap.size < x8.heap.size := World.block_lt_of_cell? _ _ f0
  go_wp2
  clear li lf
  go_ret
  exact ⟨rfl, hB.alloc hB.size _⟩

set_option maxRecDepth 100000 in
set_option maxHeartbeats 4000000 in
theorem walk_2a_2 (n : Int) (b : Nat) (W : World) (hn : InR n) (r : decide (n ≤ 9007199254740992) = false) (k1 : Int) (hW : Fl.within (floatOfInt .f64 n) = true) (hk : floatToIntVal .f64 (floatOfInt .f64 n) .i64 = some k1) (bW : Fl.within b = false) (hE : Env W) :
    Calls Tryd.prog 7 #[.int .i64 n, .int .u64 b] W fun e W' => e = .returned (.bool true) ∧ Below W.heap.size W W' := by
  have hB := Below.refl W.heap.size W
  have hA := Lib.hid (awake_any W hE)
  clear hE
  have HhW := Lib.hid hW
  clear hW
  have Hhk := Lib.hid hk
  clear hk
  have HbW := Lib.hid bW
  clear bW
  go_enter Tryd.func7, Tryd.ntmps7
  go_wp2_with fail
  refine (hA.out).mono ?_
  rintro e x1 ⟨rfl, hb⟩
  replace hB := stepB hB hb
  clear hb
  go_wp2_with fail
  refine (int_U n _).mono ?_
  rintro e x2 ⟨rfl, hb⟩
  replace hB := stepB hB hb
  clear hb
  go_wp2_with fail
  refine (calc_float n _ _ _ hn).mono ?_
  rintro e x3 ⟨rfl, hb⟩
  replace hB := stepB hB hb
  clear hb
  go_wp2_with fail
  have p0 : (World.alloc x3 (Obj.cells #[Value.bool true, Value.int IntKind.u64 ((floatOfInt .f64 n : Nat) : Int)] 24)).cell? ⟨x3.heap.size, 0, none⟩ = some (.bool true) := by simp
  have p1 : (World.alloc x3 (Obj.cells #[Value.bool true, Value.int IntKind.u64 ((floatOfInt .f64 n : Nat) : Int)] 24)).cell? ⟨x3.heap.size, 1, none⟩ = some (.int .u64 ((floatOfInt .f64 n : Nat) : Int)) := by simp
  replace hB := hB.alloc hB.size (Obj.cells #[Value.bool true, Value.int IntKind.u64 ((floatOfInt .f64 n : Nat) : Int)] 24)
  refine (calc_trunc_ok (floatOfInt .f64 n) _ _ k1 _ HhW.out Hhk.out).mono ?_
  rintro e x4 ⟨rfl, hb⟩
  replace hB := stepB hB hb
  replace p0 := cell_later hb p0
  replace p1 := cell_later hb p1
  clear hb
  have lp : x3.heap.size < x4.heap.size := World.block_lt_of_cell? _ _ p0
  go_wp2_with fail
  clear lp
  clear p0 p1
  have y0 : (World.alloc x4 (Obj.cells #[Value.bool false, Value.int IntKind.u64 (U k1)] 24)).cell? ⟨x4.heap.size, 0, none⟩ = some (.bool false) := by simp
  have y1 : (World.alloc x4 (Obj.cells #[Value.bool false, Value.int IntKind.u64 (U k1)] 24)).cell? ⟨x4.heap.size, 1, none⟩ = some (.int .u64 (U k1)) := by simp
  replace hB := hB.alloc hB.size (Obj.cells #[Value.bool false, Value.int IntKind.u64 (U k1)] 24)
  go_quiet (fail)
  go_wp2_with fail
  replace hB := belowN hB nq
  clear y0 y1
  refine (flt_any b _).mono ?_
  rintro e x5 ⟨rfl, hb⟩
  replace hB := stepB hB hb
  clear hb
  go_wp2_with fail
  refine (calc_trunc_out b _ _ _ HbW.out).mono ?_
  rintro e x6 ⟨rfl, hb⟩
  replace hB := stepB hB hb
  clear hb
  go_wp2
  go_ret
  exact ⟨rfl, hB.alloc hB.size _⟩

set_option maxRecDepth 100000 in
set_option maxHeartbeats 4000000 in
theorem walk_2b_1 (n : Int) (b : Nat) (W : World) (hn : InR n) (r : decide (n ≤ 9007199254740992) = true) (r2 : decide (-9007199254740992 ≤ n) = false) (k1 : Int) (hW : Fl.within (floatOfInt .f64 n) = true) (hk : floatToIntVal .f64 (floatOfInt .f64 n) .i64 = some k1) (k : Int) (hkr : InR k) (bW : Fl.within b = true) (bk : floatToIntVal .f64 b .i64 = some k) (cW : Fl.within (floatOfInt .f64 k) = true) (ck : floatToIntVal .f64 (floatOfInt .f64 k) .i64 = some k) (hE : Env W) :
    Calls Tryd.prog 7 #[.int .i64 n, .int .u64 b] W fun e W' => e = .returned (.bool true) ∧ Below W.heap.size W W' := by
  have hB := Below.refl W.heap.size W
  have hA := Lib.hid (awake_any W hE)
  clear hE
  have HhW := Lib.hid hW
  clear hW
  have Hhk := Lib.hid hk
  clear hk
  have HbW := Lib.hid bW
  clear bW
  have Hbk := Lib.hid bk
  clear bk
  have HcW := Lib.hid cW
  clear cW
  have Hck := Lib.hid ck
  clear ck
  go_enter Tryd.func7, Tryd.ntmps7
  go_wp2_with fail
  refine (hA.out).mono ?_
  rintro e x1 ⟨rfl, hb⟩
  replace hB := stepB hB hb
  clear hb
  go_wp2_with fail
  refine (int_U n _).mono ?_
  rintro e x2 ⟨rfl, hb⟩
  replace hB := stepB hB hb
  clear hb
  go_wp2_with fail
  refine (calc_float n _ _ _ hn).mono ?_
  rintro e x3 ⟨rfl, hb⟩
  replace hB := stepB hB hb
  clear hb
  go_wp2_with fail
  have p0 : (World.alloc x3 (Obj.cells #[Value.bool true, Value.int IntKind.u64 ((floatOfInt .f64 n : Nat) : Int)] 24)).cell? ⟨x3.heap.size, 0, none⟩ = some (.bool true) := by simp
  have p1 : (World.alloc x3 (Obj.cells #[Value.bool true, Value.int IntKind.u64 ((floatOfInt .f64 n : Nat) : Int)] 24)).cell? ⟨x3.heap.size, 1, none⟩ = some (.int .u64 ((floatOfInt .f64 n : Nat) : Int)) := by simp
  replace hB := hB.alloc hB.size (Obj.cells #[Value.bool true, Value.int IntKind.u64 ((floatOfInt .f64 n : Nat) : Int)] 24)
  refine (calc_trunc_ok (floatOfInt .f64 n) _ _ k1 _ HhW.out Hhk.out).mono ?_
  rintro e x4 ⟨rfl, hb⟩
  replace hB := stepB hB hb
  replace p0 := cell_later hb p0
  replace p1 := cell_later hb p1
  clear hb
  have lp : x3.heap.size < x4.heap.size := World.block_lt_of_cell? _ _ p0
  go_wp2_with fail
  clear lp
  clear p0 p1
  have y0 : (World.alloc x4 (Obj.cells #[Value.bool false, Value.int IntKind.u64 (U k1)] 24)).cell? ⟨x4.heap.size, 0, none⟩ = some (.bool false) := by simp
  have y1 : (World.alloc x4 (Obj.cells #[Value.bool false, Value.int IntKind.u64 (U k1)] 24)).cell? ⟨x4.heap.size, 1, none⟩ = some (.int .u64 (U k1)) := by simp
  replace hB := hB.alloc hB.size (Obj.cells #[Value.bool false, Value.int IntKind.u64 (U k1)] 24)
  go_quiet (fail)
  go_wp2_with fail
  replace hB := belowN hB nq
  clear y0 y1
  refine (flt_any b _).mono ?_
  rintro e x5 ⟨rfl, hb⟩
  replace hB := stepB hB hb
  clear hb
  go_wp2_with fail
  refine (calc_trunc_ok b _ _ k _ HbW.out Hbk.out).mono ?_
  rintro e x6 ⟨rfl, hb⟩
  replace hB := stepB hB hb
  clear hb
  go_wp2_with fail
  have i0 : (World.alloc x6 (Obj.cells #[Value.bool false, Value.int IntKind.u64 (U k)] 24)).cell? ⟨x6.heap.size, 0, none⟩ = some (.bool false) := by simp
  have i1 : (World.alloc x6 (Obj.cells #[Value.bool false, Value.int IntKind.u64 (U k)] 24)).cell? ⟨x6.heap.size, 1, none⟩ = some (.int .u64 (U k)) := by simp
  replace hB := hB.alloc hB.size (Obj.cells #[Value.bool false, Value.int IntKind.u64 (U k)] 24)
  refine (calc_float k _ _ _ hkr).mono ?_
  rintro e x7 ⟨rfl, hb⟩
  replace hB := stepB hB hb
  replace i0 := cell_later hb i0
  replace i1 := cell_later hb i1
  clear hb
  have li : x6.heap.size < x7.heap.size := World.block_lt_of_cell? _ _ i0
  go_wp2_with fail
  clear li
  replace i0 := cell_later ((Below.refl _ _).alloc (Nat.le_refl _) (Obj.cells #[Value.bool true, Value.int IntKind.u64 ((floatOfInt .f64 k : Nat) : Int)] 24)) i0
  replace i1 := cell_later ((Below.refl _ _).alloc (Nat.le_refl _) (Obj.cells #[Value.bool true, Value.int IntKind.u64 ((floatOfInt .f64 k : Nat) : Int)] 24)) i1
  have f0 : (World.alloc x7 (Obj.cells #[Value.bool true, Value.int IntKind.u64 ((floatOfInt .f64 k : Nat) : Int)] 24)).cell? ⟨x7.heap.size, 0, none⟩ = some (.bool true) := by simp
  have f1 : (World.alloc x7 (Obj.cells #[Value.bool true, Value.int IntKind.u64 ((floatOfInt .f64 k : Nat) : Int)] 24)).cell? ⟨x7.heap.size, 1, none⟩ = some (.int .u64 ((floatOfInt .f64 k : Nat) : Int)) := by simp
  replace hB := hB.alloc hB.size (Obj.cells #[Value.bool true, Value.int IntKind.u64 ((floatOfInt .f64 k : Nat) : Int)] 24)
  refine (calc_trunc_ok (floatOfInt .f64 k) _ _ k _ HcW.out Hck.out).mono ?_
  rintro e x8 ⟨rfl, hb⟩
  replace hB := stepB hB hb
  replace i0 := cell_later hb i0
  replace i1 := cell_later hb i1
  replace f0 := cell_later hb f0
  replace f1 := cell_later hb f1
  clear hb
  have li : x6.heap.size < x8.heap.size := World.block_lt_of_cell? _ _ i0
  have lf : x7.heap.size < x8.heap.size := World.block_lt_of_cell? _ _ f0
  go_wp2
  clear li lf
  go_ret
  exact ⟨rfl, hB.alloc hB.size _⟩

set_option maxRecDepth 100000 in
set_option maxHeartbeats 4000000 in
theorem walk_2b_2 (n : Int) (b : Nat) (W : World) (hn : InR n) (r : decide (n ≤ 9007199254740992) = true) (r2 : decide (-9007199254740992 ≤ n) = false) (k1 : Int) (hW : Fl.within (floatOfInt .f64 n) = true) (hk : floatToIntVal .f64 (floatOfInt .f64 n) .i64 = some k1) (bW : Fl.within b = false) (hE : Env W) :
    Calls Tryd.prog 7 #[.int .i64 n, .int .u64 b] W fun e W' => e = .returned (.bool true) ∧ Below W.heap.size W W' := by
  have hB := Below.refl W.heap.size W
  have hA := Lib.hid (awake_any W hE)
  clear hE
  have HhW := Lib.hid hW
  clear hW
  have Hhk := Lib.hid hk
  clear hk
  have HbW := Lib.hid bW
  clear bW
  go_enter Tryd.func7, Tryd.ntmps7
  go_wp2_with fail
  refine (hA.out).mono ?_
  rintro e x1 ⟨rfl, hb⟩
  replace hB := stepB hB hb
  clear hb
  go_wp2_with fail
  refine (int_U n _).mono ?_
  rintro e x2 ⟨rfl, hb⟩
  replace hB := stepB hB hb
  clear hb
  go_wp2_with fail
  refine (calc_float n _ _ _ hn).mono ?_
  rintro e x3 ⟨rfl, hb⟩
  replace hB := stepB hB hb
  clear hb
  go_wp2_with fail
  have p0 : (World.alloc x3 (Obj.cells #[Value.bool true, Value.int IntKind.u64 ((floatOfInt .f64 n : Nat) : Int)] 24)).cell? ⟨x3.heap.size, 0, none⟩ = some (.bool true) := by simp
  have p1 : (World.alloc x3 (Obj.cells #[Value.bool true, Value.int IntKind.u64 ((floatOfInt .f64 n : Nat) : Int)] 24)).cell? ⟨x3.heap.size, 1, none⟩ = some (.int .u64 ((floatOfInt .f64 n : Nat) : Int)) := by simp
  replace hB := hB.alloc hB.size (Obj.cells #[Value.bool true, Value.int IntKind.u64 ((floatOfInt .f64 n : Nat) : Int)] 24)
  refine (calc_trunc_ok (floatOfInt .f64 n) _ _ k1 _ HhW.out Hhk.out).mono ?_
  rintro e x4 ⟨rfl, hb⟩
  replace hB := stepB hB hb
  replace p0 := cell_later hb p0
  replace p1 := cell_later hb p1
  clear hb
  have lp : x3.heap.size < x4.heap.size := World.block_lt_of_cell? _ _ p0
  go_wp2_with fail
  clear lp
  clear p0 p1
  have y0 : (World.alloc x4 (Obj.cells #[Value.bool false, Value.int IntKind.u64 (U k1)] 24)).cell? ⟨x4.heap.size, 0, none⟩ = some (.bool false) := by simp
  have y1 : (World.alloc x4 (Obj.cells #[Value.bool false, Value.int IntKind.u64 (U k1)] 24)).cell? ⟨x4.heap.size, 1, none⟩ = some (.int .u64 (U k1)) := by simp
  replace hB := hB.alloc hB.size (Obj.cells #[Value.bool false, Value.int IntKind.u64 (U k1)] 24)
  go_quiet (fail)
  go_wp2_with fail
  replace hB := belowN hB nq
  clear y0 y1
  refine (flt_any b _).mono ?_
  rintro e x5 ⟨rfl, hb⟩
  replace hB := stepB hB hb
  clear hb
  go_wp2_with fail
  refine (calc_trunc_out b _ _ _ HbW.out).mono ?_
  rintro e x6 ⟨rfl, hb⟩
  replace hB := stepB hB hb
  clear hb
  go_wp2
  go_ret
  exact ⟨rfl, hB.alloc hB.size _⟩

set_option maxRecDepth 100000 in
set_option maxHeartbeats 4000000 in
theorem walk_3_1 (n : Int) (b : Nat) (W : World) (hn : InR n) (r : decide (n ≤ 9007199254740992) = false) (r3 : ¬ n < 9223372036854775296) (hW : Fl.within (floatOfInt .f64 n) = false) (k : Int) (hkr : InR k) (bW : Fl.within b = true) (bk : floatToIntVal .f64 b .i64 = some k) (cW : Fl.within (floatOfInt .f64 k) = true) (ck : floatToIntVal .f64 (floatOfInt .f64 k) .i64 = some k) (hE : Env W) :
    Calls Tryd.prog 7 #[.int .i64 n, .int .u64 b] W fun e W' => e = .returned (.bool true) ∧ Below W.heap.size W W' := by
  have hB := Below.refl W.heap.size W
  have hA := Lib.hid (awake_any W hE)
  clear hE
  have HhW := Lib.hid hW
  clear hW
  have HbW := Lib.hid bW
  clear bW
  have Hbk := Lib.hid bk
  clear bk
  have HcW := Lib.hid cW
  clear cW
  have Hck := Lib.hid ck
  clear ck
  go_enter Tryd.func7, Tryd.ntmps7
  go_wp2_with fail
  refine (hA.out).mono ?_
  rintro e x1 ⟨rfl, hb⟩
  replace hB := stepB hB hb
  clear hb
  go_wp2_with fail
  refine (int_U n _).mono ?_
  rintro e x2 ⟨rfl, hb⟩
  replace hB := stepB hB hb
  clear hb
  go_wp2_with fail
  refine (calc_float n _ _ _ hn).mono ?_
  rintro e x3 ⟨rfl, hb⟩
  replace hB := stepB hB hb
  clear hb
  go_wp2_with fail
  have p0 : (World.alloc x3 (Obj.cells #[Value.bool true, Value.int IntKind.u64 ((floatOfInt .f64 n : Nat) : Int)] 24)).cell? ⟨x3.heap.size, 0, none⟩ = some (.bool true) := by simp
  have p1 : (World.alloc x3 (Obj.cells #[Value.bool true, Value.int IntKind.u64 ((floatOfInt .f64 n : Nat) : Int)] 24)).cell? ⟨x3.heap.size, 1, none⟩ = some (.int .u64 ((floatOfInt .f64 n : Nat) : Int)) := by simp
  replace hB := hB.alloc hB.size (Obj.cells #[Value.bool true, Value.int IntKind.u64 ((floatOfInt .f64 n : Nat) : Int)] 24)
  refine (calc_trunc_out (floatOfInt .f64 n) _ _ _ HhW.out).mono ?_
  rintro e x4 ⟨rfl, hb⟩
  replace hB := stepB hB hb
  replace p0 := cell_later hb p0
  replace p1 := cell_later hb p1
  clear hb
  have lp : x3.heap.size < x4.heap.size := World.block_lt_of_cell? _ _ p0
  go_wp2_with fail
  clear lp
  clear p0 p1
  have y0 : (World.alloc x4 (Obj.cells #[Value.bool false, Value.int IntKind.u64 0] 24)).cell? ⟨x4.heap.size, 0, none⟩ = some (.bool false) := by simp
  have y1 : (World.alloc x4 (Obj.cells #[Value.bool false, Value.int IntKind.u64 0] 24)).cell? ⟨x4.heap.size, 1, none⟩ = some (.int .u64 0) := by simp
  replace hB := hB.alloc hB.size (Obj.cells #[Value.bool false, Value.int IntKind.u64 0] 24)
  go_quiet (fail)
  go_wp2_with fail
  replace hB := belowN hB nq
  clear y0 y1
  refine (flt_any b _).mono ?_
  rintro e x5 ⟨rfl, hb⟩
  replace hB := stepB hB hb
  clear hb
  go_wp2_with fail
  refine (calc_trunc_ok b _ _ k _ HbW.out Hbk.out).mono ?_
  rintro e x6 ⟨rfl, hb⟩
  replace hB := stepB hB hb
  clear hb
  go_wp2_with fail
  have i0 : (World.alloc x6 (Obj.cells #[Value.bool false, Value.int IntKind.u64 (U k)] 24)).cell? ⟨x6.heap.size, 0, none⟩ = some (.bool false) := by simp
  have i1 : (World.alloc x6 (Obj.cells #[Value.bool false, Value.int IntKind.u64 (U k)] 24)).cell? ⟨x6.heap.size, 1, none⟩ = some (.int .u64 (U k)) := by simp
  replace hB := hB.alloc hB.size (Obj.cells #[Value.bool false, Value.int IntKind.u64 (U k)] 24)
  refine (calc_float k _ _ _ hkr).mono ?_
  rintro e x7 ⟨rfl, hb⟩
  replace hB := stepB hB hb
  replace i0 := cell_later hb i0
  replace i1 := cell_later hb i1
  clear hb
  have li : x6.heap.size < x7.heap.size := World.block_lt_of_cell? _ _ i0
  go_wp2_with fail
  clear li
  replace i0 := cell_later ((Below.refl _ _).alloc (Nat.le_refl _) (Obj.cells #[Value.bool true, Value.int IntKind.u64 ((floatOfInt .f64 k : Nat) : Int)] 24)) i0
  replace i1 := cell_later ((Below.refl _ _).alloc (Nat.le_refl _) (Obj.cells #[Value.bool true, Value.int IntKind.u64 ((floatOfInt .f64 k : Nat) : Int)] 24)) i1
  have f0 : (World.alloc x7 (Obj.cells #[Value.bool true, Value.int IntKind.u64 ((floatOfInt .f64 k : Nat) : Int)] 24)).cell? ⟨x7.heap.size, 0, none⟩ = some (.bool true) := by simp
  have f1 : (World.alloc x7 (Obj.cells #[Value.bool true, Value.int IntKind.u64 ((floatOfInt .f64 k : Nat) : Int)] 24)).cell? ⟨x7.heap.size, 1, none⟩ = some (.int .u64 ((floatOfInt .f64 k : Nat) : Int)) := by simp
  replace hB := hB.alloc hB.size (Obj.cells #[Value.bool true, Value.int IntKind.u64 ((floatOfInt .f64 k : Nat) : Int)] 24)
  refine (calc_trunc_ok (floatOfInt .f64 k) _ _ k _ HcW.out Hck.out).mono ?_
  rintro e x8 ⟨rfl, hb⟩
  replace hB := stepB hB hb
  replace i0 := cell_later hb i0
  replace i1 := cell_later hb i1
  replace f0 := cell_later hb f0
  replace f1 := cell_later hb f1
  clear hb
  have li : x6.heap.size < x8.heap.size := World.block_lt_of_cell? _ _ i0
  have lf : x7.heap.size < x8.heap.size := World.block_lt_of_cell? _ _ f0
  go_wp2
  clear li lf
  go_ret
  exact ⟨rfl, hB.alloc hB.size _⟩

set_option maxRecDepth 100000 in
set_option maxHeartbeats 4000000 in
theorem walk_3_2 (n : Int) (b : Nat) (W : World) (hn : InR n) (r : decide (n ≤ 9007199254740992) = false) (r3 : ¬ n < 9223372036854775296) (hW : Fl.within (floatOfInt .f64 n) = false) (bW : Fl.within b = false) (hE : Env W) :
    Calls Tryd.prog 7 #[.int .i64 n, .int .u64 b] W fun e W' => e = .returned (.bool true) ∧ Below W.heap.size W W' := by
  have hB := Below.refl W.heap.size W
  have hA := Lib.hid (awake_any W hE)
  clear hE
  have HhW := Lib.hid hW
  clear hW
  have HbW := Lib.hid bW
  clear bW
  go_enter Tryd.func7, Tryd.ntmps7
  go_wp2_with fail
  refine (hA.out).mono ?_
  rintro e x1 ⟨rfl, hb⟩
  replace hB := stepB hB hb
  clear hb
  go_wp2_with fail
  refine (int_U n _).mono ?_
  rintro e x2 ⟨rfl, hb⟩
  replace hB := stepB hB hb
  clear hb
  go_wp2_with fail
  refine (calc_float n _ _ _ hn).mono ?_
  rintro e x3 ⟨rfl, hb⟩
  replace hB := stepB hB hb
  clear hb
  go_wp2_with fail
  have p0 : (World.alloc x3 (Obj.cells #[Value.bool true, Value.int IntKind.u64 ((floatOfInt .f64 n : Nat) : Int)] 24)).cell? ⟨x3.heap.size, 0, none⟩ = some (.bool true) := by simp
  have p1 : (World.alloc x3 (Obj.cells #[Value.bool true, Value.int IntKind.u64 ((floatOfInt .f64 n : Nat) : Int)] 24)).cell? ⟨x3.heap.size, 1, none⟩ = some (.int .u64 ((floatOfInt .f64 n : Nat) : Int)) := by simp
  replace hB := hB.alloc hB.size (Obj.cells #[Value.bool true, Value.int IntKind.u64 ((floatOfInt .f64 n : Nat) : Int)] 24)
  refine (calc_trunc_out (floatOfInt .f64 n) _ _ _ HhW.out).mono ?_
  rintro e x4 ⟨rfl, hb⟩
  replace hB := stepB hB hb
  replace p0 := cell_later hb p0
  replace p1 := cell_later hb p1
  clear hb
  have lp : x3.heap.size < x4.heap.size := World.block_lt_of_cell? _ _ p0
  go_wp2_with fail
  clear lp
  clear p0 p1
  have y0 : (World.alloc x4 (Obj.cells #[Value.bool false, Value.int IntKind.u64 0] 24)).cell? ⟨x4.heap.size, 0, none⟩ = some (.bool false) := by simp
  have y1 : (World.alloc x4 (Obj.cells #[Value.bool false, Value.int IntKind.u64 0] 24)).cell? ⟨x4.heap.size, 1, none⟩ = some (.int .u64 0) := by simp
  replace hB := hB.alloc hB.size (Obj.cells #[Value.bool false, Value.int IntKind.u64 0] 24)
  go_quiet (fail)
  go_wp2_with fail
  replace hB := belowN hB nq
  clear y0 y1
  refine (flt_any b _).mono ?_
  rintro e x5 ⟨rfl, hb⟩
  replace hB := stepB hB hb
  clear hb
  go_wp2_with fail
  refine (calc_trunc_out b _ _ _ HbW.out).mono ?_
  rintro e x6 ⟨rfl, hb⟩
  replace hB := stepB hB hb
  clear hb
  go_wp2
  go_ret
  exact ⟨rfl, hB.alloc hB.size _⟩

theorem walk (n b : Int) (W : World) (hn0 : -9223372036854775808 ≤ n ∧ n ≤ 9223372036854775807) (hb0 : 0 ≤ b ∧ b ≤ 18446744073709551615) (hE : Env W) :
    Calls Tryd.prog 7 #[.int .i64 n, .int .u64 b] W fun e W' => e = .returned (.bool true) ∧ Below W.heap.size W W' := by
  obtain ⟨b, rfl⟩ := Int.eq_ofNat_of_zero_le hb0.1
  have hb64 : b < 2 ^ 64 := by omega
  have hn : InR n := hn0
  have big : 9007199254740992 < n → decide (n ≤ 9007199254740992) = false := fun h => by rw [decide_eq_false_iff_not]; omega
  cases bW : Fl.within b with
  | false =>
    cases hW : Fl.within (floatOfInt .f64 n) with
    | false =>
      have h3 : ¬ n < 9223372036854775296 := fun h => by
        by_cases hs : n.natAbs < 2 ^ 53
        · rw [(Fl.back_small n hs).1] at hW; cases hW
        · rw [Fl.ofInt_big n hn.1 (by omega) h] at hW; cases hW
      exact walk_3_2 n b W hn (big (by omega)) h3 hW bW hE
    | true =>
      obtain ⟨s, m, p, _, _, _, _, hk⟩ := Fl.toInt_within _ (ofInt_num n).1 hW
      by_cases h1 : n ≤ 9007199254740992
      · by_cases h2 : -9007199254740992 ≤ n
        · exact walk_1_2 n b W hn h1 h2 hW (back53 n h1 h2).2 bW hE
        · exact walk_2b_2 n b W hn (by rw [decide_eq_true_eq]; exact h1) (by rw [decide_eq_false_iff_not]; exact h2) _ hW hk bW hE
      · exact walk_2a_2 n b W hn (big (by omega)) _ hW hk bW hE
  | true =>
    obtain ⟨s, m, p, hcan, _, _, hWi, bk⟩ := Fl.toInt_within b hb64 bW
    have hkr : InR (Fl.sg s (Fl.qz m p)) := Fl.qz_range s m p hcan hWi
    obtain ⟨cW, ck⟩ := Fl.cut_again b hb64 bW _ bk
    cases hW : Fl.within (floatOfInt .f64 n) with
    | false =>
      have h3 : ¬ n < 9223372036854775296 := fun h => by
        by_cases hs : n.natAbs < 2 ^ 53
        · rw [(Fl.back_small n hs).1] at hW; cases hW
        · rw [Fl.ofInt_big n hn.1 (by omega) h] at hW; cases hW
      exact walk_3_1 n b W hn (big (by omega)) h3 hW _ hkr bW bk cW ck hE
    | true =>
      obtain ⟨s', m', p', _, _, _, _, hk⟩ := Fl.toInt_within _ (ofInt_num n).1 hW
      by_cases h1 : n ≤ 9007199254740992
      · by_cases h2 : -9007199254740992 ≤ n
        · exact walk_1_1 n b W hn h1 h2 hW (back53 n h1 h2).2 _ hkr bW bk cW ck hE
        · exact walk_2b_1 n b W hn (by rw [decide_eq_true_eq]; exact h1) (by rw [decide_eq_false_iff_not]; exact h2) _ hW hk _ hkr bW bk cW ck hE
      · exact walk_2a_1 n b W hn (big (by omega)) _ hW hk _ hkr bW bk cW ck hE


set_option maxRecDepth 100000 in
/-- WHAT THE WALK GIVES, FOR EVERY ARGUMENT AND EVERY WORLD THAT HOLDS THE TABLES. -/
theorem contract (H : Type) (enc : TypeId × Value → H) (W : World) (base : Nat) (args : Array Value) (ds gs : List (DataW H)) (before : List MemPlace)
    (hval : ∀ (j : Nat) t v, Tryd.f7.params[j]? = some t → args[j]? = some v → Value.okWide Tryd.prog W .any base t v)
    (hW : DataW.Whole enc Tryd.prog Tryd.f7.params.toList Rows.numTruncSpec.vars false W args.toList ds gs before) (hL : laidMetH Tryd.prog Rows.numTruncRow.laid W) :
    Calls Tryd.prog 7 args W fun e W' => ∃ v, e = .returned v ∧ Rows.numTruncSpec.post enc Tryd.prog Tryd.f7 false true false false W args v W' := by
  have hE : Env W := env_of hL
  have hW' := hW
  obtain ⟨p, q, hA0, hV, rfl, hfz, hnd⟩ := hW
  have hA : DataW.TrodAll enc Tryd.prog W 0 (fun _ => true) true Tryd.f7.params.toList args.toList ds p := hA0
  rw [Tryd.params7] at hA hval
  obtain ⟨v0, vs0, d0, ds0, p0, q0, hargs, rfl, rfl, h0, r0⟩ := trodAll_cons hA
  obtain ⟨v1, vs1, d1, ds1, p1, q1, rfl, rfl, rfl, h1, r1⟩ := trodAll_cons r0
  obtain ⟨rfl, rfl, rfl⟩ := trodAll_nil r1
  obtain rfl : args = #[v0, v1] := by cases args; simp_all
  obtain ⟨rfl, rfl⟩ := trodVars_none hV
  obtain ⟨n, rfl, rfl, rfl, wn⟩ := open_int Tryd.underlying2 (hval 0 2 v0 rfl rfl) h0
  obtain ⟨b, rfl, rfl, rfl, wb⟩ := open_int Tryd.underlying22 (hval 1 22 v1 rfl rfl) h1
  clear hA0
  simp only [List.append_nil] at hW'
  refine (walk n b W (bounds_i64 wn) (bounds_u64 wb) hE).mono fun e W' ⟨he, hb⟩ => ?_
  subst he
  exact ⟨_, rfl, _, _, _, [], [], [], hW', trodAll_cons_mk (shut_bool Tryd.underlying4 _) trodAll_mk0, trodAll_cons_mk (shut_int Tryd.underlying2 wn) (trodAll_cons_mk (shut_int Tryd.underlying22 wb) trodAll_mk0), rfl, hb.frame _, fun h => by cases h⟩

/-- A WORLD FOR THE WITNESS: the settled one, the three tables holding what their initialisers lay. -/
noncomputable def laidWorld (os : Os) : World :=
  { World.holding Tryd.prog os ⟨#[], #[], []⟩ with heap := (((World.holding Tryd.prog os ⟨#[], #[], []⟩).heap.modify 5 (putTab (tab32.map (Value.int .u8)).toArray)).modify 6
      (putTab (tab64.map (Value.int .u8)).toArray)).modify 1 (putTab (Lib.pow10Tab.map (Value.int .u64)).toArray) }
theorem laid_met (os : Os) : laidMet Tryd.prog Rows.numTruncRow.laid ((laidWorld os).forCall (fun _ _ => 0) ⟨#[], #[.int .i64 0, .int .u64 0], []⟩).memory :=
  laidMet_of_run' 8 (by kernel_rfl) (by kernel_rfl)
theorem reads (os : Os) {H : Type} (enc : TypeId × Value → H) : ∃ places, DataW.whole enc Tryd.prog ((laidWorld os).forCall (fun _ _ => 0) ⟨#[], #[.int .i64 0, .int .u64 0], []⟩).memory Tryd.f7.params.toList Rows.numTruncSpec.vars false (#[.int .i64 0, .int .u64 0] : Array Value).toList 8 = some ([.lit (.int .i64 0), .lit (.int .u64 0)], [], places) :=
  ⟨[], by kernel_rfl⟩

set_option maxRecDepth 100000 in
theorem lifted (os : Os) (started : os.Started) (H : Type) (enc : TypeId × Value → H) (F : Stop.Interp) :
    ReturnsInHanded {} Tryd.checked os 7 .any ((OpenSpec.ofChange Rows.numTruncSpec).preRow enc Tryd.prog Tryd.f7 Rows.numTruncRow.domain false Rows.numTruncRow.laid) (((OpenSpec.ofChange Rows.numTruncSpec).at F).post enc Tryd.prog Tryd.f7 false true false false) := by
  obtain ⟨places, hx⟩ := reads os enc
  refine returnsInHanded_of_row (C := Tryd.checked) (s := OpenSpec.ofChange Rows.numTruncSpec) own started (by kernel_rfl) Tryd.func7
    (witness_row_at (enc := enc) (C := Tryd.checked) false (laidWorld os) #[.int .i64 0, .int .u64 0] rfl (by kernel_rfl) (by kernel_rfl) (by kernel_rfl)
      (OpenSpec.preRow_of_cond 8 hx (by kernel_rfl) (fun k hk => by cases hk) (by kernel_rfl) (laid_met os))) ?_
  intro W base args ds gs before hval hW _ _ _ hL _ _
  exact contract H enc W base args ds gs before hval hW hL

theorem said : Rows.NumTruncSaid :=
  OpenClaim.holds_of_cond 7 Tryd.f7 rfl rfl rfl rfl rfl rfl rfl ⟨rfl, rfl, rfl, rfl, rfl⟩ rfl rfl rfl rfl rfl (by kernel_rfl) Tryd.func7 (by kernel_rfl)
    (of_decide_eq_true (by kernel_rfl)) (by unfold Func.isWrapper; first | (rw [if_pos (by decide +kernel)]; kernel_rfl) | (rw [if_neg (by decide +kernel)]; exact ⟨rfl, rfl⟩))
    (fun os started H enc _ F => by rw [OpenClaim.pre_eq_preRow]; exact lifted os started H enc F)

/-- No parameter wants a stand-in; the program's own looks are off. -/
theorem plain (f : FuncId) (fn : Func) (hf : Tryd.pinned.checked.prog.funcNamed "treadwheel/treadwheellaw01.NumTrunc" = some f) (hfn : Tryd.pinned.checked.prog.funcs[f]? = some fn) :
    true = Tryd.pinned.checked.prog.looks [] ∧ ∀ (j : Nat) t, fn.params[j]? = some t → Tryd.pinned.checked.prog.wantsStandIn t = false := by
  obtain rfl : f = 7 := Option.some.inj ((show Tryd.prog.funcNamed "treadwheel/treadwheellaw01.NumTrunc" = some 7 by kernel_rfl).symm.trans hf) |>.symm
  obtain rfl : fn = Tryd.f7 := (Option.some.inj (Tryd.func7.symm.trans hfn)).symm
  refine ⟨by kernel_rfl, fun j t ht => ?_⟩
  rw [Tryd.params7] at ht
  have hm := Array.mem_of_getElem? ht
  simp only [List.mem_toArray, List.mem_cons, List.not_mem_nil, or_false] at hm
  rcases hm with rfl | rfl
  · exact (show Tryd.prog.wantsStandIn 2 = false by kernel_rfl)
  · exact (show Tryd.prog.wantsStandIn 22 = false by kernel_rfl)

/-- THE CARD. -/
theorem card : Rows.NumTruncCardSaid :=
  Claim7.holds_tied_plain_at .later [] _ _ _ _ said (fun _ h => by cases h) (by kernel_rfl) (fun _ h => by cases h) numTrunc_row_tie rfl ⟨rfl, rfl⟩ (by kernel_rfl) rfl plain (by kernel_rfl)
end Go.Proofs.YtkmickgngijdlaaDoor.numTrunc
namespace Go.Proofs.YtkmickgngijdlaaDoor
theorem numTrunc_card : Rows.NumTruncCardSaid := numTrunc.card
end Go.Proofs.YtkmickgngijdlaaDoor
