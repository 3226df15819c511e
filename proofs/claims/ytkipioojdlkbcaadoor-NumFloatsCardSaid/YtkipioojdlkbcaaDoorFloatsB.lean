/- NumFloats: the walk where one is none. -/
import Derived.Test.YtkipioojdlkbcaaDoorFloatsA
namespace Go.Proofs.YtkipioojdlkbcaaDoor.numFloats
open Go.RowKit

set_option maxRecDepth 100000 in
set_option maxHeartbeats 8000000 in
theorem walk_nan (a b : Int) (W : World) (a0 : 0 ≤ a) (b0 : 0 ≤ b) (a1 : a < 18446744073709551616) (b1 : b < 18446744073709551616) (d2 q2 : Int) (hk : 9218868437227405312 < a % 9223372036854775808 ∨ (¬ 9218868437227405312 < a % 9223372036854775808 ∧ 9218868437227405312 < b % 9223372036854775808)) (ca7 : (∀ w, Calls Tryd.prog 12 #[.int .i64 7, .agg #[.bool true, .int .u64 a], .agg #[.bool true, .int .u64 b]] w fun e w' => e = .returned (.tuple #[.agg #[.bool true, .int .u64 9221120237041090560], .int .i64 0]) ∧ Below w.heap.size w w')) (cb7 : (∀ w, Calls Tryd.prog 12 #[.int .i64 7, .agg #[.bool true, .int .u64 b], .agg #[.bool true, .int .u64 a]] w fun e w' => e = .returned (.tuple #[.agg #[.bool true, .int .u64 9221120237041090560], .int .i64 0]) ∧ Below w.heap.size w w')) (ca8 : (∀ w, Calls Tryd.prog 12 #[.int .i64 8, .agg #[.bool true, .int .u64 a], .agg #[.bool true, .int .u64 b]] w fun e w' => e = .returned (.tuple #[.agg #[.bool true, .int .u64 9221120237041090560], .int .i64 0]) ∧ Below w.heap.size w w')) (cb8 : (∀ w, Calls Tryd.prog 12 #[.int .i64 8, .agg #[.bool true, .int .u64 b], .agg #[.bool true, .int .u64 a]] w fun e w' => e = .returned (.tuple #[.agg #[.bool true, .int .u64 d2], .int .i64 0]) ∧ Below w.heap.size w w')) (ca9 : (∀ w, Calls Tryd.prog 12 #[.int .i64 9, .agg #[.bool true, .int .u64 a], .agg #[.bool true, .int .u64 b]] w fun e w' => e = .returned (.tuple #[.agg #[.bool true, .int .u64 9221120237041090560], .int .i64 0]) ∧ Below w.heap.size w w')) (cb9 : (∀ w, Calls Tryd.prog 12 #[.int .i64 9, .agg #[.bool true, .int .u64 b], .agg #[.bool true, .int .u64 a]] w fun e w' => e = .returned (.tuple #[.agg #[.bool true, .int .u64 9221120237041090560], .int .i64 0]) ∧ Below w.heap.size w w')) (ca10 : (∀ w, Calls Tryd.prog 12 #[.int .i64 10, .agg #[.bool true, .int .u64 a], .agg #[.bool true, .int .u64 b]] w fun e w' => e = .returned (.tuple #[.agg #[.bool true, .int .u64 9221120237041090560], .int .i64 0]) ∧ Below w.heap.size w w')) (cb10 : (∀ w, Calls Tryd.prog 12 #[.int .i64 10, .agg #[.bool true, .int .u64 b], .agg #[.bool true, .int .u64 a]] w fun e w' => e = .returned (.tuple #[.agg #[.bool true, .int .u64 q2], .int .i64 0]) ∧ Below w.heap.size w w')) (tl : (∀ w, Calls Tryd.prog 14 #[.int .i64 12, .agg #[.bool true, .int .u64 a], .agg #[.bool true, .int .u64 b]] w fun e w' => e = .returned (.tuple #[.bool false, .int .i64 0]) ∧ Below w.heap.size w w')) (tg : (∀ w, Calls Tryd.prog 14 #[.int .i64 12, .agg #[.bool true, .int .u64 b], .agg #[.bool true, .int .u64 a]] w fun e w' => e = .returned (.tuple #[.bool false, .int .i64 0]) ∧ Below w.heap.size w w')) (te : (∀ w, Calls Tryd.prog 14 #[.int .i64 11, .agg #[.bool true, .int .u64 a], .agg #[.bool true, .int .u64 b]] w fun e w' => e = .returned (.tuple #[.bool false, .int .i64 0]) ∧ Below w.heap.size w w')) (hE : Env W) :
    Calls Tryd.prog 6 #[.int .u64 a, .int .u64 b] W fun e W' => e = .returned (.bool true) ∧ Below W.heap.size W W' := by
  have hB := Below.refl W.heap.size W
  have hA := Lib.hid (awake_any W hE)
  clear hE
  have Hhk := Lib.hid hk
  clear hk
  have Hca7 := Lib.hid ca7
  clear ca7
  have Hcb7 := Lib.hid cb7
  clear cb7
  have Hca8 := Lib.hid ca8
  clear ca8
  have Hcb8 := Lib.hid cb8
  clear cb8
  have Hca9 := Lib.hid ca9
  clear ca9
  have Hcb9 := Lib.hid cb9
  clear cb9
  have Hca10 := Lib.hid ca10
  clear ca10
  have Hcb10 := Lib.hid cb10
  clear cb10
  have Htl := Lib.hid tl
  clear tl
  have Htg := Lib.hid tg
  clear tg
  have Hte := Lib.hid te
  clear te
  go_enter Tryd.func6, Tryd.ntmps6
  go_wp2_with fail
  refine (hA.out).mono ?_
  rintro e x1 ⟨rfl, hb⟩
  replace hB := stepB hB hb
  clear hb
  clear hA
  go_upto_region 4 with (fail)
  go_cut [6] from 29 (fun va wx => va = .bool true ∧ Below x1.heap.size x1 wx)
  case first =>
    rcases Hhk.out with h1 | ⟨h1, h2⟩
    all_goals (go_wp2_with fail; go_meet; exact ⟨rfl, Below.refl _ _⟩)
  case rest =>
    obtain ⟨rfl, hc⟩ := hcut
    rename World => yv
    replace hB := stepB hB hc
    clear hc Hhk
    go_upto_region 5 with (fail)
    go_wp2_with fail
    have HB := Lib.hid hB
    clear hB
    go_loopw [7] (fun vo wr => ∃ k : Nat, 7 ≤ k ∧ k ≤ 11 ∧ vo = .int .i64 k ∧ Below W.heap.size W wr) (fun vo _ => 11 - (intOf vo).toNat)
    case atStart => exact ⟨7, by omega, by omega, rfl, HB.out⟩
    case round =>
      obtain ⟨k, hk7, hk11, rfl, hB⟩ := hrel
      clear HB
      rename World => Y0
      have hk4 : k = 7 ∨ k = 8 ∨ k = 9 ∨ k = 10 ∨ k = 11 := by omega
      clear hk7 hk11
      rcases hk4 with rfl | rfl | rfl | rfl | rfl
      · go_wp2_with fail
        refine (flt_any a _).mono ?_
        rintro e x11 ⟨rfl, hb⟩
        replace hB := stepB hB hb
        clear hb
        go_wp2_with fail
        refine (flt_any b _).mono ?_
        rintro e x12 ⟨rfl, hb⟩
        replace hB := stepB hB hb
        clear hb
        go_wp2_with fail
        refine (Hca7.out _).mono ?_
        rintro e x13 ⟨rfl, hb⟩
        replace hB := stepB hB hb
        clear hb
        go_wp2_with fail
        have x0 : (World.alloc x13 (Obj.cells #[Value.bool true, Value.int IntKind.u64 9221120237041090560] 24)).cell? ⟨x13.heap.size, 0, none⟩ = some (.bool true) := by simp
        have x1 : (World.alloc x13 (Obj.cells #[Value.bool true, Value.int IntKind.u64 9221120237041090560] 24)).cell? ⟨x13.heap.size, 1, none⟩ = some (.int .u64 9221120237041090560) := by simp
        replace hB := hB.alloc hB.size (Obj.cells #[Value.bool true, Value.int IntKind.u64 9221120237041090560] 24)
        refine (flt_any b _).mono ?_
        rintro e x14 ⟨rfl, hb⟩
        replace hB := stepB hB hb
        replace x0 := cell_later hb x0
        replace x1 := cell_later hb x1
        clear hb
        have lx : x13.heap.size < x14.heap.size := World.block_lt_of_cell? _ _ x0
        go_wp2_with fail
        clear lx
        refine (flt_any a _).mono ?_
        rintro e x15 ⟨rfl, hb⟩
        replace hB := stepB hB hb
        replace x0 := cell_later hb x0
        replace x1 := cell_later hb x1
        clear hb
        have lx : x13.heap.size < x15.heap.size := World.block_lt_of_cell? _ _ x0
        go_wp2_with fail
        clear lx
        refine (Hcb7.out _).mono ?_
        rintro e x16 ⟨rfl, hb⟩
        replace hB := stepB hB hb
        replace x0 := cell_later hb x0
        replace x1 := cell_later hb x1
        clear hb
        have lx : x13.heap.size < x16.heap.size := World.block_lt_of_cell? _ _ x0
        go_wp2_with fail
        clear lx
        replace x0 := cell_later ((Below.refl _ _).alloc (Nat.le_refl _) (Obj.cells #[Value.bool true, Value.int IntKind.u64 9221120237041090560] 24)) x0
        replace x1 := cell_later ((Below.refl _ _).alloc (Nat.le_refl _) (Obj.cells #[Value.bool true, Value.int IntKind.u64 9221120237041090560] 24)) x1
        have y0 : (World.alloc x16 (Obj.cells #[Value.bool true, Value.int IntKind.u64 9221120237041090560] 24)).cell? ⟨x16.heap.size, 0, none⟩ = some (.bool true) := by simp
        have y1 : (World.alloc x16 (Obj.cells #[Value.bool true, Value.int IntKind.u64 9221120237041090560] 24)).cell? ⟨x16.heap.size, 1, none⟩ = some (.int .u64 9221120237041090560) := by simp
        replace hB := hB.alloc hB.size (Obj.cells #[Value.bool true, Value.int IntKind.u64 9221120237041090560] 24)
        refine (none_any _).mono ?_
        rintro e x17 ⟨rfl, hb⟩
        replace hB := stepB hB hb
        replace x0 := cell_later hb x0
        replace x1 := cell_later hb x1
        replace y0 := cell_later hb y0
        replace y1 := cell_later hb y1
        clear hb
        have lx : x13.heap.size < x17.heap.size := World.block_lt_of_cell? _ _ x0
        have ly : x16.heap.size < x17.heap.size := World.block_lt_of_cell? _ _ y0
        go_wp2_with fail
        clear lx ly
        go_roundw
        case rel => exact ⟨8, by omega, by omega, rfl, hB⟩
        case measure => simp [intOf]
      · go_wp2_with fail
        refine (flt_any a _).mono ?_
        rintro e x11 ⟨rfl, hb⟩
        replace hB := stepB hB hb
        clear hb
        go_wp2_with fail
        refine (flt_any b _).mono ?_
        rintro e x12 ⟨rfl, hb⟩
        replace hB := stepB hB hb
        clear hb
        go_wp2_with fail
        refine (Hca8.out _).mono ?_
        rintro e x13 ⟨rfl, hb⟩
        replace hB := stepB hB hb
        clear hb
        go_wp2_with fail
        have x0 : (World.alloc x13 (Obj.cells #[Value.bool true, Value.int IntKind.u64 9221120237041090560] 24)).cell? ⟨x13.heap.size, 0, none⟩ = some (.bool true) := by simp
        have x1 : (World.alloc x13 (Obj.cells #[Value.bool true, Value.int IntKind.u64 9221120237041090560] 24)).cell? ⟨x13.heap.size, 1, none⟩ = some (.int .u64 9221120237041090560) := by simp
        replace hB := hB.alloc hB.size (Obj.cells #[Value.bool true, Value.int IntKind.u64 9221120237041090560] 24)
        refine (flt_any b _).mono ?_
        rintro e x14 ⟨rfl, hb⟩
        replace hB := stepB hB hb
        replace x0 := cell_later hb x0
        replace x1 := cell_later hb x1
        clear hb
        have lx : x13.heap.size < x14.heap.size := World.block_lt_of_cell? _ _ x0
        go_wp2_with fail
        clear lx
        refine (flt_any a _).mono ?_
        rintro e x15 ⟨rfl, hb⟩
        replace hB := stepB hB hb
        replace x0 := cell_later hb x0
        replace x1 := cell_later hb x1
        clear hb
        have lx : x13.heap.size < x15.heap.size := World.block_lt_of_cell? _ _ x0
        go_wp2_with fail
        clear lx
        refine (Hcb8.out _).mono ?_
        rintro e x16 ⟨rfl, hb⟩
        replace hB := stepB hB hb
        replace x0 := cell_later hb x0
        replace x1 := cell_later hb x1
        clear hb
        have lx : x13.heap.size < x16.heap.size := World.block_lt_of_cell? _ _ x0
        go_wp2_with fail
        clear lx
        replace x0 := cell_later ((Below.refl _ _).alloc (Nat.le_refl _) (Obj.cells #[Value.bool true, Value.int IntKind.u64 d2] 24)) x0
        replace x1 := cell_later ((Below.refl _ _).alloc (Nat.le_refl _) (Obj.cells #[Value.bool true, Value.int IntKind.u64 d2] 24)) x1
        have y0 : (World.alloc x16 (Obj.cells #[Value.bool true, Value.int IntKind.u64 d2] 24)).cell? ⟨x16.heap.size, 0, none⟩ = some (.bool true) := by simp
        have y1 : (World.alloc x16 (Obj.cells #[Value.bool true, Value.int IntKind.u64 d2] 24)).cell? ⟨x16.heap.size, 1, none⟩ = some (.int .u64 d2) := by simp
        replace hB := hB.alloc hB.size (Obj.cells #[Value.bool true, Value.int IntKind.u64 d2] 24)
        refine (none_any _).mono ?_
        rintro e x17 ⟨rfl, hb⟩
        replace hB := stepB hB hb
        replace x0 := cell_later hb x0
        replace x1 := cell_later hb x1
        replace y0 := cell_later hb y0
        replace y1 := cell_later hb y1
        clear hb
        have lx : x13.heap.size < x17.heap.size := World.block_lt_of_cell? _ _ x0
        have ly : x16.heap.size < x17.heap.size := World.block_lt_of_cell? _ _ y0
        go_wp2_with fail
        clear lx ly
        go_roundw
        case rel => exact ⟨9, by omega, by omega, rfl, hB⟩
        case measure => simp [intOf]
      · go_wp2_with fail
        refine (flt_any a _).mono ?_
        rintro e x11 ⟨rfl, hb⟩
        replace hB := stepB hB hb
        clear hb
        go_wp2_with fail
        refine (flt_any b _).mono ?_
        rintro e x12 ⟨rfl, hb⟩
        replace hB := stepB hB hb
        clear hb
        go_wp2_with fail
        refine (Hca9.out _).mono ?_
        rintro e x13 ⟨rfl, hb⟩
        replace hB := stepB hB hb
        clear hb
        go_wp2_with fail
        have x0 : (World.alloc x13 (Obj.cells #[Value.bool true, Value.int IntKind.u64 9221120237041090560] 24)).cell? ⟨x13.heap.size, 0, none⟩ = some (.bool true) := by simp
        have x1 : (World.alloc x13 (Obj.cells #[Value.bool true, Value.int IntKind.u64 9221120237041090560] 24)).cell? ⟨x13.heap.size, 1, none⟩ = some (.int .u64 9221120237041090560) := by simp
        replace hB := hB.alloc hB.size (Obj.cells #[Value.bool true, Value.int IntKind.u64 9221120237041090560] 24)
        refine (flt_any b _).mono ?_
        rintro e x14 ⟨rfl, hb⟩
        replace hB := stepB hB hb
        replace x0 := cell_later hb x0
        replace x1 := cell_later hb x1
        clear hb
        have lx : x13.heap.size < x14.heap.size := World.block_lt_of_cell? _ _ x0
        go_wp2_with fail
        clear lx
        refine (flt_any a _).mono ?_
        rintro e x15 ⟨rfl, hb⟩
        replace hB := stepB hB hb
        replace x0 := cell_later hb x0
        replace x1 := cell_later hb x1
        clear hb
        have lx : x13.heap.size < x15.heap.size := World.block_lt_of_cell? _ _ x0
        go_wp2_with fail
        clear lx
        refine (Hcb9.out _).mono ?_
        rintro e x16 ⟨rfl, hb⟩
        replace hB := stepB hB hb
        replace x0 := cell_later hb x0
        replace x1 := cell_later hb x1
        clear hb
        have lx : x13.heap.size < x16.heap.size := World.block_lt_of_cell? _ _ x0
        go_wp2_with fail
        clear lx
        replace x0 := cell_later ((Below.refl _ _).alloc (Nat.le_refl _) (Obj.cells #[Value.bool true, Value.int IntKind.u64 9221120237041090560] 24)) x0
        replace x1 := cell_later ((Below.refl _ _).alloc (Nat.le_refl _) (Obj.cells #[Value.bool true, Value.int IntKind.u64 9221120237041090560] 24)) x1
        have y0 : (World.alloc x16 (Obj.cells #[Value.bool true, Value.int IntKind.u64 9221120237041090560] 24)).cell? ⟨x16.heap.size, 0, none⟩ = some (.bool true) := by simp
        have y1 : (World.alloc x16 (Obj.cells #[Value.bool true, Value.int IntKind.u64 9221120237041090560] 24)).cell? ⟨x16.heap.size, 1, none⟩ = some (.int .u64 9221120237041090560) := by simp
        replace hB := hB.alloc hB.size (Obj.cells #[Value.bool true, Value.int IntKind.u64 9221120237041090560] 24)
        refine (none_any _).mono ?_
        rintro e x17 ⟨rfl, hb⟩
        replace hB := stepB hB hb
        replace x0 := cell_later hb x0
        replace x1 := cell_later hb x1
        replace y0 := cell_later hb y0
        replace y1 := cell_later hb y1
        clear hb
        have lx : x13.heap.size < x17.heap.size := World.block_lt_of_cell? _ _ x0
        have ly : x16.heap.size < x17.heap.size := World.block_lt_of_cell? _ _ y0
        go_wp2_with fail
        clear lx ly
        go_roundw
        case rel => exact ⟨10, by omega, by omega, rfl, hB⟩
        case measure => simp [intOf]
      · go_wp2_with fail
        refine (flt_any a _).mono ?_
        rintro e x11 ⟨rfl, hb⟩
        replace hB := stepB hB hb
        clear hb
        go_wp2_with fail
        refine (flt_any b _).mono ?_
        rintro e x12 ⟨rfl, hb⟩
        replace hB := stepB hB hb
        clear hb
        go_wp2_with fail
        refine (Hca10.out _).mono ?_
        rintro e x13 ⟨rfl, hb⟩
        replace hB := stepB hB hb
        clear hb
        go_wp2_with fail
        have x0 : (World.alloc x13 (Obj.cells #[Value.bool true, Value.int IntKind.u64 9221120237041090560] 24)).cell? ⟨x13.heap.size, 0, none⟩ = some (.bool true) := by simp
        have x1 : (World.alloc x13 (Obj.cells #[Value.bool true, Value.int IntKind.u64 9221120237041090560] 24)).cell? ⟨x13.heap.size, 1, none⟩ = some (.int .u64 9221120237041090560) := by simp
        replace hB := hB.alloc hB.size (Obj.cells #[Value.bool true, Value.int IntKind.u64 9221120237041090560] 24)
        refine (flt_any b _).mono ?_
        rintro e x14 ⟨rfl, hb⟩
        replace hB := stepB hB hb
        replace x0 := cell_later hb x0
        replace x1 := cell_later hb x1
        clear hb
        have lx : x13.heap.size < x14.heap.size := World.block_lt_of_cell? _ _ x0
        go_wp2_with fail
        clear lx
        refine (flt_any a _).mono ?_
        rintro e x15 ⟨rfl, hb⟩
        replace hB := stepB hB hb
        replace x0 := cell_later hb x0
        replace x1 := cell_later hb x1
        clear hb
        have lx : x13.heap.size < x15.heap.size := World.block_lt_of_cell? _ _ x0
        go_wp2_with fail
        clear lx
        refine (Hcb10.out _).mono ?_
        rintro e x16 ⟨rfl, hb⟩
        replace hB := stepB hB hb
        replace x0 := cell_later hb x0
        replace x1 := cell_later hb x1
        clear hb
        have lx : x13.heap.size < x16.heap.size := World.block_lt_of_cell? _ _ x0
        go_wp2_with fail
        clear lx
        replace x0 := cell_later ((Below.refl _ _).alloc (Nat.le_refl _) (Obj.cells #[Value.bool true, Value.int IntKind.u64 q2] 24)) x0
        replace x1 := cell_later ((Below.refl _ _).alloc (Nat.le_refl _) (Obj.cells #[Value.bool true, Value.int IntKind.u64 q2] 24)) x1
        have y0 : (World.alloc x16 (Obj.cells #[Value.bool true, Value.int IntKind.u64 q2] 24)).cell? ⟨x16.heap.size, 0, none⟩ = some (.bool true) := by simp
        have y1 : (World.alloc x16 (Obj.cells #[Value.bool true, Value.int IntKind.u64 q2] 24)).cell? ⟨x16.heap.size, 1, none⟩ = some (.int .u64 q2) := by simp
        replace hB := hB.alloc hB.size (Obj.cells #[Value.bool true, Value.int IntKind.u64 q2] 24)
        refine (none_any _).mono ?_
        rintro e x17 ⟨rfl, hb⟩
        replace hB := stepB hB hb
        replace x0 := cell_later hb x0
        replace x1 := cell_later hb x1
        replace y0 := cell_later hb y0
        replace y1 := cell_later hb y1
        clear hb
        have lx : x13.heap.size < x17.heap.size := World.block_lt_of_cell? _ _ x0
        have ly : x16.heap.size < x17.heap.size := World.block_lt_of_cell? _ _ y0
        go_wp2_with fail
        clear lx ly
        go_roundw
        case rel => exact ⟨11, by omega, by omega, rfl, hB⟩
        case measure => simp [intOf]
      · clear Hca7 Hcb7 Hca8 Hcb8 Hca9 Hcb9 Hca10 Hcb10
        go_wp2_with fail
        refine (flt_any a _).mono ?_
        rintro e x21 ⟨rfl, hb⟩
        replace hB := stepB hB hb
        clear hb
        go_wp2_with fail
        refine (flt_any b _).mono ?_
        rintro e x22 ⟨rfl, hb⟩
        replace hB := stepB hB hb
        clear hb
        go_wp2_with fail
        refine (Htl.out _).mono ?_
        rintro e x23 ⟨rfl, hb⟩
        replace hB := stepB hB hb
        clear hb
        go_wp2_with fail
        refine (flt_any b _).mono ?_
        rintro e x24 ⟨rfl, hb⟩
        replace hB := stepB hB hb
        clear hb
        go_wp2_with fail
        refine (flt_any a _).mono ?_
        rintro e x25 ⟨rfl, hb⟩
        replace hB := stepB hB hb
        clear hb
        go_wp2_with fail
        refine (Htg.out _).mono ?_
        rintro e x26 ⟨rfl, hb⟩
        replace hB := stepB hB hb
        clear hb
        go_wp2_with fail
        refine (flt_any a _).mono ?_
        rintro e x27 ⟨rfl, hb⟩
        replace hB := stepB hB hb
        clear hb
        go_wp2_with fail
        refine (flt_any b _).mono ?_
        rintro e x28 ⟨rfl, hb⟩
        replace hB := stepB hB hb
        clear hb
        go_wp2_with fail
        refine (Hte.out _).mono ?_
        rintro e x29 ⟨rfl, hb⟩
        replace hB := stepB hB hb
        clear hb
        go_wp2_with fail
        go_ret
        exact ⟨rfl, hB⟩

end Go.Proofs.YtkipioojdlkbcaaDoor.numFloats
