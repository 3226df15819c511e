/- NumFloats: the walk where both are numbers. -/
import Derived.Test.YtkipioojdlkbcaaDoorFloatsA
namespace Go.Proofs.YtkipioojdlkbcaaDoor.numFloats
open Go.RowKit

/- How many of the first ones are so. -/
def cnt (l g e : Bool) (k : Nat) : Int := (if l = true ∧ 0 < k then 1 else 0) + (if g = true ∧ 1 < k then 1 else 0) + (if e = true ∧ 2 < k then 1 else 0)

theorem ix0 (x y z : Bool) (w : World) : (Instr.index 44 (.agg #[.bool x, .bool y, .bool z]) (.int .i64 0)).run Tryd.prog w = .ok (.bool x) w := by
  simp [Instr.index, run_underlying Tryd.underlying44, asIntOf, go_sem]

theorem ix1 (x y z : Bool) (w : World) : (Instr.index 44 (.agg #[.bool x, .bool y, .bool z]) (.int .i64 1)).run Tryd.prog w = .ok (.bool y) w := by
  simp [Instr.index, run_underlying Tryd.underlying44, asIntOf, go_sem]

theorem ix2 (x y z : Bool) (w : World) : (Instr.index 44 (.agg #[.bool x, .bool y, .bool z]) (.int .i64 2)).run Tryd.prog w = .ok (.bool z) w := by
  simp [Instr.index, run_underlying Tryd.underlying44, asIntOf, go_sem]

theorem box_stored {w x : World} {n : Nat} {u v u0 v0 : Value} (h : Below w.heap.size w x) (hn : w.heap.size ≤ n) (c0 : x.cell? ⟨n, 0, none⟩ = some u0) (c1 : x.cell? ⟨n, 1, none⟩ = some v0) :
    Below w.heap.size w ((x.setCell ⟨n, 0, none⟩ u).setCell ⟨n, 1, none⟩ v) ∧ ((x.setCell ⟨n, 0, none⟩ u).setCell ⟨n, 1, none⟩ v).cell? ⟨n, 0, none⟩ = some u ∧ ((x.setCell ⟨n, 0, none⟩ u).setCell ⟨n, 1, none⟩ v).cell? ⟨n, 1, none⟩ = some v := by
  refine ⟨(h.setCell (by simpa using hn) _).setCell (by simpa using hn) _, ?_, ?_⟩
  · rw [World.cell?_setCell_other (h := by simp)]; exact World.cell?_setCell_same _ _ _ c0
  · exact World.cell?_setCell_same _ _ _ (u := v0) (by rw [World.cell?_setCell_other (h := by simp)]; exact c1)

set_option maxRecDepth 100000 in
set_option maxHeartbeats 8000000 in
theorem walk_num (a b : Int) (W : World) (a0 : 0 ≤ a) (b0 : 0 ≤ b) (a1 : a < 18446744073709551616) (b1 : b < 18446744073709551616) (s d d2 m q q2 c : Int) (bl bg be : Bool) (hk : ¬ 9218868437227405312 < a % 9223372036854775808 ∧ ¬ 9218868437227405312 < b % 9223372036854775808) (ca7 : (∀ w, Calls Tryd.prog 12 #[.int .i64 7, .agg #[.bool true, .int .u64 a], .agg #[.bool true, .int .u64 b]] w fun e w' => e = .returned (.tuple #[.agg #[.bool true, .int .u64 s], .int .i64 0]) ∧ Below w.heap.size w w')) (cb7 : (∀ w, Calls Tryd.prog 12 #[.int .i64 7, .agg #[.bool true, .int .u64 b], .agg #[.bool true, .int .u64 a]] w fun e w' => e = .returned (.tuple #[.agg #[.bool true, .int .u64 s], .int .i64 0]) ∧ Below w.heap.size w w')) (ca8 : (∀ w, Calls Tryd.prog 12 #[.int .i64 8, .agg #[.bool true, .int .u64 a], .agg #[.bool true, .int .u64 b]] w fun e w' => e = .returned (.tuple #[.agg #[.bool true, .int .u64 d], .int .i64 0]) ∧ Below w.heap.size w w')) (cb8 : (∀ w, Calls Tryd.prog 12 #[.int .i64 8, .agg #[.bool true, .int .u64 b], .agg #[.bool true, .int .u64 a]] w fun e w' => e = .returned (.tuple #[.agg #[.bool true, .int .u64 d2], .int .i64 0]) ∧ Below w.heap.size w w')) (ca9 : (∀ w, Calls Tryd.prog 12 #[.int .i64 9, .agg #[.bool true, .int .u64 a], .agg #[.bool true, .int .u64 b]] w fun e w' => e = .returned (.tuple #[.agg #[.bool true, .int .u64 m], .int .i64 0]) ∧ Below w.heap.size w w')) (cb9 : (∀ w, Calls Tryd.prog 12 #[.int .i64 9, .agg #[.bool true, .int .u64 b], .agg #[.bool true, .int .u64 a]] w fun e w' => e = .returned (.tuple #[.agg #[.bool true, .int .u64 m], .int .i64 0]) ∧ Below w.heap.size w w')) (ca10 : (∀ w, Calls Tryd.prog 12 #[.int .i64 10, .agg #[.bool true, .int .u64 a], .agg #[.bool true, .int .u64 b]] w fun e w' => e = .returned (.tuple #[.agg #[.bool true, .int .u64 q], .int .i64 0]) ∧ Below w.heap.size w w')) (cb10 : (∀ w, Calls Tryd.prog 12 #[.int .i64 10, .agg #[.bool true, .int .u64 b], .agg #[.bool true, .int .u64 a]] w fun e w' => e = .returned (.tuple #[.agg #[.bool true, .int .u64 q2], .int .i64 0]) ∧ Below w.heap.size w w')) (tl : (∀ w, Calls Tryd.prog 14 #[.int .i64 12, .agg #[.bool true, .int .u64 a], .agg #[.bool true, .int .u64 b]] w fun e w' => e = .returned (.tuple #[.bool bl, .int .i64 0]) ∧ Below w.heap.size w w')) (tg : (∀ w, Calls Tryd.prog 14 #[.int .i64 12, .agg #[.bool true, .int .u64 b], .agg #[.bool true, .int .u64 a]] w fun e w' => e = .returned (.tuple #[.bool bg, .int .i64 0]) ∧ Below w.heap.size w w')) (te : (∀ w, Calls Tryd.prog 14 #[.int .i64 11, .agg #[.bool true, .int .u64 a], .agg #[.bool true, .int .u64 b]] w fun e w' => e = .returned (.tuple #[.bool be, .int .i64 0]) ∧ Below w.heap.size w w')) (ts : (∀ w, Calls Tryd.prog 14 #[.int .i64 11, .agg #[.bool true, .int .u64 a], .agg #[.bool true, .int .u64 a]] w fun e w' => e = .returned (.tuple #[.bool true, .int .i64 0]) ∧ Below w.heap.size w w')) (cm : (∀ w, Calls Tryd.prog 12 #[.int .i64 9, .agg #[.bool true, .int .u64 a], .agg #[.bool true, .int .u64 13830554455654793216]] w fun e w' => e = .returned (.tuple #[.agg #[.bool true, .int .u64 c], .int .i64 0]) ∧ Below w.heap.size w w')) (cn2 : (∀ w, Calls Tryd.prog 12 #[.int .i64 9, .agg #[.bool true, .int .u64 c], .agg #[.bool true, .int .u64 13830554455654793216]] w fun e w' => e = .returned (.tuple #[.agg #[.bool true, .int .u64 a], .int .i64 0]) ∧ Below w.heap.size w w')) (h3 : cnt bl bg be 3 = 1) (hE : Env W) :
    Calls Tryd.prog 6 #[.int .u64 a, .int .u64 b] W fun e W' => e = .returned (.bool true) ∧ Below W.heap.size W W' := by
  have hB := Below.refl W.heap.size W
  have hA := Lib.hid (awake_any W hE)
  clear hE
  have Hhk := Lib.hid hk
  clear hk
  have Hca7 := Lib.hid ca7
  clear ca7
  have Hcb7 := Lib.hid cb7
  clear cb7
  have Hca8 := Lib.hid ca8
  clear ca8
  have Hcb8 := Lib.hid cb8
  clear cb8
  have Hca9 := Lib.hid ca9
  clear ca9
  have Hcb9 := Lib.hid cb9
  clear cb9
  have Hca10 := Lib.hid ca10
  clear ca10
  have Hcb10 := Lib.hid cb10
  clear cb10
  have Htl := Lib.hid tl
  clear tl
  have Htg := Lib.hid tg
  clear tg
  have Hte := Lib.hid te
  clear te
  have Hts := Lib.hid ts
  clear ts
  have Hcm := Lib.hid cm
  clear cm
  have Hcn2 := Lib.hid cn2
  clear cn2
  have Hh3 := Lib.hid h3
  clear h3
  go_enter Tryd.func6, Tryd.ntmps6
  go_wp2_with fail
  refine (hA.out).mono ?_
  rintro e x1 ⟨rfl, hb⟩
  replace hB := stepB hB hb
  clear hb
  clear hA
  go_upto_region 4 with (fail)
  go_cut [6] from 29 (fun va wx => va = .bool false ∧ Below x1.heap.size x1 wx)
  case first =>
    obtain ⟨h1, h2⟩ := Hhk.out
    go_wp2_with fail
    go_meet
    exact ⟨by simp; omega, Below.refl _ _⟩
  case rest =>
    obtain ⟨rfl, hc⟩ := hcut
    rename World => yv
    replace hB := stepB hB hc
    clear hc Hhk
    go_upto_region 5 with (fail)
    go_wp2_with fail
    have HB := Lib.hid hB
    clear hB
    go_loopw [7] (fun vo wr => ∃ k : Nat, 7 ≤ k ∧ k ≤ 11 ∧ vo = .int .i64 k ∧ Below W.heap.size W wr) (fun vo _ => 11 - (intOf vo).toNat)
    case atStart => exact ⟨7, by omega, by omega, rfl, HB.out⟩
    case round =>
      obtain ⟨k, hk7, hk11, rfl, hB⟩ := hrel
      clear HB
      rename World => Y0
      have hk4 : k = 7 ∨ k = 8 ∨ k = 9 ∨ k = 10 ∨ k = 11 := by omega
      clear hk7 hk11
      rcases hk4 with rfl | rfl | rfl | rfl | rfl
      · go_wp2_with fail
        refine (flt_any a _).mono ?_
        rintro e x11 ⟨rfl, hb⟩
        replace hB := stepB hB hb
        clear hb
        go_wp2_with fail
        refine (flt_any b _).mono ?_
        rintro e x12 ⟨rfl, hb⟩
        replace hB := stepB hB hb
        clear hb
        go_wp2_with fail
        refine (Hca7.out _).mono ?_
        rintro e x13 ⟨rfl, hb⟩
        replace hB := stepB hB hb
        clear hb
        go_wp2_with fail
        have x0 : (World.alloc x13 (Obj.cells #[Value.bool true, Value.int IntKind.u64 s] 24)).cell? ⟨x13.heap.size, 0, none⟩ = some (.bool true) := by simp
        have x1 : (World.alloc x13 (Obj.cells #[Value.bool true, Value.int IntKind.u64 s] 24)).cell? ⟨x13.heap.size, 1, none⟩ = some (.int .u64 s) := by simp
        replace hB := hB.alloc hB.size (Obj.cells #[Value.bool true, Value.int IntKind.u64 s] 24)
        refine (flt_any b _).mono ?_
        rintro e x14 ⟨rfl, hb⟩
        replace hB := stepB hB hb
        replace x0 := cell_later hb x0
        replace x1 := cell_later hb x1
        clear hb
        have lx : x13.heap.size < x14.heap.size := World.block_lt_of_cell? _ _ x0
        go_wp2_with fail
        clear lx
        refine (flt_any a _).mono ?_
        rintro e x15 ⟨rfl, hb⟩
        replace hB := stepB hB hb
        replace x0 := cell_later hb x0
        replace x1 := cell_later hb x1
        clear hb
        have lx : x13.heap.size < x15.heap.size := World.block_lt_of_cell? _ _ x0
        go_wp2_with fail
        clear lx
        refine (Hcb7.out _).mono ?_
        rintro e x16 ⟨rfl, hb⟩
        replace hB := stepB hB hb
        replace x0 := cell_later hb x0
        replace x1 := cell_later hb x1
        clear hb
        have lx : x13.heap.size < x16.heap.size := World.block_lt_of_cell? _ _ x0
        go_wp2_with fail
        clear lx
        go_roundw
        case rel => exact ⟨8, by omega, by omega, rfl, hB.alloc hB.size _⟩
        case measure => simp [intOf]
      · go_wp2_with fail
        refine (flt_any a _).mono ?_
        rintro e x11 ⟨rfl, hb⟩
        replace hB := stepB hB hb
        clear hb
        go_wp2_with fail
        refine (flt_any b _).mono ?_
        rintro e x12 ⟨rfl, hb⟩
        replace hB := stepB hB hb
        clear hb
        go_wp2_with fail
        refine (Hca8.out _).mono ?_
        rintro e x13 ⟨rfl, hb⟩
        replace hB := stepB hB hb
        clear hb
        go_wp2_with fail
        have x0 : (World.alloc x13 (Obj.cells #[Value.bool true, Value.int IntKind.u64 d] 24)).cell? ⟨x13.heap.size, 0, none⟩ = some (.bool true) := by simp
        have x1 : (World.alloc x13 (Obj.cells #[Value.bool true, Value.int IntKind.u64 d] 24)).cell? ⟨x13.heap.size, 1, none⟩ = some (.int .u64 d) := by simp
        replace hB := hB.alloc hB.size (Obj.cells #[Value.bool true, Value.int IntKind.u64 d] 24)
        refine (flt_any b _).mono ?_
        rintro e x14 ⟨rfl, hb⟩
        replace hB := stepB hB hb
        replace x0 := cell_later hb x0
        replace x1 := cell_later hb x1
        clear hb
        have lx : x13.heap.size < x14.heap.size := World.block_lt_of_cell? _ _ x0
        go_wp2_with fail
        clear lx
        refine (flt_any a _).mono ?_
        rintro e x15 ⟨rfl, hb⟩
        replace hB := stepB hB hb
        replace x0 := cell_later hb x0
        replace x1 := cell_later hb x1
        clear hb
        have lx : x13.heap.size < x15.heap.size := World.block_lt_of_cell? _ _ x0
        go_wp2_with fail
        clear lx
        refine (Hcb8.out _).mono ?_
        rintro e x16 ⟨rfl, hb⟩
        replace hB := stepB hB hb
        replace x0 := cell_later hb x0
        replace x1 := cell_later hb x1
        clear hb
        have lx : x13.heap.size < x16.heap.size := World.block_lt_of_cell? _ _ x0
        go_wp2_with fail
        clear lx
        go_roundw
        case rel => exact ⟨9, by omega, by omega, rfl, hB.alloc hB.size _⟩
        case measure => simp [intOf]
      · go_wp2_with fail
        refine (flt_any a _).mono ?_
        rintro e x11 ⟨rfl, hb⟩
        replace hB := stepB hB hb
        clear hb
        go_wp2_with fail
        refine (flt_any b _).mono ?_
        rintro e x12 ⟨rfl, hb⟩
        replace hB := stepB hB hb
        clear hb
        go_wp2_with fail
        refine (Hca9.out _).mono ?_
        rintro e x13 ⟨rfl, hb⟩
        replace hB := stepB hB hb
        clear hb
        go_wp2_with fail
        have x0 : (World.alloc x13 (Obj.cells #[Value.bool true, Value.int IntKind.u64 m] 24)).cell? ⟨x13.heap.size, 0, none⟩ = some (.bool true) := by simp
        have x1 : (World.alloc x13 (Obj.cells #[Value.bool true, Value.int IntKind.u64 m] 24)).cell? ⟨x13.heap.size, 1, none⟩ = some (.int .u64 m) := by simp
        replace hB := hB.alloc hB.size (Obj.cells #[Value.bool true, Value.int IntKind.u64 m] 24)
        refine (flt_any b _).mono ?_
        rintro e x14 ⟨rfl, hb⟩
        replace hB := stepB hB hb
        replace x0 := cell_later hb x0
        replace x1 := cell_later hb x1
        clear hb
        have lx : x13.heap.size < x14.heap.size := World.block_lt_of_cell? _ _ x0
        go_wp2_with fail
        clear lx
        refine (flt_any a _).mono ?_
        rintro e x15 ⟨rfl, hb⟩
        replace hB := stepB hB hb
        replace x0 := cell_later hb x0
        replace x1 := cell_later hb x1
        clear hb
        have lx : x13.heap.size < x15.heap.size := World.block_lt_of_cell? _ _ x0
        go_wp2_with fail
        clear lx
        refine (Hcb9.out _).mono ?_
        rintro e x16 ⟨rfl, hb⟩
        replace hB := stepB hB hb
        replace x0 := cell_later hb x0
        replace x1 := cell_later hb x1
        clear hb
        have lx : x13.heap.size < x16.heap.size := World.block_lt_of_cell? _ _ x0
        go_wp2_with fail
        clear lx
        go_roundw
        case rel => exact ⟨10, by omega, by omega, rfl, hB.alloc hB.size _⟩
        case measure => simp [intOf]
      · go_wp2_with fail
        refine (flt_any a _).mono ?_
        rintro e x11 ⟨rfl, hb⟩
        replace hB := stepB hB hb
        clear hb
        go_wp2_with fail
        refine (flt_any b _).mono ?_
        rintro e x12 ⟨rfl, hb⟩
        replace hB := stepB hB hb
        clear hb
        go_wp2_with fail
        refine (Hca10.out _).mono ?_
        rintro e x13 ⟨rfl, hb⟩
        replace hB := stepB hB hb
        clear hb
        go_wp2_with fail
        have x0 : (World.alloc x13 (Obj.cells #[Value.bool true, Value.int IntKind.u64 q] 24)).cell? ⟨x13.heap.size, 0, none⟩ = some (.bool true) := by simp
        have x1 : (World.alloc x13 (Obj.cells #[Value.bool true, Value.int IntKind.u64 q] 24)).cell? ⟨x13.heap.size, 1, none⟩ = some (.int .u64 q) := by simp
        replace hB := hB.alloc hB.size (Obj.cells #[Value.bool true, Value.int IntKind.u64 q] 24)
        refine (flt_any b _).mono ?_
        rintro e x14 ⟨rfl, hb⟩
        replace hB := stepB hB hb
        replace x0 := cell_later hb x0
        replace x1 := cell_later hb x1
        clear hb
        have lx : x13.heap.size < x14.heap.size := World.block_lt_of_cell? _ _ x0
        go_wp2_with fail
        clear lx
        refine (flt_any a _).mono ?_
        rintro e x15 ⟨rfl, hb⟩
        replace hB := stepB hB hb
        replace x0 := cell_later hb x0
        replace x1 := cell_later hb x1
        clear hb
        have lx : x13.heap.size < x15.heap.size := World.block_lt_of_cell? _ _ x0
        go_wp2_with fail
        clear lx
        refine (Hcb10.out _).mono ?_
        rintro e x16 ⟨rfl, hb⟩
        replace hB := stepB hB hb
        replace x0 := cell_later hb x0
        replace x1 := cell_later hb x1
        clear hb
        have lx : x13.heap.size < x16.heap.size := World.block_lt_of_cell? _ _ x0
        go_wp2_with fail
        clear lx
        go_roundw
        case rel => exact ⟨11, by omega, by omega, rfl, hB.alloc hB.size _⟩
        case measure => simp [intOf]
      · clear Hca7 Hcb7 Hca8 Hcb8 Hca9 Hcb9 Hca10 Hcb10
        go_wp2_with fail
        refine (flt_any a _).mono ?_
        rintro e x21 ⟨rfl, hb⟩
        replace hB := stepB hB hb
        clear hb
        go_wp2_with fail
        refine (flt_any b _).mono ?_
        rintro e x22 ⟨rfl, hb⟩
        replace hB := stepB hB hb
        clear hb
        go_wp2_with fail
        refine (Htl.out _).mono ?_
        rintro e x23 ⟨rfl, hb⟩
        replace hB := stepB hB hb
        clear hb
        go_wp2_with fail
        refine (flt_any b _).mono ?_
        rintro e x24 ⟨rfl, hb⟩
        replace hB := stepB hB hb
        clear hb
        go_wp2_with fail
        refine (flt_any a _).mono ?_
        rintro e x25 ⟨rfl, hb⟩
        replace hB := stepB hB hb
        clear hb
        go_wp2_with fail
        refine (Htg.out _).mono ?_
        rintro e x26 ⟨rfl, hb⟩
        replace hB := stepB hB hb
        clear hb
        go_wp2_with fail
        refine (flt_any a _).mono ?_
        rintro e x27 ⟨rfl, hb⟩
        replace hB := stepB hB hb
        clear hb
        go_wp2_with fail
        refine (flt_any b _).mono ?_
        rintro e x28 ⟨rfl, hb⟩
        replace hB := stepB hB hb
        clear hb
        go_wp2_with fail
        refine (Hte.out _).mono ?_
        rintro e x29 ⟨rfl, hb⟩
        replace hB := stepB hB hb
        clear hb
        go_wp2_with fail
        refine (flt_any a _).mono ?_
        rintro e x30 ⟨rfl, hb⟩
        replace hB := stepB hB hb
        clear hb
        go_wp2_with fail
        refine (flt_any a _).mono ?_
        rintro e x31 ⟨rfl, hb⟩
        replace hB := stepB hB hb
        clear hb
        go_wp2_with fail
        refine (Hts.out _).mono ?_
        rintro e x32 ⟨rfl, hb⟩
        replace hB := stepB hB hb
        clear hb
        go_wp2_with fail
        have ix0 := ix0
        have ix1 := ix1
        have ix2 := ix2
        go_loop [20, 130] (fun va vb => ∃ j : Nat, j ≤ 3 ∧ vb = .int .i64 j ∧ va = .int .i64 (cnt bl bg be j)) (fun _ vb => 3 - (intOf vb).toNat)
        case atStart => exact ⟨0, by omega, rfl, by simp [cnt]⟩
        case round =>
          obtain ⟨j, hj, rfl, rfl⟩ := hrel
          have hj4 : j = 0 ∨ j = 1 ∨ j = 2 ∨ j = 3 := by omega
          clear hj
          rcases hj4 with rfl | rfl | rfl | rfl
          · clear Hh3 Htl Htg Hte Hts Hcm Hcn2
            cases bl
            all_goals (simp only [cnt]; go_wp2_with fail)
            all_goals (refine ⟨⟨1, by omega, rfl, ?_⟩, by simp [intOf]⟩; simp)
          · clear Hh3 Htl Htg Hte Hts Hcm Hcn2
            cases bg
            all_goals (simp only [cnt]; go_wp2_with fail)
            all_goals (refine ⟨⟨2, by omega, rfl, ?_⟩, by simp [intOf]⟩; simp)
          · clear Hh3 Htl Htg Hte Hts Hcm Hcn2
            cases be
            all_goals (simp only [cnt]; go_wp2_with fail)
            all_goals (refine ⟨⟨3, by omega, rfl, ?_⟩, by simp [intOf]⟩; simp)
          · have h3 := Hh3.out
            simp only [h3]
            clear Hh3 h3 Htl Htg Hte Hts
            go_wp2_with fail
            refine (flt_any a _).mono ?_
            rintro e x41 ⟨rfl, hb⟩
            replace hB := stepB hB hb
            clear hb
            go_wp2_with fail
            refine (flt_any 13830554455654793216 _).mono ?_
            rintro e x42 ⟨rfl, hb⟩
            replace hB := stepB hB hb
            clear hb
            go_wp2_with fail
            refine (Hcm.out _).mono ?_
            rintro e x43 ⟨rfl, hb⟩
            replace hB := stepB hB hb
            clear hb
            go_upto_region 26 with (fail)
            have z0 : (World.alloc x43 (Obj.cells #[Value.bool true, Value.int IntKind.u64 c] 24)).cell? ⟨x43.heap.size, 0, none⟩ = some (.bool true) := by simp
            have z1 : (World.alloc x43 (Obj.cells #[Value.bool true, Value.int IntKind.u64 c] 24)).cell? ⟨x43.heap.size, 1, none⟩ = some (.int .u64 c) := by simp
            replace hB := hB.alloc hB.size (Obj.cells #[Value.bool true, Value.int IntKind.u64 c] 24)
            generalize hQ : World.alloc x43 (Obj.cells #[Value.bool true, Value.int IntKind.u64 c] 24) = Q at hB z0 z1 ⊢
            clear hQ
            have hY0 : Below Q.heap.size Q Q := Below.refl _ _
            have lz : x43.heap.size < Q.heap.size := World.block_lt_of_cell? _ _ z0
            go_cut [25, 26] from 144 (fun va vb wx => ∃ p, va = .pointer (some ⟨p, 0, none⟩) ∧ vb = .int .i64 0 ∧ Below Q.heap.size Q wx ∧ wx.cell? ⟨p, 0, none⟩ = some (.bool true) ∧ wx.cell? ⟨p, 1, none⟩ = some (.int .u64 a))
            case first =>
              go_region_with (first
                | (go_at_call 20; refine (flt_any 13830554455654793216 _).mono ?_; rintro e xa ⟨rfl, hb⟩; first | (have hY := stepB hY0.drew hb; have z0a := cell_later hY z0; have z1a := cell_later hY z1; have lza : x43.heap.size < xa.heap.size := World.block_lt_of_cell? _ _ z0a; clear hb) | (have hY := stepB (hY0.drew.alloc hY0.drew.size _) hb; have z0a := cell_later hY z0; have z1a := cell_later hY z1; have lza : x43.heap.size < xa.heap.size := World.block_lt_of_cell? _ _ z0a; have n0 : xa.cell? ⟨Q.heap.size, 0, none⟩ = some (.bool false) := cell_later hb (by simp; done); have n1 : xa.cell? ⟨Q.heap.size, 1, none⟩ = some (.int .u64 0) := cell_later hb (by simp; done); have n2 : xa.frozen? ⟨Q.heap.size, 0, none⟩ = false := (hb.frozen (by simp; done)).trans (by simp; done); have n3 : xa.frozen? ⟨Q.heap.size, 1, none⟩ = false := (hb.frozen (by simp; done)).trans (by simp; done); clear hb))
                | (go_at_call 12; refine (Hcn2.out _).mono ?_; rintro e xb ⟨rfl, hb⟩; first | (have hZ := stepB hY hb; have z0b := cell_later hZ z0; have z1b := cell_later hZ z1; first | (have n8 := cell_later hb n0; have n9 := cell_later hb n1; have nl := World.block_lt_of_cell? _ _ n0; have n10 := (hb.frozen (p := ⟨Q.heap.size, 0, none⟩) nl).trans n2; have n11 := (hb.frozen (p := ⟨Q.heap.size, 1, none⟩) nl).trans n3; clear hb) | clear hb) | (have hZ := stepB (hY.alloc hY.size _) hb; have z0b := cell_later hZ z0; have z1b := cell_later hZ z1; have n4 : xb.cell? ⟨xa.heap.size, 0, none⟩ = some (.bool false) := cell_later hb (by simp; done); have n5 : xb.cell? ⟨xa.heap.size, 1, none⟩ = some (.int .u64 0) := cell_later hb (by simp; done); have n6 : xb.frozen? ⟨xa.heap.size, 0, none⟩ = false := (hb.frozen (by simp; done)).trans (by simp; done); have n7 : xb.frozen? ⟨xa.heap.size, 1, none⟩ = false := (hb.frozen (by simp; done)).trans (by simp; done); clear hb)))
              all_goals
                go_wp2_with fail
                go_meet
                first
                  | exact ⟨_, rfl, rfl, hZ.alloc hZ.size _, by simp; done, by simp; done⟩
                  | exact ⟨_, rfl, rfl, box_stored hZ (Nat.le_refl _) n8 n9⟩
                  | exact ⟨_, rfl, rfl, box_stored hZ hY.size n4 n5⟩
            case rest =>
              obtain ⟨pm, rfl, rfl, hc, m0, m1⟩ := hcut
              rename World => ym
              clear hY0 lz
              replace hB := stepB hB hc
              replace z0 := cell_later hc z0
              replace z1 := cell_later hc z1
              clear hc
              clear z0 z1
              go_upto_region 27 with (fail)
              go_region_held3 (fun w' => Below W.heap.size W w' ∧ w'.cell? ⟨pm, 0, none⟩ = some (.bool true) ∧ w'.cell? ⟨pm, 1, none⟩ = some (.int .u64 a))
                (first
                  | exact keepc2 (by assumption) hb
                  | exact keepc2 ⟨hB, m0, m1⟩ (Below.refl _ _).drew)
                (first
                  | (go_at_call 20; refine (flt_any _ _).mono ?_; rintro e xa ⟨rfl, hb⟩))
              have hF : Below W.heap.size W _ := keepc1 (by assumption)
              go_wp2_with fail
              go_ret
              exact ⟨rfl, hF⟩

end Go.Proofs.YtkipioojdlkbcaaDoor.numFloats
