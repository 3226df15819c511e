/- Contracts of Calc: its refusals of a kind, and the operations of one number. -/
import Derived.Test.YtkipioojdlkbcaaGreatDoorNumE
namespace Go.Proofs.YtkipioojdlkbcaaGreatDoor
open Go.RowKit

set_option maxRecDepth 100000 in
set_option maxHeartbeats 2000000 in
theorem calc_kind (op : Int) (fid : Nat) (f g : Bool) (x y : Int) (w : World) (h0 : 0 ≤ op) (h1 : op < 15) (h13 : (op == 13) = false) (h14 : (op == 14) = false)
    (hfn : (#[Value.func (Fn.func 37) #[] #[], Value.func (Fn.func 38) #[] #[], Value.func (Fn.func 39) #[] #[], Value.func (Fn.func 40) #[] #[], Value.func (Fn.func 42) #[] #[], Value.nilFunc, Value.nilFunc, Value.func (Fn.func 43) #[] #[], Value.func (Fn.func 46) #[] #[], Value.func (Fn.func 47) #[] #[], Value.func (Fn.func 48) #[] #[], Value.nilFunc, Value.nilFunc, Value.func (Fn.func 49) #[] #[], Value.func (Fn.func 50) #[] #[]] : Array Value)[op.toNat]? = some (Value.func (Fn.func fid) #[] #[])) (hk : kindB f g op = false) :
    Calls Tryz.prog 9 #[.int .i64 op, .agg #[.bool f, .int .u64 x], .agg #[.bool g, .int .u64 y]] w fun e w' =>
      e = .returned (.tuple #[.agg #[.bool false, .int .u64 0], .int .i64 6]) ∧ Below w.heap.size w w' := by
  have Hfn := Lib.hid hfn; clear hfn
  obtain ⟨W0, hW0, hS⟩ := boxes f g x y w
  have HW := Lib.hid hW0; clear hW0
  go_enter Tryz.func9, Tryz.ntmps9
  go_wp2_with fail
  rw [← HW.out]
  clear HW
  refine (calculations_any _).mono ?_
  rintro e w1 ⟨rfl, hb⟩
  replace hS := S3.below hS hb
  clear hb
  go_upto_region 2 with (fail)
  have hS2 : S3 w f g x y (w1.alloc (Obj.cells #[Value.func (Fn.func 37) #[] #[], Value.func (Fn.func 38) #[] #[], Value.func (Fn.func 39) #[] #[], Value.func (Fn.func 40) #[] #[], Value.func (Fn.func 42) #[] #[], Value.nilFunc, Value.nilFunc, Value.func (Fn.func 43) #[] #[], Value.func (Fn.func 46) #[] #[], Value.func (Fn.func 47) #[] #[], Value.func (Fn.func 48) #[] #[], Value.nilFunc, Value.nilFunc, Value.func (Fn.func 49) #[] #[], Value.func (Fn.func 50) #[] #[]] 46)) := S3.below hS ((Below.refl _ _).alloc (Nat.le_refl _) _)
  have hcell : (w1.alloc (Obj.cells #[Value.func (Fn.func 37) #[] #[], Value.func (Fn.func 38) #[] #[], Value.func (Fn.func 39) #[] #[], Value.func (Fn.func 40) #[] #[], Value.func (Fn.func 42) #[] #[], Value.nilFunc, Value.nilFunc, Value.func (Fn.func 43) #[] #[], Value.func (Fn.func 46) #[] #[], Value.func (Fn.func 47) #[] #[], Value.func (Fn.func 48) #[] #[], Value.nilFunc, Value.nilFunc, Value.func (Fn.func 49) #[] #[], Value.func (Fn.func 50) #[] #[]] 46)).cell? ⟨w1.heap.size, op.toNat, none⟩ = some (Value.func (Fn.func fid) #[] #[]) := by
    rw [World.cell?_alloc_new]; exact Hfn.out
  generalize w1.alloc (Obj.cells #[Value.func (Fn.func 37) #[] #[], Value.func (Fn.func 38) #[] #[], Value.func (Fn.func 39) #[] #[], Value.func (Fn.func 40) #[] #[], Value.func (Fn.func 42) #[] #[], Value.nilFunc, Value.nilFunc, Value.func (Fn.func 43) #[] #[], Value.func (Fn.func 46) #[] #[], Value.func (Fn.func 47) #[] #[], Value.func (Fn.func 48) #[] #[], Value.nilFunc, Value.nilFunc, Value.func (Fn.func 49) #[] #[], Value.func (Fn.func 50) #[] #[]] 46) = W2 at hS2 hcell ⊢
  generalize (Value.agg #[Value.func (Fn.func 37) #[] #[], Value.func (Fn.func 38) #[] #[], Value.func (Fn.func 39) #[] #[], Value.func (Fn.func 40) #[] #[], Value.func (Fn.func 42) #[] #[], Value.nilFunc, Value.nilFunc, Value.func (Fn.func 43) #[] #[], Value.func (Fn.func 46) #[] #[], Value.func (Fn.func 47) #[] #[], Value.func (Fn.func 48) #[] #[], Value.nilFunc, Value.nilFunc, Value.func (Fn.func 49) #[] #[], Value.func (Fn.func 50) #[] #[]]) = V9
  have en := fun (w : World) => run_eql_func_nil (P := Tryz.prog) w 45 (Fn.func fid) #[] #[] Tryz.underlying45
  have hp : w.heap.size + 1 + 1 < w1.heap.size := by have := hS.2.1; omega
  have hS4 : S4 w f g x y w1.heap.size op.toNat (Value.func (Fn.func fid) #[] #[]) W2 := S4.of hS2 hcell
  clear hS2 hcell
  obtain ⟨⟨-, -, c1, c2, c3, c4, c5, c6, z1, z2⟩, hcell⟩ := id hS4
  clear hS
  go_wp2_with fail
  refine (kind_any _ _ _ _ _ _).mono ?_
  rintro e w3 ⟨rfl, hb⟩
  replace hS4 := S4.below hS4 hb
  clear hb c1 c2 c3 c4 c5 c6 z1 z2 hcell
  obtain ⟨⟨hB, hs, c1, c2, c3, c4, c5, c6, z1, z2⟩, hcell⟩ := id hS4
  go_wp2_with fail
  obtain ⟨hb, r0, r1⟩ := S3.fin (S3.store hS4.three (.bool false) (.int .u64 0))
  exact bodyPost_ret (v := .tuple #[.agg #[.bool false, .int .u64 0], .int .i64 6]) (by simp [results, Tryz.results9, go_sem, r0, r1]) rfl ⟨rfl, hb⟩

/-- Where the second number is made the first one. -/
theorem S3.same {w : World} {f g : Bool} {x y : Int} {W : World} (h : S3 w f g x y W) :
    S3 w f f x x ((W.setCell ⟨w.heap.size + 1, 0, none⟩ (.bool f)).setCell ⟨w.heap.size + 1, 1, none⟩ (.int .u64 x)) := by
  obtain ⟨h0, h1, c1, c2, c3, c4, c5, c6, z1, z2⟩ := h
  refine ⟨(h0.setCell (by simp) _).setCell (by simp) _, by simpa using h1, ?_, ?_, ?_, ?_, ?_, ?_, ?_, ?_⟩
  · rw [World.cell?_setCell_other (h := by simp), World.cell?_setCell_other (h := by simp)]; exact c1
  · rw [World.cell?_setCell_other (h := by simp), World.cell?_setCell_other (h := by simp)]; exact c2
  · rw [World.cell?_setCell_other (h := by simp)]; exact World.cell?_setCell_same W _ _ c3
  · exact World.cell?_setCell_same _ _ _ (u := .int .u64 y) (by rw [World.cell?_setCell_other (h := by simp)]; exact c4)
  · exact cellv_of (by rw [World.cell?_setCell_other (h := by simp), World.cell?_setCell_other (h := by simp)]; exact c5)
  · exact cellv_of (by rw [World.cell?_setCell_other (h := by simp), World.cell?_setCell_other (h := by simp)]; exact c6)
  · simpa using z1
  · simpa using z2

theorem S4.same {w : World} {f g : Bool} {x y : Int} {p i : Nat} {z : Value} {W : World} (hp : w.heap.size + 1 + 1 < p) (h : S4 w f g x y p i z W) :
    S4 w f f x x p i z ((W.setCell ⟨w.heap.size + 1, 0, none⟩ (.bool f)).setCell ⟨w.heap.size + 1, 1, none⟩ (.int .u64 x)) := by
  refine ⟨S3.same h.1, ?_⟩
  have n : ∀ j, (⟨w.heap.size + 1, j, none⟩ : Addr) ≠ ⟨p, i, none⟩ := fun j e => by injection e; omega
  rw [World.cell?_setCell_other (h := n 1), World.cell?_setCell_other (h := n 0)]
  exact h.2

set_option maxRecDepth 100000 in
set_option maxHeartbeats 2000000 in
theorem calc_13_kind (f g : Bool) (x y : Int) (w : World) (hk : kindB f f 13 = false) :
    Calls Tryz.prog 9 #[.int .i64 13, .agg #[.bool f, .int .u64 x], .agg #[.bool g, .int .u64 y]] w fun e w' =>
      e = .returned (.tuple #[.agg #[.bool false, .int .u64 0], .int .i64 6]) ∧ Below w.heap.size w w' := by
  obtain ⟨W0, hW0, hS⟩ := boxes f g x y w
  have HW := Lib.hid hW0; clear hW0
  go_enter Tryz.func9, Tryz.ntmps9
  go_wp2_with fail
  rw [← HW.out]
  have q0 : W0.frozen? ⟨w.heap.size + 1, 0, none⟩ = false := by
    rw [HW.out, World.frozen?_alloc_past _ _ _ (by simp), World.frozen?_alloc_at _ _ _ _ (by simp)]
  have q1 : W0.frozen? ⟨w.heap.size + 1, 1, none⟩ = false := by
    rw [HW.out, World.frozen?_alloc_past _ _ _ (by simp), World.frozen?_alloc_at _ _ _ _ (by simp)]
  clear HW
  refine (calculations_any _).mono ?_
  rintro e w1 ⟨rfl, hb⟩
  have hW0 : w.heap.size + 3 ≤ W0.heap.size := hS.2.1
  rw [← hb.frozen (by simp; omega)] at q0 q1
  clear hW0
  replace hS := S3.below hS hb
  clear hb
  go_upto_region 2 with (fail)
  have q2 := hS.2.1
  rw [← World.frozen?_alloc_past (o := Obj.cells #[Value.func (Fn.func 37) #[] #[], Value.func (Fn.func 38) #[] #[], Value.func (Fn.func 39) #[] #[], Value.func (Fn.func 40) #[] #[], Value.func (Fn.func 42) #[] #[], Value.nilFunc, Value.nilFunc, Value.func (Fn.func 43) #[] #[], Value.func (Fn.func 46) #[] #[], Value.func (Fn.func 47) #[] #[], Value.func (Fn.func 48) #[] #[], Value.nilFunc, Value.nilFunc, Value.func (Fn.func 49) #[] #[], Value.func (Fn.func 50) #[] #[]] 46) _ _ (by omega)] at q0 q1
  clear q2
  have hS2 : S3 w f g x y (w1.alloc (Obj.cells #[Value.func (Fn.func 37) #[] #[], Value.func (Fn.func 38) #[] #[], Value.func (Fn.func 39) #[] #[], Value.func (Fn.func 40) #[] #[], Value.func (Fn.func 42) #[] #[], Value.nilFunc, Value.nilFunc, Value.func (Fn.func 43) #[] #[], Value.func (Fn.func 46) #[] #[], Value.func (Fn.func 47) #[] #[], Value.func (Fn.func 48) #[] #[], Value.nilFunc, Value.nilFunc, Value.func (Fn.func 49) #[] #[], Value.func (Fn.func 50) #[] #[]] 46)) := S3.below hS ((Below.refl _ _).alloc (Nat.le_refl _) _)
  have hcell : (w1.alloc (Obj.cells #[Value.func (Fn.func 37) #[] #[], Value.func (Fn.func 38) #[] #[], Value.func (Fn.func 39) #[] #[], Value.func (Fn.func 40) #[] #[], Value.func (Fn.func 42) #[] #[], Value.nilFunc, Value.nilFunc, Value.func (Fn.func 43) #[] #[], Value.func (Fn.func 46) #[] #[], Value.func (Fn.func 47) #[] #[], Value.func (Fn.func 48) #[] #[], Value.nilFunc, Value.nilFunc, Value.func (Fn.func 49) #[] #[], Value.func (Fn.func 50) #[] #[]] 46)).cell? ⟨w1.heap.size, 13, none⟩ = some (Value.func (Fn.func 49) #[] #[]) := by
    rw [World.cell?_alloc_new]; rfl
  generalize w1.alloc (Obj.cells #[Value.func (Fn.func 37) #[] #[], Value.func (Fn.func 38) #[] #[], Value.func (Fn.func 39) #[] #[], Value.func (Fn.func 40) #[] #[], Value.func (Fn.func 42) #[] #[], Value.nilFunc, Value.nilFunc, Value.func (Fn.func 43) #[] #[], Value.func (Fn.func 46) #[] #[], Value.func (Fn.func 47) #[] #[], Value.func (Fn.func 48) #[] #[], Value.nilFunc, Value.nilFunc, Value.func (Fn.func 49) #[] #[], Value.func (Fn.func 50) #[] #[]] 46) = W2 at hS2 hcell q0 q1 ⊢
  generalize (Value.agg #[Value.func (Fn.func 37) #[] #[], Value.func (Fn.func 38) #[] #[], Value.func (Fn.func 39) #[] #[], Value.func (Fn.func 40) #[] #[], Value.func (Fn.func 42) #[] #[], Value.nilFunc, Value.nilFunc, Value.func (Fn.func 43) #[] #[], Value.func (Fn.func 46) #[] #[], Value.func (Fn.func 47) #[] #[], Value.func (Fn.func 48) #[] #[], Value.nilFunc, Value.nilFunc, Value.func (Fn.func 49) #[] #[], Value.func (Fn.func 50) #[] #[]]) = V9
  have en := fun (w : World) => run_eql_func_nil (P := Tryz.prog) w 45 (Fn.func 49) #[] #[] Tryz.underlying45
  have hp : w.heap.size + 1 + 1 < w1.heap.size := by have := hS.2.1; omega
  have hS4 : S4 w f g x y w1.heap.size 13 (Value.func (Fn.func 49) #[] #[]) W2 := S4.of hS2 hcell
  clear hS2 hcell
  obtain ⟨⟨-, -, c1, c2, c3, c4, c5, c6, z1, z2⟩, hcell⟩ := id hS4
  clear hS
  go_wp2_with fail
  have hS5 := S4.same hp hS4
  clear c1 c2 c3 c4 c5 c6 z1 z2 hcell hS4 q0 q1
  generalize (W2.setCell _ _).setCell _ _ = W3 at hS5 ⊢
  refine (kind_any _ _ _ _ _ _).mono ?_
  rintro e w3 ⟨rfl, hb⟩
  replace hS5 := S4.below hS5 hb
  clear hb
  obtain ⟨⟨hB, hs, c1, c2, c3, c4, c5, c6, z1, z2⟩, hcell⟩ := id hS5
  go_wp2_with fail
  obtain ⟨hb, r0, r1⟩ := S3.fin (S3.store hS5.three (.bool false) (.int .u64 0))
  exact bodyPost_ret (v := .tuple #[.agg #[.bool false, .int .u64 0], .int .i64 6]) (by simp [results, Tryz.results9, go_sem, r0, r1]) rfl ⟨rfl, hb⟩

set_option maxRecDepth 100000 in
set_option maxHeartbeats 2000000 in
theorem calc_14_kind (f g : Bool) (x y : Int) (w : World) (hk : kindB f f 14 = false) :
    Calls Tryz.prog 9 #[.int .i64 14, .agg #[.bool f, .int .u64 x], .agg #[.bool g, .int .u64 y]] w fun e w' =>
      e = .returned (.tuple #[.agg #[.bool false, .int .u64 0], .int .i64 6]) ∧ Below w.heap.size w w' := by
  obtain ⟨W0, hW0, hS⟩ := boxes f g x y w
  have HW := Lib.hid hW0; clear hW0
  go_enter Tryz.func9, Tryz.ntmps9
  go_wp2_with fail
  rw [← HW.out]
  have q0 : W0.frozen? ⟨w.heap.size + 1, 0, none⟩ = false := by
    rw [HW.out, World.frozen?_alloc_past _ _ _ (by simp), World.frozen?_alloc_at _ _ _ _ (by simp)]
  have q1 : W0.frozen? ⟨w.heap.size + 1, 1, none⟩ = false := by
    rw [HW.out, World.frozen?_alloc_past _ _ _ (by simp), World.frozen?_alloc_at _ _ _ _ (by simp)]
  clear HW
  refine (calculations_any _).mono ?_
  rintro e w1 ⟨rfl, hb⟩
  have hW0 : w.heap.size + 3 ≤ W0.heap.size := hS.2.1
  rw [← hb.frozen (by simp; omega)] at q0 q1
  clear hW0
  replace hS := S3.below hS hb
  clear hb
  go_upto_region 2 with (fail)
  have q2 := hS.2.1
  rw [← World.frozen?_alloc_past (o := Obj.cells #[Value.func (Fn.func 37) #[] #[], Value.func (Fn.func 38) #[] #[], Value.func (Fn.func 39) #[] #[], Value.func (Fn.func 40) #[] #[], Value.func (Fn.func 42) #[] #[], Value.nilFunc, Value.nilFunc, Value.func (Fn.func 43) #[] #[], Value.func (Fn.func 46) #[] #[], Value.func (Fn.func 47) #[] #[], Value.func (Fn.func 48) #[] #[], Value.nilFunc, Value.nilFunc, Value.func (Fn.func 49) #[] #[], Value.func (Fn.func 50) #[] #[]] 46) _ _ (by omega)] at q0 q1
  clear q2
  have hS2 : S3 w f g x y (w1.alloc (Obj.cells #[Value.func (Fn.func 37) #[] #[], Value.func (Fn.func 38) #[] #[], Value.func (Fn.func 39) #[] #[], Value.func (Fn.func 40) #[] #[], Value.func (Fn.func 42) #[] #[], Value.nilFunc, Value.nilFunc, Value.func (Fn.func 43) #[] #[], Value.func (Fn.func 46) #[] #[], Value.func (Fn.func 47) #[] #[], Value.func (Fn.func 48) #[] #[], Value.nilFunc, Value.nilFunc, Value.func (Fn.func 49) #[] #[], Value.func (Fn.func 50) #[] #[]] 46)) := S3.below hS ((Below.refl _ _).alloc (Nat.le_refl _) _)
  have hcell : (w1.alloc (Obj.cells #[Value.func (Fn.func 37) #[] #[], Value.func (Fn.func 38) #[] #[], Value.func (Fn.func 39) #[] #[], Value.func (Fn.func 40) #[] #[], Value.func (Fn.func 42) #[] #[], Value.nilFunc, Value.nilFunc, Value.func (Fn.func 43) #[] #[], Value.func (Fn.func 46) #[] #[], Value.func (Fn.func 47) #[] #[], Value.func (Fn.func 48) #[] #[], Value.nilFunc, Value.nilFunc, Value.func (Fn.func 49) #[] #[], Value.func (Fn.func 50) #[] #[]] 46)).cell? ⟨w1.heap.size, 14, none⟩ = some (Value.func (Fn.func 50) #[] #[]) := by
    rw [World.cell?_alloc_new]; rfl
  generalize w1.alloc (Obj.cells #[Value.func (Fn.func 37) #[] #[], Value.func (Fn.func 38) #[] #[], Value.func (Fn.func 39) #[] #[], Value.func (Fn.func 40) #[] #[], Value.func (Fn.func 42) #[] #[], Value.nilFunc, Value.nilFunc, Value.func (Fn.func 43) #[] #[], Value.func (Fn.func 46) #[] #[], Value.func (Fn.func 47) #[] #[], Value.func (Fn.func 48) #[] #[], Value.nilFunc, Value.nilFunc, Value.func (Fn.func 49) #[] #[], Value.func (Fn.func 50) #[] #[]] 46) = W2 at hS2 hcell q0 q1 ⊢
  generalize (Value.agg #[Value.func (Fn.func 37) #[] #[], Value.func (Fn.func 38) #[] #[], Value.func (Fn.func 39) #[] #[], Value.func (Fn.func 40) #[] #[], Value.func (Fn.func 42) #[] #[], Value.nilFunc, Value.nilFunc, Value.func (Fn.func 43) #[] #[], Value.func (Fn.func 46) #[] #[], Value.func (Fn.func 47) #[] #[], Value.func (Fn.func 48) #[] #[], Value.nilFunc, Value.nilFunc, Value.func (Fn.func 49) #[] #[], Value.func (Fn.func 50) #[] #[]]) = V9
  have en := fun (w : World) => run_eql_func_nil (P := Tryz.prog) w 45 (Fn.func 50) #[] #[] Tryz.underlying45
  have hp : w.heap.size + 1 + 1 < w1.heap.size := by have := hS.2.1; omega
  have hS4 : S4 w f g x y w1.heap.size 14 (Value.func (Fn.func 50) #[] #[]) W2 := S4.of hS2 hcell
  clear hS2 hcell
  obtain ⟨⟨-, -, c1, c2, c3, c4, c5, c6, z1, z2⟩, hcell⟩ := id hS4
  clear hS
  go_wp2_with fail
  have hS5 := S4.same hp hS4
  clear c1 c2 c3 c4 c5 c6 z1 z2 hcell hS4 q0 q1
  generalize (W2.setCell _ _).setCell _ _ = W3 at hS5 ⊢
  refine (kind_any _ _ _ _ _ _).mono ?_
  rintro e w3 ⟨rfl, hb⟩
  replace hS5 := S4.below hS5 hb
  clear hb
  obtain ⟨⟨hB, hs, c1, c2, c3, c4, c5, c6, z1, z2⟩, hcell⟩ := id hS5
  go_wp2_with fail
  obtain ⟨hb, r0, r1⟩ := S3.fin (S3.store hS5.three (.bool false) (.int .u64 0))
  exact bodyPost_ret (v := .tuple #[.agg #[.bool false, .int .u64 0], .int .i64 6]) (by simp [results, Tryz.results9, go_sem, r0, r1]) rfl ⟨rfl, hb⟩

set_option maxRecDepth 100000 in
set_option maxHeartbeats 2000000 in
theorem calc_13_ok (f g : Bool) (x y : Int) (w : World) (hk : kindB f f 13 = true) :
    Calls Tryz.prog 9 #[.int .i64 13, .agg #[.bool f, .int .u64 x], .agg #[.bool g, .int .u64 y]] w fun e w' =>
      e = .returned (.tuple #[.agg #[.bool true, .int .u64 ((cn (floatOfInt .f64 (wrap64 x)) : Nat))], .int .i64 (0)]) ∧ Below w.heap.size w w' := by
  obtain ⟨W0, hW0, hS⟩ := boxes f g x y w
  have HW := Lib.hid hW0; clear hW0
  go_enter Tryz.func9, Tryz.ntmps9
  go_wp2_with fail
  rw [← HW.out]
  have q0 : W0.frozen? ⟨w.heap.size + 1, 0, none⟩ = false := by
    rw [HW.out, World.frozen?_alloc_past _ _ _ (by simp), World.frozen?_alloc_at _ _ _ _ (by simp)]
  have q1 : W0.frozen? ⟨w.heap.size + 1, 1, none⟩ = false := by
    rw [HW.out, World.frozen?_alloc_past _ _ _ (by simp), World.frozen?_alloc_at _ _ _ _ (by simp)]
  clear HW
  refine (calculations_any _).mono ?_
  rintro e w1 ⟨rfl, hb⟩
  have hW0 : w.heap.size + 3 ≤ W0.heap.size := hS.2.1
  rw [← hb.frozen (by simp; omega)] at q0 q1
  clear hW0
  replace hS := S3.below hS hb
  clear hb
  go_upto_region 2 with (fail)
  have q2 := hS.2.1
  rw [← World.frozen?_alloc_past (o := Obj.cells #[Value.func (Fn.func 37) #[] #[], Value.func (Fn.func 38) #[] #[], Value.func (Fn.func 39) #[] #[], Value.func (Fn.func 40) #[] #[], Value.func (Fn.func 42) #[] #[], Value.nilFunc, Value.nilFunc, Value.func (Fn.func 43) #[] #[], Value.func (Fn.func 46) #[] #[], Value.func (Fn.func 47) #[] #[], Value.func (Fn.func 48) #[] #[], Value.nilFunc, Value.nilFunc, Value.func (Fn.func 49) #[] #[], Value.func (Fn.func 50) #[] #[]] 46) _ _ (by omega)] at q0 q1
  clear q2
  have hS2 : S3 w f g x y (w1.alloc (Obj.cells #[Value.func (Fn.func 37) #[] #[], Value.func (Fn.func 38) #[] #[], Value.func (Fn.func 39) #[] #[], Value.func (Fn.func 40) #[] #[], Value.func (Fn.func 42) #[] #[], Value.nilFunc, Value.nilFunc, Value.func (Fn.func 43) #[] #[], Value.func (Fn.func 46) #[] #[], Value.func (Fn.func 47) #[] #[], Value.func (Fn.func 48) #[] #[], Value.nilFunc, Value.nilFunc, Value.func (Fn.func 49) #[] #[], Value.func (Fn.func 50) #[] #[]] 46)) := S3.below hS ((Below.refl _ _).alloc (Nat.le_refl _) _)
  have hcell : (w1.alloc (Obj.cells #[Value.func (Fn.func 37) #[] #[], Value.func (Fn.func 38) #[] #[], Value.func (Fn.func 39) #[] #[], Value.func (Fn.func 40) #[] #[], Value.func (Fn.func 42) #[] #[], Value.nilFunc, Value.nilFunc, Value.func (Fn.func 43) #[] #[], Value.func (Fn.func 46) #[] #[], Value.func (Fn.func 47) #[] #[], Value.func (Fn.func 48) #[] #[], Value.nilFunc, Value.nilFunc, Value.func (Fn.func 49) #[] #[], Value.func (Fn.func 50) #[] #[]] 46)).cell? ⟨w1.heap.size, 13, none⟩ = some (Value.func (Fn.func 49) #[] #[]) := by
    rw [World.cell?_alloc_new]; rfl
  generalize w1.alloc (Obj.cells #[Value.func (Fn.func 37) #[] #[], Value.func (Fn.func 38) #[] #[], Value.func (Fn.func 39) #[] #[], Value.func (Fn.func 40) #[] #[], Value.func (Fn.func 42) #[] #[], Value.nilFunc, Value.nilFunc, Value.func (Fn.func 43) #[] #[], Value.func (Fn.func 46) #[] #[], Value.func (Fn.func 47) #[] #[], Value.func (Fn.func 48) #[] #[], Value.nilFunc, Value.nilFunc, Value.func (Fn.func 49) #[] #[], Value.func (Fn.func 50) #[] #[]] 46) = W2 at hS2 hcell q0 q1 ⊢
  generalize (Value.agg #[Value.func (Fn.func 37) #[] #[], Value.func (Fn.func 38) #[] #[], Value.func (Fn.func 39) #[] #[], Value.func (Fn.func 40) #[] #[], Value.func (Fn.func 42) #[] #[], Value.nilFunc, Value.nilFunc, Value.func (Fn.func 43) #[] #[], Value.func (Fn.func 46) #[] #[], Value.func (Fn.func 47) #[] #[], Value.func (Fn.func 48) #[] #[], Value.nilFunc, Value.nilFunc, Value.func (Fn.func 49) #[] #[], Value.func (Fn.func 50) #[] #[]]) = V9
  have en := fun (w : World) => run_eql_func_nil (P := Tryz.prog) w 45 (Fn.func 49) #[] #[] Tryz.underlying45
  have hp : w.heap.size + 1 + 1 < w1.heap.size := by have := hS.2.1; omega
  have hS4 : S4 w f g x y w1.heap.size 13 (Value.func (Fn.func 49) #[] #[]) W2 := S4.of hS2 hcell
  clear hS2 hcell
  obtain ⟨⟨-, -, c1, c2, c3, c4, c5, c6, z1, z2⟩, hcell⟩ := id hS4
  clear hS
  go_wp2_with fail
  have hS5 := S4.same hp hS4
  clear c1 c2 c3 c4 c5 c6 z1 z2 hcell hS4 q0 q1
  generalize (W2.setCell _ _).setCell _ _ = W3 at hS5 ⊢
  refine (kind_any _ _ _ _ _ _).mono ?_
  rintro e w3 ⟨rfl, hb⟩
  replace hS5 := S4.below hS5 hb
  clear hb
  obtain ⟨⟨hB, hs, c1, c2, c3, c4, c5, c6, z1, z2⟩, hcell⟩ := id hS5
  go_wp2_with fail
  go_region_held3 (fun w' => (Below w.heap.size w w' ∧ w.heap.size + 3 ≤ w'.heap.size ∧
      w'.cell? ⟨w.heap.size, 0, none⟩ = some (.bool f) ∧ w'.cell? ⟨w.heap.size, 1, none⟩ = some (.int .u64 x) ∧
      w'.cell? ⟨w.heap.size + 1, 0, none⟩ = some (.bool f) ∧ w'.cell? ⟨w.heap.size + 1, 1, none⟩ = some (.int .u64 x) ∧
      w'.cell? ⟨w.heap.size + 1 + 1, 0, none⟩ = some (cellv w' ⟨w.heap.size + 1 + 1, 0, none⟩) ∧ w'.cell? ⟨w.heap.size + 1 + 1, 1, none⟩ = some (cellv w' ⟨w.heap.size + 1 + 1, 1, none⟩) ∧
      w'.frozen? ⟨w.heap.size + 1 + 1, 0, none⟩ = false ∧ w'.frozen? ⟨w.heap.size + 1 + 1, 1, none⟩ = false) ∧ w'.cell? ⟨w1.heap.size, 13, none⟩ = some (Value.func (Fn.func 49) #[] #[]))
    (first
      | exact S4.below (by assumption) hb
      | exact S4.store hp (by assumption) _ _
      | exact S4.drew (by assumption))
    (first
      | (go_at_call 49; refine (opFloat_any _ _ _ _ _).mono ?_; rintro e w' ⟨rfl, hb⟩))
  go_wp2
  obtain ⟨hb, r0, r1⟩ := S3.fin (S4.three (f := f) (g := f) (x := x) (y := x) (p := w1.heap.size) (i := 13) (v := (Value.func (Fn.func 49) #[] #[])) (by assumption))
  exact bodyPost_ret (v := .tuple #[.agg #[.bool true, .int .u64 ((cn (floatOfInt .f64 (wrap64 x)) : Nat))], .int .i64 (0)]) (by simp [results, Tryz.results9, go_sem, r0, r1]) rfl ⟨rfl, hb⟩

set_option maxRecDepth 100000 in
set_option maxHeartbeats 2000000 in
theorem calc_14_ok (f g : Bool) (x y : Int) (w : World) (hk : kindB f f 14 = true) (hv : within x.toNat = true → (floatToIntVal .f64 x.toNat .i64).isSome = true) :
    Calls Tryz.prog 9 #[.int .i64 14, .agg #[.bool f, .int .u64 x], .agg #[.bool g, .int .u64 y]] w fun e w' =>
      e = .returned (.tuple #[.agg #[.bool false, .int .u64 (tr x.toNat)], .int .i64 (trE x.toNat)]) ∧ Below w.heap.size w w' := by
  obtain ⟨W0, hW0, hS⟩ := boxes f g x y w
  have HW := Lib.hid hW0; clear hW0
  go_enter Tryz.func9, Tryz.ntmps9
  go_wp2_with fail
  rw [← HW.out]
  have q0 : W0.frozen? ⟨w.heap.size + 1, 0, none⟩ = false := by
    rw [HW.out, World.frozen?_alloc_past _ _ _ (by simp), World.frozen?_alloc_at _ _ _ _ (by simp)]
  have q1 : W0.frozen? ⟨w.heap.size + 1, 1, none⟩ = false := by
    rw [HW.out, World.frozen?_alloc_past _ _ _ (by simp), World.frozen?_alloc_at _ _ _ _ (by simp)]
  clear HW
  refine (calculations_any _).mono ?_
  rintro e w1 ⟨rfl, hb⟩
  have hW0 : w.heap.size + 3 ≤ W0.heap.size := hS.2.1
  rw [← hb.frozen (by simp; omega)] at q0 q1
  clear hW0
  replace hS := S3.below hS hb
  clear hb
  go_upto_region 2 with (fail)
  have q2 := hS.2.1
  rw [← World.frozen?_alloc_past (o := Obj.cells #[Value.func (Fn.func 37) #[] #[], Value.func (Fn.func 38) #[] #[], Value.func (Fn.func 39) #[] #[], Value.func (Fn.func 40) #[] #[], Value.func (Fn.func 42) #[] #[], Value.nilFunc, Value.nilFunc, Value.func (Fn.func 43) #[] #[], Value.func (Fn.func 46) #[] #[], Value.func (Fn.func 47) #[] #[], Value.func (Fn.func 48) #[] #[], Value.nilFunc, Value.nilFunc, Value.func (Fn.func 49) #[] #[], Value.func (Fn.func 50) #[] #[]] 46) _ _ (by omega)] at q0 q1
  clear q2
  have hS2 : S3 w f g x y (w1.alloc (Obj.cells #[Value.func (Fn.func 37) #[] #[], Value.func (Fn.func 38) #[] #[], Value.func (Fn.func 39) #[] #[], Value.func (Fn.func 40) #[] #[], Value.func (Fn.func 42) #[] #[], Value.nilFunc, Value.nilFunc, Value.func (Fn.func 43) #[] #[], Value.func (Fn.func 46) #[] #[], Value.func (Fn.func 47) #[] #[], Value.func (Fn.func 48) #[] #[], Value.nilFunc, Value.nilFunc, Value.func (Fn.func 49) #[] #[], Value.func (Fn.func 50) #[] #[]] 46)) := S3.below hS ((Below.refl _ _).alloc (Nat.le_refl _) _)
  have hcell : (w1.alloc (Obj.cells #[Value.func (Fn.func 37) #[] #[], Value.func (Fn.func 38) #[] #[], Value.func (Fn.func 39) #[] #[], Value.func (Fn.func 40) #[] #[], Value.func (Fn.func 42) #[] #[], Value.nilFunc, Value.nilFunc, Value.func (Fn.func 43) #[] #[], Value.func (Fn.func 46) #[] #[], Value.func (Fn.func 47) #[] #[], Value.func (Fn.func 48) #[] #[], Value.nilFunc, Value.nilFunc, Value.func (Fn.func 49) #[] #[], Value.func (Fn.func 50) #[] #[]] 46)).cell? ⟨w1.heap.size, 14, none⟩ = some (Value.func (Fn.func 50) #[] #[]) := by
    rw [World.cell?_alloc_new]; rfl
  generalize w1.alloc (Obj.cells #[Value.func (Fn.func 37) #[] #[], Value.func (Fn.func 38) #[] #[], Value.func (Fn.func 39) #[] #[], Value.func (Fn.func 40) #[] #[], Value.func (Fn.func 42) #[] #[], Value.nilFunc, Value.nilFunc, Value.func (Fn.func 43) #[] #[], Value.func (Fn.func 46) #[] #[], Value.func (Fn.func 47) #[] #[], Value.func (Fn.func 48) #[] #[], Value.nilFunc, Value.nilFunc, Value.func (Fn.func 49) #[] #[], Value.func (Fn.func 50) #[] #[]] 46) = W2 at hS2 hcell q0 q1 ⊢
  generalize (Value.agg #[Value.func (Fn.func 37) #[] #[], Value.func (Fn.func 38) #[] #[], Value.func (Fn.func 39) #[] #[], Value.func (Fn.func 40) #[] #[], Value.func (Fn.func 42) #[] #[], Value.nilFunc, Value.nilFunc, Value.func (Fn.func 43) #[] #[], Value.func (Fn.func 46) #[] #[], Value.func (Fn.func 47) #[] #[], Value.func (Fn.func 48) #[] #[], Value.nilFunc, Value.nilFunc, Value.func (Fn.func 49) #[] #[], Value.func (Fn.func 50) #[] #[]]) = V9
  have en := fun (w : World) => run_eql_func_nil (P := Tryz.prog) w 45 (Fn.func 50) #[] #[] Tryz.underlying45
  have hp : w.heap.size + 1 + 1 < w1.heap.size := by have := hS.2.1; omega
  have hS4 : S4 w f g x y w1.heap.size 14 (Value.func (Fn.func 50) #[] #[]) W2 := S4.of hS2 hcell
  clear hS2 hcell
  obtain ⟨⟨-, -, c1, c2, c3, c4, c5, c6, z1, z2⟩, hcell⟩ := id hS4
  clear hS
  go_wp2_with fail
  have hS5 := S4.same hp hS4
  clear c1 c2 c3 c4 c5 c6 z1 z2 hcell hS4 q0 q1
  generalize (W2.setCell _ _).setCell _ _ = W3 at hS5 ⊢
  refine (kind_any _ _ _ _ _ _).mono ?_
  rintro e w3 ⟨rfl, hb⟩
  replace hS5 := S4.below hS5 hb
  clear hb
  obtain ⟨⟨hB, hs, c1, c2, c3, c4, c5, c6, z1, z2⟩, hcell⟩ := id hS5
  go_wp2_with fail
  go_region_held3 (fun w' => (Below w.heap.size w w' ∧ w.heap.size + 3 ≤ w'.heap.size ∧
      w'.cell? ⟨w.heap.size, 0, none⟩ = some (.bool f) ∧ w'.cell? ⟨w.heap.size, 1, none⟩ = some (.int .u64 x) ∧
      w'.cell? ⟨w.heap.size + 1, 0, none⟩ = some (.bool f) ∧ w'.cell? ⟨w.heap.size + 1, 1, none⟩ = some (.int .u64 x) ∧
      w'.cell? ⟨w.heap.size + 1 + 1, 0, none⟩ = some (cellv w' ⟨w.heap.size + 1 + 1, 0, none⟩) ∧ w'.cell? ⟨w.heap.size + 1 + 1, 1, none⟩ = some (cellv w' ⟨w.heap.size + 1 + 1, 1, none⟩) ∧
      w'.frozen? ⟨w.heap.size + 1 + 1, 0, none⟩ = false ∧ w'.frozen? ⟨w.heap.size + 1 + 1, 1, none⟩ = false) ∧ w'.cell? ⟨w1.heap.size, 14, none⟩ = some (Value.func (Fn.func 50) #[] #[]))
    (first
      | exact S4.below (by assumption) hb
      | exact S4.store hp (by assumption) _ _
      | exact S4.drew (by assumption))
    (first
      | (go_at_call 50; refine (opTrunc_any _ _ _ _ _ hv).mono ?_; rintro e w' ⟨rfl, hb⟩))
  go_wp2
  obtain ⟨hb, r0, r1⟩ := S3.fin (S4.three (f := f) (g := f) (x := x) (y := x) (p := w1.heap.size) (i := 14) (v := (Value.func (Fn.func 50) #[] #[])) (by assumption))
  exact bodyPost_ret (v := .tuple #[.agg #[.bool false, .int .u64 (tr x.toNat)], .int .i64 (trE x.toNat)]) (by simp [results, Tryz.results9, go_sem, r0, r1]) rfl ⟨rfl, hb⟩

end Go.Proofs.YtkipioojdlkbcaaGreatDoor
