/- Contracts of Test: what it returns for each question, and its refusals. -/
import Derived.Test.YtkipioojdlkbcaaDoorNumE
namespace Go.Proofs.YtkipioojdlkbcaaDoor
open Go.RowKit

/-- The state of a world behind two boxes and a table, whose cell i at block p holds v. -/
def S5 (w : World) (f g : Bool) (x y : Int) (p i : Nat) (v : Value) (w' : World) : Prop :=
  (Below w.heap.size w w' ∧ w.heap.size + 2 ≤ w'.heap.size ∧
      w'.cell? ⟨w.heap.size, 0, none⟩ = some (.bool f) ∧ w'.cell? ⟨w.heap.size, 1, none⟩ = some (.int .u64 x) ∧
      w'.cell? ⟨w.heap.size + 1, 0, none⟩ = some (.bool g) ∧ w'.cell? ⟨w.heap.size + 1, 1, none⟩ = some (.int .u64 y)) ∧ w'.cell? ⟨p, i, none⟩ = some v

theorem S5.two {w : World} {f g : Bool} {x y : Int} {p i : Nat} {v : Value} {W : World} (h : S5 w f g x y p i v W) : S2 w f g x y W := h.1
theorem S5.of {w : World} {f g : Bool} {x y : Int} {p i : Nat} {v : Value} {W : World} (h : S2 w f g x y W) (hc : W.cell? ⟨p, i, none⟩ = some v) : S5 w f g x y p i v W := ⟨h, hc⟩
theorem S5.drew {w : World} {f g : Bool} {x y : Int} {p i : Nat} {v : Value} {W : World} (h : S5 w f g x y p i v W) : S5 w f g x y p i v W.drew := ⟨S2.drew h.1, h.2⟩
theorem S5.below {w : World} {f g : Bool} {x y : Int} {p i : Nat} {v : Value} {W w' : World} (h : S5 w f g x y p i v W) (hb : Below W.heap.size W w') : S5 w f g x y p i v w' :=
  ⟨S2.below h.1 hb, (hb.cell (World.block_lt_of_cell? _ _ h.2)).trans h.2⟩

set_option maxRecDepth 100000 in
set_option maxHeartbeats 2000000 in
theorem test_low (op : Int) (f g : Bool) (x y : Int) (w : World) (h : op < 0) :
    Calls Tryd.prog 14 #[.int .i64 op, .agg #[.bool f, .int .u64 x], .agg #[.bool g, .int .u64 y]] w fun e w' =>
      e = .returned (.tuple #[.bool false, .int .i64 1]) ∧ Below w.heap.size w w' := by
  obtain ⟨W0, hW0, hS⟩ := boxes2 f g x y w
  have HW := Lib.hid hW0; clear hW0
  go_enter Tryd.func14, Tryd.ntmps14
  go_wp2_with fail
  rw [← HW.out]
  clear HW
  refine (questions_any _).mono ?_
  rintro e w1 ⟨rfl, hb⟩
  replace hS := S2.below hS hb
  clear hb
  go_upto_region 2 with (fail)
  have hS2 : S2 w f g x y (w1.alloc (Obj.cells #[Value.nilFunc, Value.nilFunc, Value.nilFunc, Value.nilFunc, Value.nilFunc, Value.func (Fn.func 55) #[] #[], Value.func (Fn.func 56) #[] #[], Value.nilFunc, Value.nilFunc, Value.nilFunc, Value.nilFunc, Value.func (Fn.func 57) #[] #[], Value.func (Fn.func 58) #[] #[]] 60)) := S2.below hS ((Below.refl _ _).alloc (Nat.le_refl _) _)
  generalize w1.alloc (Obj.cells #[Value.nilFunc, Value.nilFunc, Value.nilFunc, Value.nilFunc, Value.nilFunc, Value.func (Fn.func 55) #[] #[], Value.func (Fn.func 56) #[] #[], Value.nilFunc, Value.nilFunc, Value.nilFunc, Value.nilFunc, Value.func (Fn.func 57) #[] #[], Value.func (Fn.func 58) #[] #[]] 60) = W2 at hS2 ⊢
  generalize (Value.agg #[Value.nilFunc, Value.nilFunc, Value.nilFunc, Value.nilFunc, Value.nilFunc, Value.func (Fn.func 55) #[] #[], Value.func (Fn.func 56) #[] #[], Value.nilFunc, Value.nilFunc, Value.nilFunc, Value.nilFunc, Value.func (Fn.func 57) #[] #[], Value.func (Fn.func 58) #[] #[]]) = V9
  obtain ⟨-, -, c1, c2, c3, c4⟩ := id hS2
  clear hS
  go_wp2_with fail
  go_ret2
  exact ⟨rfl, S2.out hS2⟩

set_option maxRecDepth 100000 in
set_option maxHeartbeats 2000000 in
theorem test_high (op : Int) (f g : Bool) (x y : Int) (w : World) (h0 : 0 ≤ op) (h : 13 ≤ op) :
    Calls Tryd.prog 14 #[.int .i64 op, .agg #[.bool f, .int .u64 x], .agg #[.bool g, .int .u64 y]] w fun e w' =>
      e = .returned (.tuple #[.bool false, .int .i64 1]) ∧ Below w.heap.size w w' := by
  obtain ⟨W0, hW0, hS⟩ := boxes2 f g x y w
  have HW := Lib.hid hW0; clear hW0
  go_enter Tryd.func14, Tryd.ntmps14
  go_wp2_with fail
  rw [← HW.out]
  clear HW
  refine (questions_any _).mono ?_
  rintro e w1 ⟨rfl, hb⟩
  replace hS := S2.below hS hb
  clear hb
  go_upto_region 2 with (fail)
  have hS2 : S2 w f g x y (w1.alloc (Obj.cells #[Value.nilFunc, Value.nilFunc, Value.nilFunc, Value.nilFunc, Value.nilFunc, Value.func (Fn.func 55) #[] #[], Value.func (Fn.func 56) #[] #[], Value.nilFunc, Value.nilFunc, Value.nilFunc, Value.nilFunc, Value.func (Fn.func 57) #[] #[], Value.func (Fn.func 58) #[] #[]] 60)) := S2.below hS ((Below.refl _ _).alloc (Nat.le_refl _) _)
  generalize w1.alloc (Obj.cells #[Value.nilFunc, Value.nilFunc, Value.nilFunc, Value.nilFunc, Value.nilFunc, Value.func (Fn.func 55) #[] #[], Value.func (Fn.func 56) #[] #[], Value.nilFunc, Value.nilFunc, Value.nilFunc, Value.nilFunc, Value.func (Fn.func 57) #[] #[], Value.func (Fn.func 58) #[] #[]] 60) = W2 at hS2 ⊢
  generalize (Value.agg #[Value.nilFunc, Value.nilFunc, Value.nilFunc, Value.nilFunc, Value.nilFunc, Value.func (Fn.func 55) #[] #[], Value.func (Fn.func 56) #[] #[], Value.nilFunc, Value.nilFunc, Value.nilFunc, Value.nilFunc, Value.func (Fn.func 57) #[] #[], Value.func (Fn.func 58) #[] #[]]) = V9
  obtain ⟨-, -, c1, c2, c3, c4⟩ := id hS2
  clear hS
  go_wp2_with fail
  go_ret2
  exact ⟨rfl, S2.out hS2⟩

set_option maxRecDepth 100000 in
set_option maxHeartbeats 2000000 in
theorem test_gap (op : Int) (f g : Bool) (x y : Int) (w : World) (h0 : 0 ≤ op) (h1 : op < 13)
    (hfn : (#[Value.nilFunc, Value.nilFunc, Value.nilFunc, Value.nilFunc, Value.nilFunc, Value.func (Fn.func 55) #[] #[], Value.func (Fn.func 56) #[] #[], Value.nilFunc, Value.nilFunc, Value.nilFunc, Value.nilFunc, Value.func (Fn.func 57) #[] #[], Value.func (Fn.func 58) #[] #[]] : Array Value)[op.toNat]? = some Value.nilFunc) :
    Calls Tryd.prog 14 #[.int .i64 op, .agg #[.bool f, .int .u64 x], .agg #[.bool g, .int .u64 y]] w fun e w' =>
      e = .returned (.tuple #[.bool false, .int .i64 1]) ∧ Below w.heap.size w w' := by
  have Hfn := Lib.hid hfn; clear hfn
  obtain ⟨W0, hW0, hS⟩ := boxes2 f g x y w
  have HW := Lib.hid hW0; clear hW0
  go_enter Tryd.func14, Tryd.ntmps14
  go_wp2_with fail
  rw [← HW.out]
  clear HW
  refine (questions_any _).mono ?_
  rintro e w1 ⟨rfl, hb⟩
  replace hS := S2.below hS hb
  clear hb
  go_upto_region 2 with (fail)
  have hS2 : S2 w f g x y (w1.alloc (Obj.cells #[Value.nilFunc, Value.nilFunc, Value.nilFunc, Value.nilFunc, Value.nilFunc, Value.func (Fn.func 55) #[] #[], Value.func (Fn.func 56) #[] #[], Value.nilFunc, Value.nilFunc, Value.nilFunc, Value.nilFunc, Value.func (Fn.func 57) #[] #[], Value.func (Fn.func 58) #[] #[]] 60)) := S2.below hS ((Below.refl _ _).alloc (Nat.le_refl _) _)
  have hcell : (w1.alloc (Obj.cells #[Value.nilFunc, Value.nilFunc, Value.nilFunc, Value.nilFunc, Value.nilFunc, Value.func (Fn.func 55) #[] #[], Value.func (Fn.func 56) #[] #[], Value.nilFunc, Value.nilFunc, Value.nilFunc, Value.nilFunc, Value.func (Fn.func 57) #[] #[], Value.func (Fn.func 58) #[] #[]] 60)).cell? ⟨w1.heap.size, op.toNat, none⟩ = some Value.nilFunc := by
    rw [World.cell?_alloc_new]; exact Hfn.out
  generalize w1.alloc (Obj.cells #[Value.nilFunc, Value.nilFunc, Value.nilFunc, Value.nilFunc, Value.nilFunc, Value.func (Fn.func 55) #[] #[], Value.func (Fn.func 56) #[] #[], Value.nilFunc, Value.nilFunc, Value.nilFunc, Value.nilFunc, Value.func (Fn.func 57) #[] #[], Value.func (Fn.func 58) #[] #[]] 60) = W2 at hS2 hcell ⊢
  generalize (Value.agg #[Value.nilFunc, Value.nilFunc, Value.nilFunc, Value.nilFunc, Value.nilFunc, Value.func (Fn.func 55) #[] #[], Value.func (Fn.func 56) #[] #[], Value.nilFunc, Value.nilFunc, Value.nilFunc, Value.nilFunc, Value.func (Fn.func 57) #[] #[], Value.func (Fn.func 58) #[] #[]]) = V9
  have en := fun (w : World) => run_eql_nilFunc (P := Tryd.prog) w 59 Tryd.underlying59
  obtain ⟨-, -, c1, c2, c3, c4⟩ := id hS2
  clear hS
  go_wp2_with fail
  go_ret2
  exact ⟨rfl, S2.out hS2⟩

set_option maxRecDepth 100000 in
set_option maxHeartbeats 2000000 in
theorem test_kind (op : Int) (fid : Nat) (f g : Bool) (x y : Int) (w : World) (h0 : 0 ≤ op) (h1 : op < 13)
    (hfn : (#[Value.nilFunc, Value.nilFunc, Value.nilFunc, Value.nilFunc, Value.nilFunc, Value.func (Fn.func 55) #[] #[], Value.func (Fn.func 56) #[] #[], Value.nilFunc, Value.nilFunc, Value.nilFunc, Value.nilFunc, Value.func (Fn.func 57) #[] #[], Value.func (Fn.func 58) #[] #[]] : Array Value)[op.toNat]? = some (Value.func (Fn.func fid) #[] #[])) (hk : kindB f g op = false) :
    Calls Tryd.prog 14 #[.int .i64 op, .agg #[.bool f, .int .u64 x], .agg #[.bool g, .int .u64 y]] w fun e w' =>
      e = .returned (.tuple #[.bool false, .int .i64 6]) ∧ Below w.heap.size w w' := by
  have Hfn := Lib.hid hfn; clear hfn
  obtain ⟨W0, hW0, hS⟩ := boxes2 f g x y w
  have HW := Lib.hid hW0; clear hW0
  go_enter Tryd.func14, Tryd.ntmps14
  go_wp2_with fail
  rw [← HW.out]
  clear HW
  refine (questions_any _).mono ?_
  rintro e w1 ⟨rfl, hb⟩
  replace hS := S2.below hS hb
  clear hb
  go_upto_region 2 with (fail)
  have hS2 : S2 w f g x y (w1.alloc (Obj.cells #[Value.nilFunc, Value.nilFunc, Value.nilFunc, Value.nilFunc, Value.nilFunc, Value.func (Fn.func 55) #[] #[], Value.func (Fn.func 56) #[] #[], Value.nilFunc, Value.nilFunc, Value.nilFunc, Value.nilFunc, Value.func (Fn.func 57) #[] #[], Value.func (Fn.func 58) #[] #[]] 60)) := S2.below hS ((Below.refl _ _).alloc (Nat.le_refl _) _)
  have hcell : (w1.alloc (Obj.cells #[Value.nilFunc, Value.nilFunc, Value.nilFunc, Value.nilFunc, Value.nilFunc, Value.func (Fn.func 55) #[] #[], Value.func (Fn.func 56) #[] #[], Value.nilFunc, Value.nilFunc, Value.nilFunc, Value.nilFunc, Value.func (Fn.func 57) #[] #[], Value.func (Fn.func 58) #[] #[]] 60)).cell? ⟨w1.heap.size, op.toNat, none⟩ = some (Value.func (Fn.func fid) #[] #[]) := by
    rw [World.cell?_alloc_new]; exact Hfn.out
  generalize w1.alloc (Obj.cells #[Value.nilFunc, Value.nilFunc, Value.nilFunc, Value.nilFunc, Value.nilFunc, Value.func (Fn.func 55) #[] #[], Value.func (Fn.func 56) #[] #[], Value.nilFunc, Value.nilFunc, Value.nilFunc, Value.nilFunc, Value.func (Fn.func 57) #[] #[], Value.func (Fn.func 58) #[] #[]] 60) = W2 at hS2 hcell ⊢
  generalize (Value.agg #[Value.nilFunc, Value.nilFunc, Value.nilFunc, Value.nilFunc, Value.nilFunc, Value.func (Fn.func 55) #[] #[], Value.func (Fn.func 56) #[] #[], Value.nilFunc, Value.nilFunc, Value.nilFunc, Value.nilFunc, Value.func (Fn.func 57) #[] #[], Value.func (Fn.func 58) #[] #[]]) = V9
  have en := fun (w : World) => run_eql_func_nil (P := Tryd.prog) w 59 (Fn.func fid) #[] #[] Tryd.underlying59
  have hS5 : S5 w f g x y w1.heap.size op.toNat (Value.func (Fn.func fid) #[] #[]) W2 := S5.of hS2 hcell
  clear hS2 hcell
  obtain ⟨⟨-, -, c1, c2, c3, c4⟩, hcell⟩ := id hS5
  clear hS
  go_wp2_with fail
  refine (kind_any _ _ _ _ _ _).mono ?_
  rintro e w3 ⟨rfl, hb⟩
  replace hS5 := S5.below hS5 hb
  clear hb c1 c2 c3 c4 hcell
  obtain ⟨⟨hB, hs, c1, c2, c3, c4⟩, hcell⟩ := id hS5
  go_wp2_with fail
  go_ret2
  exact ⟨rfl, S2.out (S5.two hS5)⟩

set_option maxRecDepth 100000 in
set_option maxHeartbeats 2000000 in
theorem test_ok (op : Int) (fid : Nat) (f g rb : Bool) (x y : Int) (w : World) (h0 : 0 ≤ op) (h1 : op < 13)
    (hfn : (#[Value.nilFunc, Value.nilFunc, Value.nilFunc, Value.nilFunc, Value.nilFunc, Value.func (Fn.func 55) #[] #[], Value.func (Fn.func 56) #[] #[], Value.nilFunc, Value.nilFunc, Value.nilFunc, Value.nilFunc, Value.func (Fn.func 57) #[] #[], Value.func (Fn.func 58) #[] #[]] : Array Value)[op.toNat]? = some (Value.func (Fn.func fid) #[] #[]))
    (eg : ∀ args w, (callFunc fid args).run Tryd.prog w = .ok (.enter fid args) w) (hk : kindB f g op = true)
    (hcl : ∀ w, Calls Tryd.prog fid #[.agg #[.bool f, .int .u64 x], .agg #[.bool g, .int .u64 y]] w fun e w' => e = .returned (.bool rb) ∧ Below w.heap.size w w') :
    Calls Tryd.prog 14 #[.int .i64 op, .agg #[.bool f, .int .u64 x], .agg #[.bool g, .int .u64 y]] w fun e w' =>
      e = .returned (.tuple #[.bool rb, .int .i64 0]) ∧ Below w.heap.size w w' := by
  have Hcl := Lib.hid hcl; clear hcl
  have Hfn := Lib.hid hfn; clear hfn
  obtain ⟨W0, hW0, hS⟩ := boxes2 f g x y w
  have HW := Lib.hid hW0; clear hW0
  go_enter Tryd.func14, Tryd.ntmps14
  go_wp2_with fail
  rw [← HW.out]
  clear HW
  refine (questions_any _).mono ?_
  rintro e w1 ⟨rfl, hb⟩
  replace hS := S2.below hS hb
  clear hb
  go_upto_region 2 with (fail)
  have hS2 : S2 w f g x y (w1.alloc (Obj.cells #[Value.nilFunc, Value.nilFunc, Value.nilFunc, Value.nilFunc, Value.nilFunc, Value.func (Fn.func 55) #[] #[], Value.func (Fn.func 56) #[] #[], Value.nilFunc, Value.nilFunc, Value.nilFunc, Value.nilFunc, Value.func (Fn.func 57) #[] #[], Value.func (Fn.func 58) #[] #[]] 60)) := S2.below hS ((Below.refl _ _).alloc (Nat.le_refl _) _)
  have hcell : (w1.alloc (Obj.cells #[Value.nilFunc, Value.nilFunc, Value.nilFunc, Value.nilFunc, Value.nilFunc, Value.func (Fn.func 55) #[] #[], Value.func (Fn.func 56) #[] #[], Value.nilFunc, Value.nilFunc, Value.nilFunc, Value.nilFunc, Value.func (Fn.func 57) #[] #[], Value.func (Fn.func 58) #[] #[]] 60)).cell? ⟨w1.heap.size, op.toNat, none⟩ = some (Value.func (Fn.func fid) #[] #[]) := by
    rw [World.cell?_alloc_new]; exact Hfn.out
  generalize w1.alloc (Obj.cells #[Value.nilFunc, Value.nilFunc, Value.nilFunc, Value.nilFunc, Value.nilFunc, Value.func (Fn.func 55) #[] #[], Value.func (Fn.func 56) #[] #[], Value.nilFunc, Value.nilFunc, Value.nilFunc, Value.nilFunc, Value.func (Fn.func 57) #[] #[], Value.func (Fn.func 58) #[] #[]] 60) = W2 at hS2 hcell ⊢
  generalize (Value.agg #[Value.nilFunc, Value.nilFunc, Value.nilFunc, Value.nilFunc, Value.nilFunc, Value.func (Fn.func 55) #[] #[], Value.func (Fn.func 56) #[] #[], Value.nilFunc, Value.nilFunc, Value.nilFunc, Value.nilFunc, Value.func (Fn.func 57) #[] #[], Value.func (Fn.func 58) #[] #[]]) = V9
  have en := fun (w : World) => run_eql_func_nil (P := Tryd.prog) w 59 (Fn.func fid) #[] #[] Tryd.underlying59
  have hS5 : S5 w f g x y w1.heap.size op.toNat (Value.func (Fn.func fid) #[] #[]) W2 := S5.of hS2 hcell
  clear hS2 hcell
  obtain ⟨⟨-, -, c1, c2, c3, c4⟩, hcell⟩ := id hS5
  clear hS
  go_wp2_with fail
  refine (kind_any _ _ _ _ _ _).mono ?_
  rintro e w3 ⟨rfl, hb⟩
  replace hS5 := S5.below hS5 hb
  clear hb c1 c2 c3 c4 hcell
  obtain ⟨⟨hB, hs, c1, c2, c3, c4⟩, hcell⟩ := id hS5
  go_wp2_with fail
  go_region_held3 (fun w' => (Below w.heap.size w w' ∧ w.heap.size + 2 ≤ w'.heap.size ∧
      w'.cell? ⟨w.heap.size, 0, none⟩ = some (.bool f) ∧ w'.cell? ⟨w.heap.size, 1, none⟩ = some (.int .u64 x) ∧
      w'.cell? ⟨w.heap.size + 1, 0, none⟩ = some (.bool g) ∧ w'.cell? ⟨w.heap.size + 1, 1, none⟩ = some (.int .u64 y)) ∧ w'.cell? ⟨w1.heap.size, op.toNat, none⟩ = some (Value.func (Fn.func fid) #[] #[]))
    (first
      | exact S5.below (by assumption) hb
      | exact S5.drew (by assumption))
    (first
      | (refine (Hcl.out _).mono ?_; rintro e w' ⟨rfl, hb⟩))
  go_wp2
  go_ret2
  exact ⟨rfl, S2.out (S5.two (f := f) (g := g) (x := x) (y := y) (p := w1.heap.size) (i := op.toNat) (v := (Value.func (Fn.func fid) #[] #[])) (by assumption))⟩

end Go.Proofs.YtkipioojdlkbcaaDoor
