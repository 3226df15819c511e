/- Contracts of Calc: its refusals of what is no operation. -/
import Derived.Test.YtkipioojdlkbcaaGreatDoorNumE
namespace Go.Proofs.YtkipioojdlkbcaaGreatDoor
open Go.RowKit

set_option maxRecDepth 100000 in
set_option maxHeartbeats 2000000 in
theorem calc_low (op : Int) (f g : Bool) (x y : Int) (w : World) (h : op < 0) :
    Calls Tryz.prog 9 #[.int .i64 op, .agg #[.bool f, .int .u64 x], .agg #[.bool g, .int .u64 y]] w fun e w' =>
      e = .returned (.tuple #[.agg #[.bool false, .int .u64 0], .int .i64 1]) ∧ Below w.heap.size w w' := by
  obtain ⟨W0, hW0, hS⟩ := boxes f g x y w
  have HW := Lib.hid hW0; clear hW0
  go_enter Tryz.func9, Tryz.ntmps9
  go_wp2_with fail
  rw [← HW.out]
  clear HW
  refine (calculations_any _).mono ?_
  rintro e w1 ⟨rfl, hb⟩
  replace hS := S3.below hS hb
  clear hb
  go_upto_region 2 with (fail)
  have hS2 : S3 w f g x y (w1.alloc (Obj.cells #[Value.func (Fn.func 37) #[] #[], Value.func (Fn.func 38) #[] #[], Value.func (Fn.func 39) #[] #[], Value.func (Fn.func 40) #[] #[], Value.func (Fn.func 42) #[] #[], Value.nilFunc, Value.nilFunc, Value.func (Fn.func 43) #[] #[], Value.func (Fn.func 46) #[] #[], Value.func (Fn.func 47) #[] #[], Value.func (Fn.func 48) #[] #[], Value.nilFunc, Value.nilFunc, Value.func (Fn.func 49) #[] #[], Value.func (Fn.func 50) #[] #[]] 46)) := S3.below hS ((Below.refl _ _).alloc (Nat.le_refl _) _)
  generalize w1.alloc (Obj.cells #[Value.func (Fn.func 37) #[] #[], Value.func (Fn.func 38) #[] #[], Value.func (Fn.func 39) #[] #[], Value.func (Fn.func 40) #[] #[], Value.func (Fn.func 42) #[] #[], Value.nilFunc, Value.nilFunc, Value.func (Fn.func 43) #[] #[], Value.func (Fn.func 46) #[] #[], Value.func (Fn.func 47) #[] #[], Value.func (Fn.func 48) #[] #[], Value.nilFunc, Value.nilFunc, Value.func (Fn.func 49) #[] #[], Value.func (Fn.func 50) #[] #[]] 46) = W2 at hS2 ⊢
  generalize (Value.agg #[Value.func (Fn.func 37) #[] #[], Value.func (Fn.func 38) #[] #[], Value.func (Fn.func 39) #[] #[], Value.func (Fn.func 40) #[] #[], Value.func (Fn.func 42) #[] #[], Value.nilFunc, Value.nilFunc, Value.func (Fn.func 43) #[] #[], Value.func (Fn.func 46) #[] #[], Value.func (Fn.func 47) #[] #[], Value.func (Fn.func 48) #[] #[], Value.nilFunc, Value.nilFunc, Value.func (Fn.func 49) #[] #[], Value.func (Fn.func 50) #[] #[]]) = V9
  obtain ⟨-, -, c1, c2, c3, c4, c5, c6, z1, z2⟩ := id hS2
  clear hS
  go_wp2_with fail
  obtain ⟨hb, r0, r1⟩ := S3.fin (S3.store hS2 (.bool false) (.int .u64 0))
  exact bodyPost_ret (v := .tuple #[.agg #[.bool false, .int .u64 0], .int .i64 1]) (by simp [results, Tryz.results9, go_sem, r0, r1]) rfl ⟨rfl, hb⟩

set_option maxRecDepth 100000 in
set_option maxHeartbeats 2000000 in
theorem calc_high (op : Int) (f g : Bool) (x y : Int) (w : World) (h0 : 0 ≤ op) (h : 15 ≤ op) :
    Calls Tryz.prog 9 #[.int .i64 op, .agg #[.bool f, .int .u64 x], .agg #[.bool g, .int .u64 y]] w fun e w' =>
      e = .returned (.tuple #[.agg #[.bool false, .int .u64 0], .int .i64 1]) ∧ Below w.heap.size w w' := by
  obtain ⟨W0, hW0, hS⟩ := boxes f g x y w
  have HW := Lib.hid hW0; clear hW0
  go_enter Tryz.func9, Tryz.ntmps9
  go_wp2_with fail
  rw [← HW.out]
  clear HW
  refine (calculations_any _).mono ?_
  rintro e w1 ⟨rfl, hb⟩
  replace hS := S3.below hS hb
  clear hb
  go_upto_region 2 with (fail)
  have hS2 : S3 w f g x y (w1.alloc (Obj.cells #[Value.func (Fn.func 37) #[] #[], Value.func (Fn.func 38) #[] #[], Value.func (Fn.func 39) #[] #[], Value.func (Fn.func 40) #[] #[], Value.func (Fn.func 42) #[] #[], Value.nilFunc, Value.nilFunc, Value.func (Fn.func 43) #[] #[], Value.func (Fn.func 46) #[] #[], Value.func (Fn.func 47) #[] #[], Value.func (Fn.func 48) #[] #[], Value.nilFunc, Value.nilFunc, Value.func (Fn.func 49) #[] #[], Value.func (Fn.func 50) #[] #[]] 46)) := S3.below hS ((Below.refl _ _).alloc (Nat.le_refl _) _)
  generalize w1.alloc (Obj.cells #[Value.func (Fn.func 37) #[] #[], Value.func (Fn.func 38) #[] #[], Value.func (Fn.func 39) #[] #[], Value.func (Fn.func 40) #[] #[], Value.func (Fn.func 42) #[] #[], Value.nilFunc, Value.nilFunc, Value.func (Fn.func 43) #[] #[], Value.func (Fn.func 46) #[] #[], Value.func (Fn.func 47) #[] #[], Value.func (Fn.func 48) #[] #[], Value.nilFunc, Value.nilFunc, Value.func (Fn.func 49) #[] #[], Value.func (Fn.func 50) #[] #[]] 46) = W2 at hS2 ⊢
  generalize (Value.agg #[Value.func (Fn.func 37) #[] #[], Value.func (Fn.func 38) #[] #[], Value.func (Fn.func 39) #[] #[], Value.func (Fn.func 40) #[] #[], Value.func (Fn.func 42) #[] #[], Value.nilFunc, Value.nilFunc, Value.func (Fn.func 43) #[] #[], Value.func (Fn.func 46) #[] #[], Value.func (Fn.func 47) #[] #[], Value.func (Fn.func 48) #[] #[], Value.nilFunc, Value.nilFunc, Value.func (Fn.func 49) #[] #[], Value.func (Fn.func 50) #[] #[]]) = V9
  obtain ⟨-, -, c1, c2, c3, c4, c5, c6, z1, z2⟩ := id hS2
  clear hS
  go_wp2_with fail
  obtain ⟨hb, r0, r1⟩ := S3.fin (S3.store hS2 (.bool false) (.int .u64 0))
  exact bodyPost_ret (v := .tuple #[.agg #[.bool false, .int .u64 0], .int .i64 1]) (by simp [results, Tryz.results9, go_sem, r0, r1]) rfl ⟨rfl, hb⟩

set_option maxRecDepth 100000 in
set_option maxHeartbeats 2000000 in
theorem calc_gap (op : Int) (f g : Bool) (x y : Int) (w : World) (h0 : 0 ≤ op) (h1 : op < 15)
    (hfn : (#[Value.func (Fn.func 37) #[] #[], Value.func (Fn.func 38) #[] #[], Value.func (Fn.func 39) #[] #[], Value.func (Fn.func 40) #[] #[], Value.func (Fn.func 42) #[] #[], Value.nilFunc, Value.nilFunc, Value.func (Fn.func 43) #[] #[], Value.func (Fn.func 46) #[] #[], Value.func (Fn.func 47) #[] #[], Value.func (Fn.func 48) #[] #[], Value.nilFunc, Value.nilFunc, Value.func (Fn.func 49) #[] #[], Value.func (Fn.func 50) #[] #[]] : Array Value)[op.toNat]? = some Value.nilFunc) :
    Calls Tryz.prog 9 #[.int .i64 op, .agg #[.bool f, .int .u64 x], .agg #[.bool g, .int .u64 y]] w fun e w' =>
      e = .returned (.tuple #[.agg #[.bool false, .int .u64 0], .int .i64 1]) ∧ Below w.heap.size w w' := by
  have Hfn := Lib.hid hfn; clear hfn
  obtain ⟨W0, hW0, hS⟩ := boxes f g x y w
  have HW := Lib.hid hW0; clear hW0
  go_enter Tryz.func9, Tryz.ntmps9
  go_wp2_with fail
  rw [← HW.out]
  clear HW
  refine (calculations_any _).mono ?_
  rintro e w1 ⟨rfl, hb⟩
  replace hS := S3.below hS hb
  clear hb
  go_upto_region 2 with (fail)
  have hS2 : S3 w f g x y (w1.alloc (Obj.cells #[Value.func (Fn.func 37) #[] #[], Value.func (Fn.func 38) #[] #[], Value.func (Fn.func 39) #[] #[], Value.func (Fn.func 40) #[] #[], Value.func (Fn.func 42) #[] #[], Value.nilFunc, Value.nilFunc, Value.func (Fn.func 43) #[] #[], Value.func (Fn.func 46) #[] #[], Value.func (Fn.func 47) #[] #[], Value.func (Fn.func 48) #[] #[], Value.nilFunc, Value.nilFunc, Value.func (Fn.func 49) #[] #[], Value.func (Fn.func 50) #[] #[]] 46)) := S3.below hS ((Below.refl _ _).alloc (Nat.le_refl _) _)
  have hcell : (w1.alloc (Obj.cells #[Value.func (Fn.func 37) #[] #[], Value.func (Fn.func 38) #[] #[], Value.func (Fn.func 39) #[] #[], Value.func (Fn.func 40) #[] #[], Value.func (Fn.func 42) #[] #[], Value.nilFunc, Value.nilFunc, Value.func (Fn.func 43) #[] #[], Value.func (Fn.func 46) #[] #[], Value.func (Fn.func 47) #[] #[], Value.func (Fn.func 48) #[] #[], Value.nilFunc, Value.nilFunc, Value.func (Fn.func 49) #[] #[], Value.func (Fn.func 50) #[] #[]] 46)).cell? ⟨w1.heap.size, op.toNat, none⟩ = some Value.nilFunc := by
    rw [World.cell?_alloc_new]; exact Hfn.out
  generalize w1.alloc (Obj.cells #[Value.func (Fn.func 37) #[] #[], Value.func (Fn.func 38) #[] #[], Value.func (Fn.func 39) #[] #[], Value.func (Fn.func 40) #[] #[], Value.func (Fn.func 42) #[] #[], Value.nilFunc, Value.nilFunc, Value.func (Fn.func 43) #[] #[], Value.func (Fn.func 46) #[] #[], Value.func (Fn.func 47) #[] #[], Value.func (Fn.func 48) #[] #[], Value.nilFunc, Value.nilFunc, Value.func (Fn.func 49) #[] #[], Value.func (Fn.func 50) #[] #[]] 46) = W2 at hS2 hcell ⊢
  generalize (Value.agg #[Value.func (Fn.func 37) #[] #[], Value.func (Fn.func 38) #[] #[], Value.func (Fn.func 39) #[] #[], Value.func (Fn.func 40) #[] #[], Value.func (Fn.func 42) #[] #[], Value.nilFunc, Value.nilFunc, Value.func (Fn.func 43) #[] #[], Value.func (Fn.func 46) #[] #[], Value.func (Fn.func 47) #[] #[], Value.func (Fn.func 48) #[] #[], Value.nilFunc, Value.nilFunc, Value.func (Fn.func 49) #[] #[], Value.func (Fn.func 50) #[] #[]]) = V9
  have en := fun (w : World) => run_eql_nilFunc (P := Tryz.prog) w 45 Tryz.underlying45
  obtain ⟨-, -, c1, c2, c3, c4, c5, c6, z1, z2⟩ := id hS2
  clear hS
  go_wp2_with fail
  obtain ⟨hb, r0, r1⟩ := S3.fin (S3.store hS2 (.bool false) (.int .u64 0))
  exact bodyPost_ret (v := .tuple #[.agg #[.bool false, .int .u64 0], .int .i64 1]) (by simp [results, Tryz.results9, go_sem, r0, r1]) rfl ⟨rfl, hb⟩

end Go.Proofs.YtkipioojdlkbcaaGreatDoor
