/- Contracts of Calc: what it returns for each operation, by the operation's own contract; and its refusals. -/
import Derived.Test.YtkipioojdlkbcaaGreatDoorNumE
namespace Go.Proofs.YtkipioojdlkbcaaGreatDoor
open Go.RowKit

set_option maxRecDepth 100000 in
set_option maxHeartbeats 2000000 in
theorem calc_ok (op : Int) (fid : Nat) (f g rf : Bool) (x y rb re : Int) (w : World) (h0 : 0 ≤ op) (h1 : op < 15) (h13 : (op == 13) = false) (h14 : (op == 14) = false)
    (hfn : (#[Value.func (Fn.func 37) #[] #[], Value.func (Fn.func 38) #[] #[], Value.func (Fn.func 39) #[] #[], Value.func (Fn.func 40) #[] #[], Value.func (Fn.func 42) #[] #[], Value.nilFunc, Value.nilFunc, Value.func (Fn.func 43) #[] #[], Value.func (Fn.func 46) #[] #[], Value.func (Fn.func 47) #[] #[], Value.func (Fn.func 48) #[] #[], Value.nilFunc, Value.nilFunc, Value.func (Fn.func 49) #[] #[], Value.func (Fn.func 50) #[] #[]] : Array Value)[op.toNat]? = some (Value.func (Fn.func fid) #[] #[]))
    (eg : ∀ args w, (callFunc fid args).run Tryz.prog w = .ok (.enter fid args) w)
    (hk : kindB f g op = true)
    (hcl : ∀ w, Calls Tryz.prog fid #[.agg #[.bool f, .int .u64 x], .agg #[.bool g, .int .u64 y]] w fun e w' => e = .returned (.tuple #[.agg #[.bool rf, .int .u64 rb], .int .i64 re]) ∧ Below w.heap.size w w') :
    Calls Tryz.prog 9 #[.int .i64 op, .agg #[.bool f, .int .u64 x], .agg #[.bool g, .int .u64 y]] w fun e w' =>
      e = .returned (.tuple #[.agg #[.bool rf, .int .u64 rb], .int .i64 re]) ∧ Below w.heap.size w w' := by
  have Hcl := Lib.hid hcl; clear hcl
  have Hfn := Lib.hid hfn; clear hfn
  obtain ⟨W0, hW0, hS⟩ := boxes f g x y w
  have HW := Lib.hid hW0; clear hW0
  go_enter Tryz.func9, Tryz.ntmps9
  go_wp2_with fail
  rw [← HW.out]
  clear HW
  refine (calculations_any _).mono ?_
  rintro e w1 ⟨rfl, hb⟩
  replace hS := S3.below hS hb
  clear hb
  go_upto_region 2 with (fail)
  have hS2 : S3 w f g x y (w1.alloc (Obj.cells #[Value.func (Fn.func 37) #[] #[], Value.func (Fn.func 38) #[] #[], Value.func (Fn.func 39) #[] #[], Value.func (Fn.func 40) #[] #[], Value.func (Fn.func 42) #[] #[], Value.nilFunc, Value.nilFunc, Value.func (Fn.func 43) #[] #[], Value.func (Fn.func 46) #[] #[], Value.func (Fn.func 47) #[] #[], Value.func (Fn.func 48) #[] #[], Value.nilFunc, Value.nilFunc, Value.func (Fn.func 49) #[] #[], Value.func (Fn.func 50) #[] #[]] 46)) := S3.below hS ((Below.refl _ _).alloc (Nat.le_refl _) _)
  have hcell : (w1.alloc (Obj.cells #[Value.func (Fn.func 37) #[] #[], Value.func (Fn.func 38) #[] #[], Value.func (Fn.func 39) #[] #[], Value.func (Fn.func 40) #[] #[], Value.func (Fn.func 42) #[] #[], Value.nilFunc, Value.nilFunc, Value.func (Fn.func 43) #[] #[], Value.func (Fn.func 46) #[] #[], Value.func (Fn.func 47) #[] #[], Value.func (Fn.func 48) #[] #[], Value.nilFunc, Value.nilFunc, Value.func (Fn.func 49) #[] #[], Value.func (Fn.func 50) #[] #[]] 46)).cell? ⟨w1.heap.size, op.toNat, none⟩ = some (Value.func (Fn.func fid) #[] #[]) := by
    rw [World.cell?_alloc_new]; exact Hfn.out
  generalize w1.alloc (Obj.cells #[Value.func (Fn.func 37) #[] #[], Value.func (Fn.func 38) #[] #[], Value.func (Fn.func 39) #[] #[], Value.func (Fn.func 40) #[] #[], Value.func (Fn.func 42) #[] #[], Value.nilFunc, Value.nilFunc, Value.func (Fn.func 43) #[] #[], Value.func (Fn.func 46) #[] #[], Value.func (Fn.func 47) #[] #[], Value.func (Fn.func 48) #[] #[], Value.nilFunc, Value.nilFunc, Value.func (Fn.func 49) #[] #[], Value.func (Fn.func 50) #[] #[]] 46) = W2 at hS2 hcell ⊢
  generalize (Value.agg #[Value.func (Fn.func 37) #[] #[], Value.func (Fn.func 38) #[] #[], Value.func (Fn.func 39) #[] #[], Value.func (Fn.func 40) #[] #[], Value.func (Fn.func 42) #[] #[], Value.nilFunc, Value.nilFunc, Value.func (Fn.func 43) #[] #[], Value.func (Fn.func 46) #[] #[], Value.func (Fn.func 47) #[] #[], Value.func (Fn.func 48) #[] #[], Value.nilFunc, Value.nilFunc, Value.func (Fn.func 49) #[] #[], Value.func (Fn.func 50) #[] #[]]) = V9
  have en := fun (w : World) => run_eql_func_nil (P := Tryz.prog) w 45 (Fn.func fid) #[] #[] Tryz.underlying45
  have hp : w.heap.size + 1 + 1 < w1.heap.size := by have := hS.2.1; omega
  have hS4 : S4 w f g x y w1.heap.size op.toNat (Value.func (Fn.func fid) #[] #[]) W2 := S4.of hS2 hcell
  clear hS2 hcell
  obtain ⟨⟨-, -, c1, c2, c3, c4, c5, c6, z1, z2⟩, hcell⟩ := id hS4
  clear hS
  go_wp2_with fail
  refine (kind_any _ _ _ _ _ _).mono ?_
  rintro e w3 ⟨rfl, hb⟩
  replace hS4 := S4.below hS4 hb
  clear hb c1 c2 c3 c4 c5 c6 z1 z2 hcell
  obtain ⟨⟨hB, hs, c1, c2, c3, c4, c5, c6, z1, z2⟩, hcell⟩ := id hS4
  go_wp2_with fail
  go_region_held3 (fun w' => (Below w.heap.size w w' ∧ w.heap.size + 3 ≤ w'.heap.size ∧
      w'.cell? ⟨w.heap.size, 0, none⟩ = some (.bool f) ∧ w'.cell? ⟨w.heap.size, 1, none⟩ = some (.int .u64 x) ∧
      w'.cell? ⟨w.heap.size + 1, 0, none⟩ = some (.bool g) ∧ w'.cell? ⟨w.heap.size + 1, 1, none⟩ = some (.int .u64 y) ∧
      w'.cell? ⟨w.heap.size + 1 + 1, 0, none⟩ = some (cellv w' ⟨w.heap.size + 1 + 1, 0, none⟩) ∧ w'.cell? ⟨w.heap.size + 1 + 1, 1, none⟩ = some (cellv w' ⟨w.heap.size + 1 + 1, 1, none⟩) ∧
      w'.frozen? ⟨w.heap.size + 1 + 1, 0, none⟩ = false ∧ w'.frozen? ⟨w.heap.size + 1 + 1, 1, none⟩ = false) ∧ w'.cell? ⟨w1.heap.size, op.toNat, none⟩ = some (Value.func (Fn.func fid) #[] #[]))
    (first
      | exact S4.below (by assumption) hb
      | exact S4.store hp (by assumption) _ _
      | exact S4.drew (by assumption))
    (first
      | (refine (Hcl.out _).mono ?_; rintro e w' ⟨rfl, hb⟩))
  go_wp2
  obtain ⟨hb, r0, r1⟩ := S3.fin (S4.three (f := f) (g := g) (x := x) (y := y) (p := w1.heap.size) (i := op.toNat) (v := (Value.func (Fn.func fid) #[] #[])) (by assumption))
  exact bodyPost_ret (v := .tuple #[.agg #[.bool rf, .int .u64 rb], .int .i64 re]) (by simp [results, Tryz.results9, go_sem, r0, r1]) rfl ⟨rfl, hb⟩

end Go.Proofs.YtkipioojdlkbcaaGreatDoor
