/- Contracts of the number layer's operations: each of the closures in the table, by what it returns. -/
import Derived.Test.YtkipioojdlkbcaaGreatDoorNumA
import Derived.Laws.FloatArith
namespace Go.Proofs.YtkipioojdlkbcaaGreatDoor
open Go.RowKit

set_option maxHeartbeats 1000000 in
theorem add_any (f g : Bool) (x y : Int) (w : World) :
    Calls Tryz.prog 37 #[.agg #[.bool f, .int .u64 x], .agg #[.bool g, .int .u64 y]] w fun e w' =>
      e = .returned (.tuple #[.agg #[.bool false, .int .u64 (IntKind.u64.wrap (IntKind.i64.wrap (wrap64 x + wrap64 y)))], .int .i64 0]) ∧ Below w.heap.size w w' := by
  obtain ⟨W0, hW0, hB0, hs0, c1, c2, c3, c4, c5, c6, z1, z2⟩ := boxes f g x y w
  have HW := Lib.hid hW0; clear hW0
  go_enter Tryz.func37, Tryz.ntmps37
  go_wp2_with fail
  rw [← HW.out]
  clear HW
  go_region_held3 (fun w' => Below w.heap.size w w' ∧ w.heap.size + 3 ≤ w'.heap.size ∧
      w'.cell? ⟨w.heap.size, 0, none⟩ = some (.bool f) ∧ w'.cell? ⟨w.heap.size, 1, none⟩ = some (.int .u64 x) ∧
      w'.cell? ⟨w.heap.size + 1, 0, none⟩ = some (.bool g) ∧ w'.cell? ⟨w.heap.size + 1, 1, none⟩ = some (.int .u64 y) ∧
      w'.cell? ⟨w.heap.size + 1 + 1, 0, none⟩ = some (cellv w' ⟨w.heap.size + 1 + 1, 0, none⟩) ∧ w'.cell? ⟨w.heap.size + 1 + 1, 1, none⟩ = some (cellv w' ⟨w.heap.size + 1 + 1, 1, none⟩) ∧
      w'.frozen? ⟨w.heap.size + 1 + 1, 0, none⟩ = false ∧ w'.frozen? ⟨w.heap.size + 1 + 1, 1, none⟩ = false)
    (first
      | exact S3.below (by assumption) hb
      | exact S3.store (by assumption) _ _
      | exact S3.drew (by assumption)
      | exact S3.drew ⟨by assumption, by assumption, by assumption, by assumption, by assumption, by assumption, by assumption, by assumption, by assumption, by assumption⟩)
    (first
      | (go_at_call 18; refine (toInt_any _ _ _).mono ?_; rintro e w' ⟨rfl, hb⟩)
      | (go_at_call 11; refine (int_any _ _).mono ?_; rintro e w' ⟨rfl, hb⟩))
  go_wp2
  obtain ⟨hb, r0, r1⟩ := S3.fin (f := f) (g := g) (x := x) (y := y) (by assumption)
  exact bodyPost_ret (v := .tuple #[.agg #[.bool false, .int .u64 (IntKind.u64.wrap (IntKind.i64.wrap (wrap64 x + wrap64 y)))], .int .i64 0]) (by simp [results, Tryz.results37, go_sem, r0, r1]) rfl ⟨rfl, hb⟩

set_option maxHeartbeats 1000000 in
theorem sub_any (f g : Bool) (x y : Int) (w : World) :
    Calls Tryz.prog 38 #[.agg #[.bool f, .int .u64 x], .agg #[.bool g, .int .u64 y]] w fun e w' =>
      e = .returned (.tuple #[.agg #[.bool false, .int .u64 (IntKind.u64.wrap (IntKind.i64.wrap (wrap64 x - wrap64 y)))], .int .i64 0]) ∧ Below w.heap.size w w' := by
  obtain ⟨W0, hW0, hB0, hs0, c1, c2, c3, c4, c5, c6, z1, z2⟩ := boxes f g x y w
  have HW := Lib.hid hW0; clear hW0
  go_enter Tryz.func38, Tryz.ntmps38
  go_wp2_with fail
  rw [← HW.out]
  clear HW
  go_region_held3 (fun w' => Below w.heap.size w w' ∧ w.heap.size + 3 ≤ w'.heap.size ∧
      w'.cell? ⟨w.heap.size, 0, none⟩ = some (.bool f) ∧ w'.cell? ⟨w.heap.size, 1, none⟩ = some (.int .u64 x) ∧
      w'.cell? ⟨w.heap.size + 1, 0, none⟩ = some (.bool g) ∧ w'.cell? ⟨w.heap.size + 1, 1, none⟩ = some (.int .u64 y) ∧
      w'.cell? ⟨w.heap.size + 1 + 1, 0, none⟩ = some (cellv w' ⟨w.heap.size + 1 + 1, 0, none⟩) ∧ w'.cell? ⟨w.heap.size + 1 + 1, 1, none⟩ = some (cellv w' ⟨w.heap.size + 1 + 1, 1, none⟩) ∧
      w'.frozen? ⟨w.heap.size + 1 + 1, 0, none⟩ = false ∧ w'.frozen? ⟨w.heap.size + 1 + 1, 1, none⟩ = false)
    (first
      | exact S3.below (by assumption) hb
      | exact S3.store (by assumption) _ _
      | exact S3.drew (by assumption)
      | exact S3.drew ⟨by assumption, by assumption, by assumption, by assumption, by assumption, by assumption, by assumption, by assumption, by assumption, by assumption⟩)
    (first
      | (go_at_call 18; refine (toInt_any _ _ _).mono ?_; rintro e w' ⟨rfl, hb⟩)
      | (go_at_call 11; refine (int_any _ _).mono ?_; rintro e w' ⟨rfl, hb⟩))
  go_wp2
  obtain ⟨hb, r0, r1⟩ := S3.fin (f := f) (g := g) (x := x) (y := y) (by assumption)
  exact bodyPost_ret (v := .tuple #[.agg #[.bool false, .int .u64 (IntKind.u64.wrap (IntKind.i64.wrap (wrap64 x - wrap64 y)))], .int .i64 0]) (by simp [results, Tryz.results38, go_sem, r0, r1]) rfl ⟨rfl, hb⟩

set_option maxHeartbeats 1000000 in
theorem mul_any (f g : Bool) (x y : Int) (w : World) :
    Calls Tryz.prog 39 #[.agg #[.bool f, .int .u64 x], .agg #[.bool g, .int .u64 y]] w fun e w' =>
      e = .returned (.tuple #[.agg #[.bool false, .int .u64 (IntKind.u64.wrap (IntKind.i64.wrap (wrap64 x * wrap64 y)))], .int .i64 0]) ∧ Below w.heap.size w w' := by
  obtain ⟨W0, hW0, hB0, hs0, c1, c2, c3, c4, c5, c6, z1, z2⟩ := boxes f g x y w
  have HW := Lib.hid hW0; clear hW0
  go_enter Tryz.func39, Tryz.ntmps39
  go_wp2_with fail
  rw [← HW.out]
  clear HW
  go_region_held3 (fun w' => Below w.heap.size w w' ∧ w.heap.size + 3 ≤ w'.heap.size ∧
      w'.cell? ⟨w.heap.size, 0, none⟩ = some (.bool f) ∧ w'.cell? ⟨w.heap.size, 1, none⟩ = some (.int .u64 x) ∧
      w'.cell? ⟨w.heap.size + 1, 0, none⟩ = some (.bool g) ∧ w'.cell? ⟨w.heap.size + 1, 1, none⟩ = some (.int .u64 y) ∧
      w'.cell? ⟨w.heap.size + 1 + 1, 0, none⟩ = some (cellv w' ⟨w.heap.size + 1 + 1, 0, none⟩) ∧ w'.cell? ⟨w.heap.size + 1 + 1, 1, none⟩ = some (cellv w' ⟨w.heap.size + 1 + 1, 1, none⟩) ∧
      w'.frozen? ⟨w.heap.size + 1 + 1, 0, none⟩ = false ∧ w'.frozen? ⟨w.heap.size + 1 + 1, 1, none⟩ = false)
    (first
      | exact S3.below (by assumption) hb
      | exact S3.store (by assumption) _ _
      | exact S3.drew (by assumption)
      | exact S3.drew ⟨by assumption, by assumption, by assumption, by assumption, by assumption, by assumption, by assumption, by assumption, by assumption, by assumption⟩)
    (first
      | (go_at_call 18; refine (toInt_any _ _ _).mono ?_; rintro e w' ⟨rfl, hb⟩)
      | (go_at_call 11; refine (int_any _ _).mono ?_; rintro e w' ⟨rfl, hb⟩))
  go_wp2
  obtain ⟨hb, r0, r1⟩ := S3.fin (f := f) (g := g) (x := x) (y := y) (by assumption)
  exact bodyPost_ret (v := .tuple #[.agg #[.bool false, .int .u64 (IntKind.u64.wrap (IntKind.i64.wrap (wrap64 x * wrap64 y)))], .int .i64 0]) (by simp [results, Tryz.results39, go_sem, r0, r1]) rfl ⟨rfl, hb⟩

end Go.Proofs.YtkipioojdlkbcaaGreatDoor
