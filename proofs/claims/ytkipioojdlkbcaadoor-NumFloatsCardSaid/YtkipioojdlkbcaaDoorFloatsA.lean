/- NumFloats: the walks. -/
import Derived.Test.YtkipioojdlkbcaaDoorLawF
import Derived.Deep.RegionHeld3
import Derived.Deep.DeepCutAuto
namespace Go.Proofs.YtkipioojdlkbcaaDoor.numFloats
open Go.RowKit

theorem keepc2 {W w w' : World} {a0 a1 : Addr} {v0 v1 : Value} (h : Below W.heap.size W w ∧ w.cell? a0 = some v0 ∧ w.cell? a1 = some v1) (hb : Below w.heap.size w w') :
    Below W.heap.size W w' ∧ w'.cell? a0 = some v0 ∧ w'.cell? a1 = some v1 :=
  ⟨stepB h.1 hb, cell_later hb h.2.1, cell_later hb h.2.2⟩

theorem keepc1 {W w : World} {a0 a1 : Addr} {v0 v1 : Value} (h : Below W.heap.size W w ∧ w.cell? a0 = some v0 ∧ w.cell? a1 = some v1) : Below W.heap.size W w := h.1

/-- The law's inner function. -/
theorem none_any (w : World) : Calls Tryd.prog 19 #[.agg #[.bool true, .int .u64 9221120237041090560]] w fun e w' => e = .returned (.bool true) ∧ Below w.heap.size w w' := by
  have hB := (Below.refl w.heap.size w).alloc (Nat.le_refl _) (Obj.cells #[Value.bool true, Value.int IntKind.u64 9221120237041090560] 24)
  have z0 : (World.alloc w (Obj.cells #[Value.bool true, Value.int IntKind.u64 9221120237041090560] 24)).cell? ⟨w.heap.size, 0, none⟩ = some (.bool true) := by simp
  have z1 : (World.alloc w (Obj.cells #[Value.bool true, Value.int IntKind.u64 9221120237041090560] 24)).cell? ⟨w.heap.size, 1, none⟩ = some (.int .u64 9221120237041090560) := by simp
  go_enter Tryd.func19, Tryd.ntmps19
  go_wp2_with fail
  go_region_held3 (fun w' => Below w.heap.size w w' ∧ w'.cell? ⟨w.heap.size, 0, none⟩ = some (.bool true) ∧ w'.cell? ⟨w.heap.size, 1, none⟩ = some (.int .u64 9221120237041090560))
    (first
      | exact keepc2 (by assumption) hb
      | exact keepc2 ⟨hB, z0, z1⟩ (Below.refl _ _).drew)
    (first
      | (go_at_call 20; refine (flt_any _ _).mono ?_; rintro e xa ⟨rfl, hb⟩))
  have hF : Below w.heap.size w _ := keepc1 (by assumption)
  go_wp2_with fail
  go_ret
  exact ⟨rfl, hF⟩

end Go.Proofs.YtkipioojdlkbcaaDoor.numFloats
