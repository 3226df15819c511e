/- Contracts of the small functions of the number layer: what each returns, and that it writes only memory of its own. -/
import Derived.Test.YtkipioojdlkbcaaGreatDoorChecked
import Derived.WalkKit
import Derived.WalkSpells
import Derived.WalkLawsBesides
import Derived.Deep.RegionHeld3
import Derived.Deep.DeepCutAuto
import Derived.KernelRfl
import Derived.Lib.Hide
namespace Go.Proofs.YtkipioojdlkbcaaGreatDoor
open Go.RowKit

theorem bcell {W w1 : World} (hb : Below W.heap.size W w1) : (∀ b o, b < W.heap.size → w1.cell? ⟨b, o, none⟩ = W.cell? ⟨b, o, none⟩) ∧ (∀ b o, b < W.heap.size → w1.frozen? ⟨b, o, none⟩ = W.frozen? ⟨b, o, none⟩) :=
  ⟨fun b o h => hb.cell (p := ⟨b, o, none⟩) h, fun b o h => hb.frozen (p := ⟨b, o, none⟩) h⟩

set_option maxHeartbeats 400000 in
theorem flt_any (b : Int) (w : World) :
    Calls Tryz.prog 10 #[.int .u64 b] w fun e w' => e = .returned (.agg #[.bool true, .int .u64 b]) ∧ Below w.heap.size w w' := by
  go_enter Tryz.func10, Tryz.ntmps10
  go_wp2
  exact bodyPost_ret (v := .agg #[.bool true, .int .u64 b]) (by simp [results, Tryz.results10, go_sem]) rfl ⟨rfl, (Below.refl _ _).alloc (Nat.le_refl _) _⟩

set_option maxHeartbeats 400000 in
theorem int_any (n : Int) (w : World) :
    Calls Tryz.prog 11 #[.int .i64 n] w fun e w' => e = .returned (.agg #[.bool false, .int .u64 (IntKind.u64.wrap n)]) ∧ Below w.heap.size w w' := by
  go_enter Tryz.func11, Tryz.ntmps11
  go_wp2
  exact bodyPost_ret (v := .agg #[.bool false, .int .u64 (IntKind.u64.wrap n)]) (by simp [results, Tryz.results11, go_sem]) rfl ⟨rfl, (Below.refl _ _).alloc (Nat.le_refl _) _⟩

set_option maxHeartbeats 400000 in
theorem toInt_any (f : Bool) (n : Int) (w : World) :
    Calls Tryz.prog 18 #[.agg #[.bool f, .int .u64 n]] w fun e w' => e = .returned (.int .i64 (wrap64 n)) ∧ Below w.heap.size w w' := by
  go_enter Tryz.func18, Tryz.ntmps18
  go_wp2
  go_ret
  exact ⟨rfl, (Below.refl _ _).alloc (Nat.le_refl _) _⟩

theorem frombits_run (n : Int) (w : World) : (callFunc 68 #[.int .u64 n]).run Tryz.prog w = .ok (.value (.float .f64 n.toNat)) w := by
  rw [run_callFunc_extern (fn := Tryz.f68) (e := Extern.MathFloatBits.float64frombits) Tryz.func68 (by kernel_rfl) (by kernel_rfl) (by kernel_rfl) (by kernel_rfl)]
  rfl
theorem bits_run (n : Nat) (w : World) : (callFunc 67 #[.float .f64 n]).run Tryz.prog w = .ok (.value (.int .u64 n)) w := by
  rw [run_callFunc_extern (fn := Tryz.f67) (e := Extern.MathFloatBits.float64bits) Tryz.func67 (by kernel_rfl) (by kernel_rfl) (by kernel_rfl) (by kernel_rfl)]
  rfl

set_option maxRecDepth 100000 in
set_option maxHeartbeats 400000 in
theorem toFloat_any (f : Bool) (n : Int) (w : World) :
    Calls Tryz.prog 45 #[.agg #[.bool f, .int .u64 n]] w fun e w' => e = .returned (.float .f64 n.toNat) ∧ Below w.heap.size w w' := by
  have e23 := fun w => frombits_run n w
  go_enter Tryz.func45, Tryz.ntmps45
  go_wp2
  go_ret
  exact ⟨rfl, (Below.refl _ _).alloc (Nat.le_refl _) _⟩

/-- What a cell holds. -/
def cellv (w : World) (a : Addr) : Value := (w.cell? a).getD undef

theorem cellv_of {w : World} {a : Addr} {v : Value} (h : w.cell? a = some v) : w.cell? a = some (cellv w a) := by
  rw [cellv, h]; rfl

/-- The state of a world behind three boxes, in the middle of the region that they serve. -/
def S3 (w : World) (f g : Bool) (x y : Int) (w' : World) : Prop :=
  Below w.heap.size w w' ∧ w.heap.size + 3 ≤ w'.heap.size ∧
      w'.cell? ⟨w.heap.size, 0, none⟩ = some (.bool f) ∧ w'.cell? ⟨w.heap.size, 1, none⟩ = some (.int .u64 x) ∧
      w'.cell? ⟨w.heap.size + 1, 0, none⟩ = some (.bool g) ∧ w'.cell? ⟨w.heap.size + 1, 1, none⟩ = some (.int .u64 y) ∧
      w'.cell? ⟨w.heap.size + 1 + 1, 0, none⟩ = some (cellv w' ⟨w.heap.size + 1 + 1, 0, none⟩) ∧ w'.cell? ⟨w.heap.size + 1 + 1, 1, none⟩ = some (cellv w' ⟨w.heap.size + 1 + 1, 1, none⟩) ∧
      w'.frozen? ⟨w.heap.size + 1 + 1, 0, none⟩ = false ∧ w'.frozen? ⟨w.heap.size + 1 + 1, 1, none⟩ = false

theorem S3.drew {w : World} {f g : Bool} {x y : Int} {W : World} (h : S3 w f g x y W) : S3 w f g x y W.drew :=
  ⟨h.1.drew, h.2⟩

theorem S3.below {w : World} {f g : Bool} {x y : Int} {W w' : World} (h : S3 w f g x y W) (hb : Below W.heap.size W w') : S3 w f g x y w' := by
  obtain ⟨h0, h1, c1, c2, c3, c4, c5, c6, z1, z2⟩ := h
  have hs := hb.size
  refine ⟨h0.trans (hb.mono (by omega)), by omega, ?_, ?_, ?_, ?_, ?_, ?_, ?_, ?_⟩
  · rw [hb.cell (by simp; omega)]; exact c1
  · rw [hb.cell (by simp; omega)]; exact c2
  · rw [hb.cell (by simp; omega)]; exact c3
  · rw [hb.cell (by simp; omega)]; exact c4
  · exact cellv_of ((hb.cell (by simp; omega)).trans c5)
  · exact cellv_of ((hb.cell (by simp; omega)).trans c6)
  · rw [hb.frozen (by simp; omega)]; exact z1
  · rw [hb.frozen (by simp; omega)]; exact z2

theorem S3.store {w : World} {f g : Bool} {x y : Int} {W : World} (h : S3 w f g x y W) (u v : Value) :
    S3 w f g x y ((W.setCell ⟨w.heap.size + 1 + 1, 0, none⟩ u).setCell ⟨w.heap.size + 1 + 1, 1, none⟩ v) := by
  obtain ⟨h0, h1, c1, c2, c3, c4, c5, c6, z1, z2⟩ := h
  refine ⟨(h0.setCell (by simp; omega) u).setCell (by simp; omega) v, by simpa using h1, ?_, ?_, ?_, ?_, ?_, ?_, ?_, ?_⟩
  · rw [World.cell?_setCell_other (h := by simp), World.cell?_setCell_other (h := by simp)]; exact c1
  · rw [World.cell?_setCell_other (h := by simp), World.cell?_setCell_other (h := by simp)]; exact c2
  · rw [World.cell?_setCell_other (h := by simp), World.cell?_setCell_other (h := by simp)]; exact c3
  · rw [World.cell?_setCell_other (h := by simp), World.cell?_setCell_other (h := by simp)]; exact c4
  · refine cellv_of (v := u) ?_
    rw [World.cell?_setCell_other (h := by simp)]; exact World.cell?_setCell_same W _ u c5
  · refine cellv_of (v := v) ?_
    exact World.cell?_setCell_same _ _ v (u := cellv W ⟨w.heap.size + 1 + 1, 1, none⟩) (by rw [World.cell?_setCell_other (h := by simp)]; exact c6)
  · simpa using z1
  · simpa using z2

/-- What stands behind three boxes. -/
theorem boxes (f g : Bool) (x y : Int) (w : World) : ∃ W0, W0 = (((w.alloc (Obj.cells #[Value.bool f, Value.int IntKind.u64 x] 24)).alloc (Obj.cells #[Value.bool g, Value.int IntKind.u64 y] 24)).alloc (Obj.cells #[Value.bool false, Value.int IntKind.u64 0] 24)) ∧
      S3 w f g x y W0 := by
  refine ⟨_, rfl, (((Below.refl _ _).alloc (by simp) _).alloc (by simp) _).alloc (by simp; omega) _, by simp, ?_, ?_, ?_, ?_, ?_, ?_, ?_, ?_⟩
  · rw [World.cell?_alloc_past _ _ _ (by simp; omega), World.cell?_alloc_past _ _ _ (by simp), World.cell?_alloc_at _ _ _ _ (by simp)]; rfl
  · rw [World.cell?_alloc_past _ _ _ (by simp; omega), World.cell?_alloc_past _ _ _ (by simp), World.cell?_alloc_at _ _ _ _ (by simp)]; rfl
  · rw [World.cell?_alloc_past _ _ _ (by simp), World.cell?_alloc_at _ _ _ _ (by simp)]; rfl
  · rw [World.cell?_alloc_past _ _ _ (by simp), World.cell?_alloc_at _ _ _ _ (by simp)]; rfl
  · exact cellv_of (v := .bool false) (by rw [World.cell?_alloc_at _ _ _ _ (by simp)]; rfl)
  · exact cellv_of (v := .int .u64 0) (by rw [World.cell?_alloc_at _ _ _ _ (by simp)]; rfl)
  · rw [World.frozen?_alloc_at _ _ _ _ (by simp)]
  · rw [World.frozen?_alloc_at _ _ _ _ (by simp)]

theorem setCell_val {w : World} {a : Addr} {u z : Value} (h : (w.setCell a u).cell? a = some z) : (w.setCell a u).cell? a = some u := by
  cases hc : w.cell? a with
  | some y => exact World.cell?_setCell_same w a u hc
  | none =>
    exfalso
    unfold World.cell? at h hc
    unfold World.setCell at h
    simp only [Array.getElem?_modify] at h
    cases hb : w.heap[a.block]? with
    | none => simp [hb] at h
    | some o =>
      cases o <;> simp_all

/-- Behind the store the result lies in its box. -/
theorem S3.fin {w : World} {f g : Bool} {x y : Int} {W : World} {u v : Value}
    (h : S3 w f g x y ((W.setCell ⟨w.heap.size + 1 + 1, 0, none⟩ u).setCell ⟨w.heap.size + 1 + 1, 1, none⟩ v)) :
    Below w.heap.size w ((W.setCell ⟨w.heap.size + 1 + 1, 0, none⟩ u).setCell ⟨w.heap.size + 1 + 1, 1, none⟩ v) ∧
    ((W.setCell ⟨w.heap.size + 1 + 1, 0, none⟩ u).setCell ⟨w.heap.size + 1 + 1, 1, none⟩ v).cell? ⟨w.heap.size + 1 + 1, 0, none⟩ = some u ∧
    ((W.setCell ⟨w.heap.size + 1 + 1, 0, none⟩ u).setCell ⟨w.heap.size + 1 + 1, 1, none⟩ v).cell? ⟨w.heap.size + 1 + 1, 1, none⟩ = some v := by
  obtain ⟨h0, h1, c1, c2, c3, c4, c5, c6, z1, z2⟩ := h
  refine ⟨h0, ?_, setCell_val c6⟩
  rw [World.cell?_setCell_other (h := by simp)] at c5 ⊢
  exact setCell_val c5

end Go.Proofs.YtkipioojdlkbcaaGreatDoor
