/- Contracts of the number layer's conversions and questions. -/
import Derived.Test.YtkipioojdlkbcaaGreatDoorNumC
namespace Go.Proofs.YtkipioojdlkbcaaGreatDoor
open Go.RowKit

theorem box_stored {W : World} {n : Nat} {u v y z : Value} (h0 : W.cell? ⟨n, 0, none⟩ = some y) (h1 : W.cell? ⟨n, 1, none⟩ = some z) :
    ((W.setCell ⟨n, 0, none⟩ u).setCell ⟨n, 1, none⟩ v).cell? ⟨n, 0, none⟩ = some u ∧ ((W.setCell ⟨n, 0, none⟩ u).setCell ⟨n, 1, none⟩ v).cell? ⟨n, 1, none⟩ = some v := by
  constructor
  · rw [World.cell?_setCell_other (h := by simp)]; exact World.cell?_setCell_same _ _ _ h0
  · exact World.cell?_setCell_same _ _ _ (u := z) (by rw [World.cell?_setCell_other (h := by simp)]; exact h1)

set_option maxRecDepth 100000 in
set_option maxHeartbeats 400000 in
theorem truncate_ok (n : Nat) (k : Int) (w : World) (h1 : (FloatKind.f64.format.order n 14114281232179134464 == some .gt || FloatKind.f64.format.order n 14114281232179134464 == some .eq) = true)
    (h2 : (FloatKind.f64.format.order n 4890909195324358656 == some .lt) = true) (hk : floatToIntVal .f64 n .i64 = some k) :
    Calls Tryz.prog 51 #[.float .f64 n] w fun e w' => e = .returned (.tuple #[.agg #[.bool false, .int .u64 (IntKind.u64.wrap k)], .int .i64 0]) ∧ Below w.heap.size w w' := by
  have ec := fun w => run_convert_float_int (P := Tryz.prog) w 71 2 .f64 .i64 n k (by kernel_rfl) (by kernel_rfl) hk
  clear hk
  go_enter Tryz.func51, Tryz.ntmps51
  go_wp2_with fail
  refine (int_any _ _).mono ?_
  rintro e w' ⟨rfl, hb⟩
  have hb0 : Below w.heap.size w w' := ((Below.refl _ _).alloc (Nat.le_refl _) _).trans (hb.mono (by simp))
  have hs := hb.size
  have k0 : w'.cell? ⟨w.heap.size, 0, none⟩ = some (.bool false) := by rw [hb.cell (by simp)]; simp
  have k1 : w'.cell? ⟨w.heap.size, 1, none⟩ = some (.int .u64 0) := by rw [hb.cell (by simp)]; simp
  have f0 : w'.frozen? ⟨w.heap.size, 0, none⟩ = false := by rw [hb.frozen (by simp)]; simp
  have f1 : w'.frozen? ⟨w.heap.size, 1, none⟩ = false := by rw [hb.frozen (by simp)]; simp
  clear hb
  go_wp2
  obtain ⟨r0, r1⟩ := box_stored (u := .bool false) (v := .int .u64 (IntKind.u64.wrap k)) k0 k1
  exact bodyPost_ret (v := .tuple #[.agg #[.bool false, .int .u64 (IntKind.u64.wrap k)], .int .i64 0]) (by simp [results, Tryz.results51, go_sem, r0, r1]) rfl
    ⟨rfl, (hb0.setCell (by simp) _).setCell (by simp) _⟩

set_option maxRecDepth 100000 in
set_option maxHeartbeats 400000 in
theorem truncate_low (n : Nat) (w : World) (h1 : (FloatKind.f64.format.order n 14114281232179134464 == some .gt || FloatKind.f64.format.order n 14114281232179134464 == some .eq) = false) :
    Calls Tryz.prog 51 #[.float .f64 n] w fun e w' => e = .returned (.tuple #[.agg #[.bool false, .int .u64 0], .int .i64 1]) ∧ Below w.heap.size w w' := by
  go_enter Tryz.func51, Tryz.ntmps51
  go_wp2
  exact bodyPost_ret (v := .tuple #[.agg #[.bool false, .int .u64 0], .int .i64 1]) (by simp [results, Tryz.results51, go_sem]) rfl
    ⟨rfl, (Below.refl _ _).alloc (Nat.le_refl _) _⟩

set_option maxRecDepth 100000 in
set_option maxHeartbeats 400000 in
theorem truncate_high (n : Nat) (w : World) (h1 : (FloatKind.f64.format.order n 14114281232179134464 == some .gt || FloatKind.f64.format.order n 14114281232179134464 == some .eq) = true)
    (h2 : (FloatKind.f64.format.order n 4890909195324358656 == some .lt) = false) :
    Calls Tryz.prog 51 #[.float .f64 n] w fun e w' => e = .returned (.tuple #[.agg #[.bool false, .int .u64 0], .int .i64 1]) ∧ Below w.heap.size w w' := by
  go_enter Tryz.func51, Tryz.ntmps51
  go_wp2
  exact bodyPost_ret (v := .tuple #[.agg #[.bool false, .int .u64 0], .int .i64 1]) (by simp [results, Tryz.results51, go_sem]) rfl
    ⟨rfl, (Below.refl _ _).alloc (Nat.le_refl _) _⟩

/-- Within the ints of 64 bits. -/
def within (n : Nat) : Bool := (FloatKind.f64.format.order n 14114281232179134464 == some .gt || FloatKind.f64.format.order n 14114281232179134464 == some .eq) && (FloatKind.f64.format.order n 4890909195324358656 == some .lt)

/-- What the whole part of a float comes to: the bits, and the error's number. -/
def tr (n : Nat) : Int := if within n = true then (match floatToIntVal .f64 n .i64 with | some k => IntKind.u64.wrap k | none => 0) else 0
def trE (n : Nat) : Int := if within n = true then 0 else 1

theorem truncate_any (n : Nat) (w : World) (hv : within n = true → (floatToIntVal .f64 n .i64).isSome = true) :
    Calls Tryz.prog 51 #[.float .f64 n] w fun e w' => e = .returned (.tuple #[.agg #[.bool false, .int .u64 (tr n)], .int .i64 (trE n)]) ∧ Below w.heap.size w w' := by
  unfold tr trE
  cases h1 : (FloatKind.f64.format.order n 14114281232179134464 == some .gt || FloatKind.f64.format.order n 14114281232179134464 == some .eq)
  · have e : within n = false := by unfold within; rw [h1]; rfl
    rw [e]; exact truncate_low n w h1
  · cases h2 : (FloatKind.f64.format.order n 4890909195324358656 == some .lt)
    · have e : within n = false := by unfold within; rw [h1, h2]; rfl
      rw [e]; exact truncate_high n w h1 h2
    · have e : within n = true := by unfold within; rw [h1, h2]; rfl
      obtain ⟨k, hk⟩ := Option.isSome_iff_exists.1 (hv e)
      rw [e, hk]; exact truncate_ok n k w h1 h2 hk

set_option maxRecDepth 100000 in
set_option maxHeartbeats 1000000 in
theorem opFloat_any (f g : Bool) (x y : Int) (w : World) :
    Calls Tryz.prog 49 #[.agg #[.bool f, .int .u64 x], .agg #[.bool g, .int .u64 y]] w fun e w' =>
      e = .returned (.tuple #[.agg #[.bool true, .int .u64 ((cn (floatOfInt .f64 (wrap64 x)) : Nat))], .int .i64 (0)]) ∧ Below w.heap.size w w' := by
  obtain ⟨W0, hW0, hS⟩ := boxes f g x y w
  have HW := Lib.hid hW0; clear hW0
  obtain ⟨hB0, hs0, c1, c2, c3, c4, c5, c6, z1, z2⟩ := id hS
  go_enter Tryz.func49, Tryz.ntmps49
  go_wp2_with fail
  rw [← HW.out]
  clear HW hB0 hs0
  refine (toInt_any _ _ _).mono ?_
  rintro e w1 ⟨rfl, hb⟩
  replace hS := S3.below hS hb
  clear hb c1 c2 c3 c4 c5 c6 z1 z2
  obtain ⟨-, -, c1, c2, c3, c4, c5, c6, z1, z2⟩ := id hS
  go_wp2_with fail
  refine (ofFloat_any _ _).mono ?_
  rintro e w2 ⟨rfl, hb⟩
  replace hS := S3.below hS hb
  clear hb c1 c2 c3 c4 c5 c6 z1 z2
  obtain ⟨-, -, c1, c2, c3, c4, c5, c6, z1, z2⟩ := id hS
  go_wp2_with fail
  obtain ⟨hb, r0, r1⟩ := S3.fin (S3.store hS (.bool true) (.int .u64 ((cn (floatOfInt .f64 (wrap64 x)) : Nat))))
  exact bodyPost_ret (v := .tuple #[.agg #[.bool true, .int .u64 ((cn (floatOfInt .f64 (wrap64 x)) : Nat))], .int .i64 (0)]) (by simp [results, Tryz.results49, go_sem, r0, r1]) rfl ⟨rfl, hb⟩

set_option maxRecDepth 100000 in
set_option maxHeartbeats 1000000 in
theorem opTrunc_any (f g : Bool) (x y : Int) (w : World)
    (hv : within x.toNat = true → (floatToIntVal .f64 x.toNat .i64).isSome = true) :
    Calls Tryz.prog 50 #[.agg #[.bool f, .int .u64 x], .agg #[.bool g, .int .u64 y]] w fun e w' =>
      e = .returned (.tuple #[.agg #[.bool false, .int .u64 (tr x.toNat)], .int .i64 (trE x.toNat)]) ∧ Below w.heap.size w w' := by
  obtain ⟨W0, hW0, hS⟩ := boxes f g x y w
  have HW := Lib.hid hW0; clear hW0
  obtain ⟨hB0, hs0, c1, c2, c3, c4, c5, c6, z1, z2⟩ := id hS
  go_enter Tryz.func50, Tryz.ntmps50
  go_wp2_with fail
  rw [← HW.out]
  clear HW hB0 hs0
  refine (toFloat_any _ _ _).mono ?_
  rintro e w1 ⟨rfl, hb⟩
  replace hS := S3.below hS hb
  clear hb c1 c2 c3 c4 c5 c6 z1 z2
  obtain ⟨-, -, c1, c2, c3, c4, c5, c6, z1, z2⟩ := id hS
  go_wp2_with fail
  refine (truncate_any _ _ hv).mono ?_
  rintro e w2 ⟨rfl, hb⟩
  replace hS := S3.below hS hb
  clear hb c1 c2 c3 c4 c5 c6 z1 z2
  obtain ⟨-, -, c1, c2, c3, c4, c5, c6, z1, z2⟩ := id hS
  go_wp2_with fail
  obtain ⟨hb, r0, r1⟩ := S3.fin (S3.store hS (.bool false) (.int .u64 (tr x.toNat)))
  exact bodyPost_ret (v := .tuple #[.agg #[.bool false, .int .u64 (tr x.toNat)], .int .i64 (trE x.toNat)]) (by simp [results, Tryz.results50, go_sem, r0, r1]) rfl ⟨rfl, hb⟩

/-- The state of a world behind two boxes. -/
def S2 (w : World) (f g : Bool) (x y : Int) (w' : World) : Prop :=
  Below w.heap.size w w' ∧ w.heap.size + 2 ≤ w'.heap.size ∧
      w'.cell? ⟨w.heap.size, 0, none⟩ = some (.bool f) ∧ w'.cell? ⟨w.heap.size, 1, none⟩ = some (.int .u64 x) ∧
      w'.cell? ⟨w.heap.size + 1, 0, none⟩ = some (.bool g) ∧ w'.cell? ⟨w.heap.size + 1, 1, none⟩ = some (.int .u64 y)

theorem S2.drew {w : World} {f g : Bool} {x y : Int} {W : World} (h : S2 w f g x y W) : S2 w f g x y W.drew :=
  ⟨h.1.drew, h.2⟩

theorem S2.out {w : World} {f g : Bool} {x y : Int} {W : World} (h : S2 w f g x y W) : Below w.heap.size w W := h.1

theorem S2.below {w : World} {f g : Bool} {x y : Int} {W w' : World} (h : S2 w f g x y W) (hb : Below W.heap.size W w') : S2 w f g x y w' := by
  obtain ⟨h0, h1, c1, c2, c3, c4⟩ := h
  have hs := hb.size
  refine ⟨h0.trans (hb.mono (by omega)), by omega, ?_, ?_, ?_, ?_⟩
  · rw [hb.cell (by simp; omega)]; exact c1
  · rw [hb.cell (by simp; omega)]; exact c2
  · rw [hb.cell (by simp; omega)]; exact c3
  · rw [hb.cell (by simp; omega)]; exact c4

theorem boxes2 (f g : Bool) (x y : Int) (w : World) : ∃ W0, W0 = ((w.alloc (Obj.cells #[Value.bool f, Value.int IntKind.u64 x] 24)).alloc (Obj.cells #[Value.bool g, Value.int IntKind.u64 y] 24)) ∧
      S2 w f g x y W0 := by
  refine ⟨_, rfl, ((Below.refl _ _).alloc (by simp) _).alloc (by simp) _, by simp, ?_, ?_, ?_, ?_⟩
  · rw [World.cell?_alloc_past _ _ _ (by simp), World.cell?_alloc_at _ _ _ _ (by simp)]; rfl
  · rw [World.cell?_alloc_past _ _ _ (by simp), World.cell?_alloc_at _ _ _ _ (by simp)]; rfl
  · rw [World.cell?_alloc_at _ _ _ _ (by simp)]; rfl
  · rw [World.cell?_alloc_at _ _ _ _ (by simp)]; rfl

end Go.Proofs.YtkipioojdlkbcaaGreatDoor
