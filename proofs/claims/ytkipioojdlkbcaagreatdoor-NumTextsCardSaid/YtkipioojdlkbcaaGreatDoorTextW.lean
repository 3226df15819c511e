/- NumTexts: any number has just the document's text, any text tells just its number, or its error: the walk. -/
import Derived.Test.YtkipioojdlkbcaaGreatDoorTextJ
namespace Go.Proofs.YtkipioojdlkbcaaGreatDoor
open Go.RowKit

theorem keepT {W w w' : World} {a0 a1 a2 a3 a4 a5 : Addr} {v0 v1 v2 v3 v4 v5 : Value} (h : Below W.heap.size W w ∧ Env w ∧ w.cell? a0 = some v0 ∧ w.cell? a1 = some v1 ∧ w.cell? a2 = some v2 ∧ w.cell? a3 = some v3 ∧ w.cell? a4 = some v4 ∧ w.cell? a5 = some v5) (hb : Below w.heap.size w w') :
    Below W.heap.size W w' ∧ Env w' ∧ w'.cell? a0 = some v0 ∧ w'.cell? a1 = some v1 ∧ w'.cell? a2 = some v2 ∧ w'.cell? a3 = some v3 ∧ w'.cell? a4 = some v4 ∧ w'.cell? a5 = some v5 :=
  ⟨stepB h.1 hb, h.2.1.below hb, cell_later hb h.2.2.1, cell_later hb h.2.2.2.1, cell_later hb h.2.2.2.2.1, cell_later hb h.2.2.2.2.2.1, cell_later hb h.2.2.2.2.2.2.1, cell_later hb h.2.2.2.2.2.2.2⟩
theorem keepTB {W w : World} {a0 a1 a2 a3 a4 a5 : Addr} {v0 v1 v2 v3 v4 v5 : Value} (h : Below W.heap.size W w ∧ Env w ∧ w.cell? a0 = some v0 ∧ w.cell? a1 = some v1 ∧ w.cell? a2 = some v2 ∧ w.cell? a3 = some v3 ∧ w.cell? a4 = some v4 ∧ w.cell? a5 = some v5) : Below W.heap.size W w := h.1
theorem keepTE {W w : World} {a0 a1 a2 a3 a4 a5 : Addr} {v0 v1 v2 v3 v4 v5 : Value} (h : Below W.heap.size W w ∧ Env w ∧ w.cell? a0 = some v0 ∧ w.cell? a1 = some v1 ∧ w.cell? a2 = some v2 ∧ w.cell? a3 = some v3 ∧ w.cell? a4 = some v4 ∧ w.cell? a5 = some v5) : Env w := h.2.1

theorem texts_long (f : Bool) (x : Int) (s : ByteArray) (W : World) (hl : 1000 < s.size) (hE : Env W) :
    Calls Tryz.prog 3 #[.agg #[.bool f, .int .u64 x], .string s] W fun e W' => e = .returned (.bool true) ∧ Below W.heap.size W W' := by
  have hl' : 1000 < (s.size : Int) := by omega
  have hA := fun w (hE : Env w) => awake_any w hE
  go_enter Tryz.func3, Tryz.ntmps3
  go_wp2_with fail
  refine (hA _ (hE.alloc _)).mono ?_
  rintro e w1 ⟨rfl, hb⟩
  have hB := stepB ((Below.refl W.heap.size W).alloc (Nat.le_refl _) (Obj.cells #[Value.bool f, Value.int IntKind.u64 x] 24)) hb
  clear hb hA hE
  go_wp2_with fail
  go_ret
  exact ⟨rfl, hB⟩

set_option maxRecDepth 100000 in
set_option maxHeartbeats 8000000 in
theorem texts_short (f : Bool) (x : Int) (s : ByteArray) (W : World) (h0 : 0 ≤ x) (h1 : x < 18446744073709551616) (hl : s.size ≤ 1000) (hE : Env W) (hEE : EE W) :
    Calls Tryz.prog 3 #[.agg #[.bool f, .int .u64 x], .string s] W fun e W' => e = .returned (.bool true) ∧ Below W.heap.size W W' := by
  have hl' : (s.size : Int) ≤ 1000 := by omega
  obtain ⟨b, y, e0, hr⟩ : ∃ b y e0, parseL s.data.toList = (b, y, e0) := ⟨_, _, _, rfl⟩
  have hA := Lib.hid (fun w (hE : Env w) => awake_any w hE)
  have hP := Lib.hid (fun w (hE : Env w) => print_any f x h0 h1 w hE)
  have hRP := Lib.hid (fun w => refPrint_any f x h0 h1 w)
  generalize (⟨(printL f x).toArray⟩ : ByteArray) = t at hP hRP
  have hR := Lib.hid (fun w (hE : EE w) => parse_any s hl w hE b y e0 hr)
  have hRR := Lib.hid (fun w => refParse_any s hl w b y e0 hr)
  clear hl hr
  go_enter Tryz.func3, Tryz.ntmps3
  go_wp2_with fail
  have hB := (Below.refl W.heap.size W).alloc (Nat.le_refl _) (Obj.cells #[Value.bool f, Value.int IntKind.u64 x] 24)
  have n0 : (W.alloc (Obj.cells #[Value.bool f, Value.int IntKind.u64 x] 24)).cell? ⟨W.heap.size, 0, none⟩ = some (.bool f) := by simp
  have n1 : (W.alloc (Obj.cells #[Value.bool f, Value.int IntKind.u64 x] 24)).cell? ⟨W.heap.size, 1, none⟩ = some (.int .u64 x) := by simp
  replace hE := hE.alloc (Obj.cells #[Value.bool f, Value.int IntKind.u64 x] 24)
  replace hEE := hEE.below ((Below.refl _ _).alloc (Nat.le_refl _) (Obj.cells #[Value.bool f, Value.int IntKind.u64 x] 24))
  refine (hA.out _ hE).mono ?_
  rintro e w1 ⟨rfl, hb⟩
  replace hE := hE.below hb
  replace hEE := hEE.below hb
  replace hB := stepB hB hb
  replace n0 := cell_later hb n0
  replace n1 := cell_later hb n1
  clear hb hA
  go_wp2_with fail
  refine (hR.out _ hEE).mono ?_
  rintro e w2 ⟨rfl, hb⟩
  replace hE := hE.below hb
  replace hB := stepB hB hb
  replace n0 := cell_later hb n0
  replace n1 := cell_later hb n1
  clear hb hR hEE
  have ln := World.block_lt_of_cell? _ _ n0
  go_wp2_with fail
  clear ln
  have hb := (Below.refl w2.heap.size w2).alloc (Nat.le_refl _) (Obj.cells #[Value.bool b, Value.int IntKind.u64 y] 24)
  have m0 : (w2.alloc (Obj.cells #[Value.bool b, Value.int IntKind.u64 y] 24)).cell? ⟨w2.heap.size, 0, none⟩ = some (.bool b) := by simp
  have m1 : (w2.alloc (Obj.cells #[Value.bool b, Value.int IntKind.u64 y] 24)).cell? ⟨w2.heap.size, 1, none⟩ = some (.int .u64 y) := by simp
  replace hE := hE.below hb
  replace hB := stepB hB hb
  replace n0 := cell_later hb n0
  replace n1 := cell_later hb n1
  clear hb
  refine (hRR.out _).mono ?_
  rintro e w3 ⟨rfl, hb⟩
  replace hE := hE.below hb
  replace hB := stepB hB hb
  replace n0 := cell_later hb n0
  replace n1 := cell_later hb n1
  replace m0 := cell_later hb m0
  replace m1 := cell_later hb m1
  clear hb hRR
  have ln := World.block_lt_of_cell? _ _ n0
  have lm := World.block_lt_of_cell? _ _ m0
  go_wp2_with fail
  clear ln lm
  have hb := (Below.refl w3.heap.size w3).alloc (Nat.le_refl _) (Obj.cells #[Value.bool b, Value.int IntKind.u64 y] 24)
  have k0 : (w3.alloc (Obj.cells #[Value.bool b, Value.int IntKind.u64 y] 24)).cell? ⟨w3.heap.size, 0, none⟩ = some (.bool b) := by simp
  have k1 : (w3.alloc (Obj.cells #[Value.bool b, Value.int IntKind.u64 y] 24)).cell? ⟨w3.heap.size, 1, none⟩ = some (.int .u64 y) := by simp
  replace hE := hE.below hb
  replace hB := stepB hB hb
  replace n0 := cell_later hb n0
  replace n1 := cell_later hb n1
  replace m0 := cell_later hb m0
  replace m1 := cell_later hb m1
  clear hb
  generalize hQ : World.alloc w3 (Obj.cells #[Value.bool b, Value.int IntKind.u64 y] 24) = Q at hE hB n0 n1 m0 m1 k0 k1 ⊢
  clear hQ
  go_region_held3 (fun w' => Below W.heap.size W w' ∧ Env w' ∧ w'.cell? ⟨W.heap.size, 0, none⟩ = some (.bool f) ∧ w'.cell? ⟨W.heap.size, 1, none⟩ = some (.int .u64 x) ∧ w'.cell? ⟨w2.heap.size, 0, none⟩ = some (.bool b) ∧ w'.cell? ⟨w2.heap.size, 1, none⟩ = some (.int .u64 y) ∧ w'.cell? ⟨w3.heap.size, 0, none⟩ = some (.bool b) ∧ w'.cell? ⟨w3.heap.size, 1, none⟩ = some (.int .u64 y))
    (first
      | exact keepT (by assumption) hb
      | exact keepT ⟨hB, hE, n0, n1, m0, m1, k0, k1⟩ (Below.refl _ _).drew)
    (first
      | (go_at_call 7; refine (hP.out _ (keepTE (by assumption))).mono ?_; rintro e xa ⟨rfl, hb⟩)
      | (go_at_call 8; refine (hRP.out _).mono ?_; rintro e xa ⟨rfl, hb⟩))
  have hF : Below W.heap.size W _ := keepTB (by assumption)
  go_wp2_with fail
  go_ret
  exact ⟨by simp, hF⟩

end Go.Proofs.YtkipioojdlkbcaaGreatDoor
