/- One use that is asked, of the arena: what it is told. And the acts of an argument, opened. -/
import Derived.Test.YtfkcmadnebeijaaArC
import Derived.Deep.Slices
import Derived.ChangeSame
namespace Go.Proofs.Ytfkcmadnebeijaa
open Go.RowKit

/-- What is told of one use: the word, the error, the words and the count behind it. -/
def inr (A : Int) (n : Nat) : Prop := 0 ≤ A ∧ A < (n : Int)
instance (A : Int) (n : Nat) : Decidable (inr A n) := by unfold inr; infer_instance
def dWord (K A : Int) (n : Nat) (D : Nat → Int) : Int := if inr A n ∧ K = 0 then D A.toNat else 0
def dErr (A : Int) (n : Nat) : Int := if inr A n then 0 else 1
def dWords (K A X : Int) (n : Nat) (D : Nat → Int) : Nat → Int := if inr A n ∧ K ≠ 0 then fun k => if k = A.toNat then X else D k else D
def dUses (A : Int) (n : Nat) (u : Int) : Int := if inr A n then wrap64 (u + 1) else u

set_option maxHeartbeats 1000000 in
theorem do_load_in (p d n : Nat) (D : Nat → Int) (u K A X : Int) (w : World) (hA : At w p d n D u) (hk : K = 0) (h0 : 0 ≤ A) (h1 : A < n) :
    Calls Try.prog 10 #[.pointer (some ⟨p, 0, none⟩), .agg #[.int .i64 K, .int .i64 A, .int .i64 X]] w fun e w' =>
      e = .returned (.agg #[.int .i64 (D A.toNat), .int .i64 0]) ∧ At w' p d n D (wrap64 (u + 1)) ∧ Apart p d w w' := by
  subst hk
  have lp := hA.lp
  have ld := hA.ld
  have hal := ((Below.refl w.heap.size w).alloc (Nat.le_refl _) (.cells #[.int .i64 0, .int .i64 A, .int .i64 X] 35)).alloc (by simp) (.cells #[.int .i64 0, .int .i64 0] 32)
  have hA1 := hA.later hal
  have t0 : ((w.alloc (.cells #[.int .i64 0, .int .i64 A, .int .i64 X] 35)).alloc (.cells #[.int .i64 0, .int .i64 0] 32)).cell? ⟨w.heap.size + 1, 0, none⟩ = some (.int .i64 0) := by simp [go_sem]
  have t1 : ((w.alloc (.cells #[.int .i64 0, .int .i64 A, .int .i64 X] 35)).alloc (.cells #[.int .i64 0, .int .i64 0] 32)).cell? ⟨w.heap.size + 1, 1, none⟩ = some (.int .i64 0) := by simp [go_sem]
  have tz : ∀ j, ((w.alloc (.cells #[.int .i64 0, .int .i64 A, .int .i64 X] 35)).alloc (.cells #[.int .i64 0, .int .i64 0] 32)).frozen? ⟨w.heap.size + 1, j, none⟩ = false := by intro j; simp [go_sem]
  have ts : w.heap.size + 1 < ((w.alloc (.cells #[.int .i64 0, .int .i64 A, .int .i64 X] 35)).alloc (.cells #[.int .i64 0, .int .i64 0] 32)).heap.size := by simp
  go_enter Try.func10, Try.ntmps10
  go_wp2_with fail
  refine (load_in p d n D u A _ hA1 h0 h1).mono ?_
  rintro e w2 ⟨rfl, hA2, hq⟩
  have c0 := hq.cell t0 (by simp; omega) (by simp; omega)
  have c1 := hq.cell t1 (by simp; omega) (by simp; omega)
  have z0 : w2.frozen? ⟨w.heap.size + 1, 0, none⟩ = false := (hq.frozen ts (by simp; omega) (by simp; omega)).trans (tz 0)
  have z1 : w2.frozen? ⟨w.heap.size + 1, 1, none⟩ = false := (hq.frozen ts (by simp; omega) (by simp; omega)).trans (tz 1)
  have hq2 := (Apart.of_below (p := p) (d := d) hal).trans hq
  clear hq hA1 hA t0 t1 tz ts hal
  go_wp2_with fail
  have hlast : Below w.heap.size w2 ((w2.setCell ⟨w.heap.size + 1, 0, none⟩ (.int .i64 (D A.toNat))).setCell ⟨w.heap.size + 1, 1, none⟩ (.int .i64 0)) :=
    ((Below.refl _ _).setCell (by simp) _).setCell (by simp) _
  have hA9 := hA2.below hlast lp ld
  have hq9 := hq2.then hlast
  have e0 : ((w2.setCell ⟨w.heap.size + 1, 0, none⟩ (.int .i64 (D A.toNat))).setCell ⟨w.heap.size + 1, 1, none⟩ (.int .i64 0)).cell? ⟨w.heap.size + 1, 0, none⟩ = some (.int .i64 (D A.toNat)) :=
    (World.cell?_setCell_other _ _ _ _ (by simp)).trans (World.cell?_setCell_same _ _ _ c0)
  have e1 : ((w2.setCell ⟨w.heap.size + 1, 0, none⟩ (.int .i64 (D A.toNat))).setCell ⟨w.heap.size + 1, 1, none⟩ (.int .i64 0)).cell? ⟨w.heap.size + 1, 1, none⟩ = some (.int .i64 0) :=
    World.cell?_setCell_same _ _ _ ((World.cell?_setCell_other _ _ _ _ (by simp)).trans c1)
  generalize ((w2.setCell ⟨w.heap.size + 1, 0, none⟩ (.int .i64 (D A.toNat))).setCell ⟨w.heap.size + 1, 1, none⟩ (.int .i64 0)) = w9 at *
  refine bodyPost_ret (v := .agg #[.int .i64 (D A.toNat), .int .i64 0]) (by simp [results, Try.results10, go_sem, e0, e1]) rfl ⟨rfl, hA9, hq9⟩

set_option maxHeartbeats 1000000 in
theorem do_load_out (p d n : Nat) (D : Nat → Int) (u K A X : Int) (w : World) (hA : At w p d n D u) (hk : K = 0) (ho : ¬ (0 ≤ A ∧ A < (n : Int))) :
    Calls Try.prog 10 #[.pointer (some ⟨p, 0, none⟩), .agg #[.int .i64 K, .int .i64 A, .int .i64 X]] w fun e w' =>
      e = .returned (.agg #[.int .i64 (0), .int .i64 1]) ∧ At w' p d n D u ∧ Apart p d w w' := by
  subst hk
  have lp := hA.lp
  have ld := hA.ld
  have hal := ((Below.refl w.heap.size w).alloc (Nat.le_refl _) (.cells #[.int .i64 0, .int .i64 A, .int .i64 X] 35)).alloc (by simp) (.cells #[.int .i64 0, .int .i64 0] 32)
  have hA1 := hA.later hal
  have t0 : ((w.alloc (.cells #[.int .i64 0, .int .i64 A, .int .i64 X] 35)).alloc (.cells #[.int .i64 0, .int .i64 0] 32)).cell? ⟨w.heap.size + 1, 0, none⟩ = some (.int .i64 0) := by simp [go_sem]
  have t1 : ((w.alloc (.cells #[.int .i64 0, .int .i64 A, .int .i64 X] 35)).alloc (.cells #[.int .i64 0, .int .i64 0] 32)).cell? ⟨w.heap.size + 1, 1, none⟩ = some (.int .i64 0) := by simp [go_sem]
  have tz : ∀ j, ((w.alloc (.cells #[.int .i64 0, .int .i64 A, .int .i64 X] 35)).alloc (.cells #[.int .i64 0, .int .i64 0] 32)).frozen? ⟨w.heap.size + 1, j, none⟩ = false := by intro j; simp [go_sem]
  have ts : w.heap.size + 1 < ((w.alloc (.cells #[.int .i64 0, .int .i64 A, .int .i64 X] 35)).alloc (.cells #[.int .i64 0, .int .i64 0] 32)).heap.size := by simp
  go_enter Try.func10, Try.ntmps10
  go_wp2_with fail
  refine (load_out p d n D u A _ hA1 ho).mono ?_
  rintro e w2 ⟨rfl, hA2, hq⟩
  have c0 := hq.cell t0 (by simp; omega) (by simp; omega)
  have c1 := hq.cell t1 (by simp; omega) (by simp; omega)
  have z0 : w2.frozen? ⟨w.heap.size + 1, 0, none⟩ = false := (hq.frozen ts (by simp; omega) (by simp; omega)).trans (tz 0)
  have z1 : w2.frozen? ⟨w.heap.size + 1, 1, none⟩ = false := (hq.frozen ts (by simp; omega) (by simp; omega)).trans (tz 1)
  have hq2 := (Apart.of_below (p := p) (d := d) hal).trans hq
  clear hq hA1 hA t0 t1 tz ts hal
  go_wp2_with fail
  have hlast : Below w.heap.size w2 ((w2.setCell ⟨w.heap.size + 1, 0, none⟩ (.int .i64 (0))).setCell ⟨w.heap.size + 1, 1, none⟩ (.int .i64 1)) :=
    ((Below.refl _ _).setCell (by simp) _).setCell (by simp) _
  have hA9 := hA2.below hlast lp ld
  have hq9 := hq2.then hlast
  have e0 : ((w2.setCell ⟨w.heap.size + 1, 0, none⟩ (.int .i64 (0))).setCell ⟨w.heap.size + 1, 1, none⟩ (.int .i64 1)).cell? ⟨w.heap.size + 1, 0, none⟩ = some (.int .i64 (0)) :=
    (World.cell?_setCell_other _ _ _ _ (by simp)).trans (World.cell?_setCell_same _ _ _ c0)
  have e1 : ((w2.setCell ⟨w.heap.size + 1, 0, none⟩ (.int .i64 (0))).setCell ⟨w.heap.size + 1, 1, none⟩ (.int .i64 1)).cell? ⟨w.heap.size + 1, 1, none⟩ = some (.int .i64 1) :=
    World.cell?_setCell_same _ _ _ ((World.cell?_setCell_other _ _ _ _ (by simp)).trans c1)
  generalize ((w2.setCell ⟨w.heap.size + 1, 0, none⟩ (.int .i64 (0))).setCell ⟨w.heap.size + 1, 1, none⟩ (.int .i64 1)) = w9 at *
  refine bodyPost_ret (v := .agg #[.int .i64 (0), .int .i64 1]) (by simp [results, Try.results10, go_sem, e0, e1]) rfl ⟨rfl, hA9, hq9⟩

set_option maxHeartbeats 1000000 in
theorem do_store_in (p d n : Nat) (D : Nat → Int) (u K A X : Int) (w : World) (hA : At w p d n D u) (hk : ¬ K = 0) (h0 : 0 ≤ A) (h1 : A < n) :
    Calls Try.prog 10 #[.pointer (some ⟨p, 0, none⟩), .agg #[.int .i64 K, .int .i64 A, .int .i64 X]] w fun e w' =>
      e = .returned (.agg #[.int .i64 (0), .int .i64 0]) ∧ At w' p d n (fun k => if k = A.toNat then X else D k) (wrap64 (u + 1)) ∧ Apart p d w w' := by
  have lp := hA.lp
  have ld := hA.ld
  have hal := ((Below.refl w.heap.size w).alloc (Nat.le_refl _) (.cells #[.int .i64 K, .int .i64 A, .int .i64 X] 35)).alloc (by simp) (.cells #[.int .i64 0, .int .i64 0] 32)
  have hA1 := hA.later hal
  have t0 : ((w.alloc (.cells #[.int .i64 K, .int .i64 A, .int .i64 X] 35)).alloc (.cells #[.int .i64 0, .int .i64 0] 32)).cell? ⟨w.heap.size + 1, 0, none⟩ = some (.int .i64 0) := by simp [go_sem]
  have t1 : ((w.alloc (.cells #[.int .i64 K, .int .i64 A, .int .i64 X] 35)).alloc (.cells #[.int .i64 0, .int .i64 0] 32)).cell? ⟨w.heap.size + 1, 1, none⟩ = some (.int .i64 0) := by simp [go_sem]
  have tz : ∀ j, ((w.alloc (.cells #[.int .i64 K, .int .i64 A, .int .i64 X] 35)).alloc (.cells #[.int .i64 0, .int .i64 0] 32)).frozen? ⟨w.heap.size + 1, j, none⟩ = false := by intro j; simp [go_sem]
  have ts : w.heap.size + 1 < ((w.alloc (.cells #[.int .i64 K, .int .i64 A, .int .i64 X] 35)).alloc (.cells #[.int .i64 0, .int .i64 0] 32)).heap.size := by simp
  go_enter Try.func10, Try.ntmps10
  go_wp2_with fail
  refine (store_in p d n D u A X _ hA1 h0 h1).mono ?_
  rintro e w2 ⟨rfl, hA2, hq⟩
  have c0 := hq.cell t0 (by simp; omega) (by simp; omega)
  have c1 := hq.cell t1 (by simp; omega) (by simp; omega)
  have z0 : w2.frozen? ⟨w.heap.size + 1, 0, none⟩ = false := (hq.frozen ts (by simp; omega) (by simp; omega)).trans (tz 0)
  have z1 : w2.frozen? ⟨w.heap.size + 1, 1, none⟩ = false := (hq.frozen ts (by simp; omega) (by simp; omega)).trans (tz 1)
  have hq2 := (Apart.of_below (p := p) (d := d) hal).trans hq
  clear hq hA1 hA t0 t1 tz ts hal
  go_wp2_with fail
  have hlast : Below w.heap.size w2 ((w2.setCell ⟨w.heap.size + 1, 0, none⟩ (.int .i64 (0))).setCell ⟨w.heap.size + 1, 1, none⟩ (.int .i64 0)) :=
    ((Below.refl _ _).setCell (by simp) _).setCell (by simp) _
  have hA9 := hA2.below hlast lp ld
  have hq9 := hq2.then hlast
  have e0 : ((w2.setCell ⟨w.heap.size + 1, 0, none⟩ (.int .i64 (0))).setCell ⟨w.heap.size + 1, 1, none⟩ (.int .i64 0)).cell? ⟨w.heap.size + 1, 0, none⟩ = some (.int .i64 (0)) :=
    (World.cell?_setCell_other _ _ _ _ (by simp)).trans (World.cell?_setCell_same _ _ _ c0)
  have e1 : ((w2.setCell ⟨w.heap.size + 1, 0, none⟩ (.int .i64 (0))).setCell ⟨w.heap.size + 1, 1, none⟩ (.int .i64 0)).cell? ⟨w.heap.size + 1, 1, none⟩ = some (.int .i64 0) :=
    World.cell?_setCell_same _ _ _ ((World.cell?_setCell_other _ _ _ _ (by simp)).trans c1)
  generalize ((w2.setCell ⟨w.heap.size + 1, 0, none⟩ (.int .i64 (0))).setCell ⟨w.heap.size + 1, 1, none⟩ (.int .i64 0)) = w9 at *
  refine bodyPost_ret (v := .agg #[.int .i64 (0), .int .i64 0]) (by simp [results, Try.results10, go_sem, e0, e1]) rfl ⟨rfl, hA9, hq9⟩

set_option maxHeartbeats 1000000 in
theorem do_store_out (p d n : Nat) (D : Nat → Int) (u K A X : Int) (w : World) (hA : At w p d n D u) (hk : ¬ K = 0) (ho : ¬ (0 ≤ A ∧ A < (n : Int))) :
    Calls Try.prog 10 #[.pointer (some ⟨p, 0, none⟩), .agg #[.int .i64 K, .int .i64 A, .int .i64 X]] w fun e w' =>
      e = .returned (.agg #[.int .i64 (0), .int .i64 1]) ∧ At w' p d n D u ∧ Apart p d w w' := by
  have lp := hA.lp
  have ld := hA.ld
  have hal := ((Below.refl w.heap.size w).alloc (Nat.le_refl _) (.cells #[.int .i64 K, .int .i64 A, .int .i64 X] 35)).alloc (by simp) (.cells #[.int .i64 0, .int .i64 0] 32)
  have hA1 := hA.later hal
  have t0 : ((w.alloc (.cells #[.int .i64 K, .int .i64 A, .int .i64 X] 35)).alloc (.cells #[.int .i64 0, .int .i64 0] 32)).cell? ⟨w.heap.size + 1, 0, none⟩ = some (.int .i64 0) := by simp [go_sem]
  have t1 : ((w.alloc (.cells #[.int .i64 K, .int .i64 A, .int .i64 X] 35)).alloc (.cells #[.int .i64 0, .int .i64 0] 32)).cell? ⟨w.heap.size + 1, 1, none⟩ = some (.int .i64 0) := by simp [go_sem]
  have tz : ∀ j, ((w.alloc (.cells #[.int .i64 K, .int .i64 A, .int .i64 X] 35)).alloc (.cells #[.int .i64 0, .int .i64 0] 32)).frozen? ⟨w.heap.size + 1, j, none⟩ = false := by intro j; simp [go_sem]
  have ts : w.heap.size + 1 < ((w.alloc (.cells #[.int .i64 K, .int .i64 A, .int .i64 X] 35)).alloc (.cells #[.int .i64 0, .int .i64 0] 32)).heap.size := by simp
  go_enter Try.func10, Try.ntmps10
  go_wp2_with fail
  refine (store_out p d n D u A X _ hA1 ho).mono ?_
  rintro e w2 ⟨rfl, hA2, hq⟩
  have c0 := hq.cell t0 (by simp; omega) (by simp; omega)
  have c1 := hq.cell t1 (by simp; omega) (by simp; omega)
  have z0 : w2.frozen? ⟨w.heap.size + 1, 0, none⟩ = false := (hq.frozen ts (by simp; omega) (by simp; omega)).trans (tz 0)
  have z1 : w2.frozen? ⟨w.heap.size + 1, 1, none⟩ = false := (hq.frozen ts (by simp; omega) (by simp; omega)).trans (tz 1)
  have hq2 := (Apart.of_below (p := p) (d := d) hal).trans hq
  clear hq hA1 hA t0 t1 tz ts hal
  go_wp2_with fail
  have hlast : Below w.heap.size w2 ((w2.setCell ⟨w.heap.size + 1, 0, none⟩ (.int .i64 (0))).setCell ⟨w.heap.size + 1, 1, none⟩ (.int .i64 1)) :=
    ((Below.refl _ _).setCell (by simp) _).setCell (by simp) _
  have hA9 := hA2.below hlast lp ld
  have hq9 := hq2.then hlast
  have e0 : ((w2.setCell ⟨w.heap.size + 1, 0, none⟩ (.int .i64 (0))).setCell ⟨w.heap.size + 1, 1, none⟩ (.int .i64 1)).cell? ⟨w.heap.size + 1, 0, none⟩ = some (.int .i64 (0)) :=
    (World.cell?_setCell_other _ _ _ _ (by simp)).trans (World.cell?_setCell_same _ _ _ c0)
  have e1 : ((w2.setCell ⟨w.heap.size + 1, 0, none⟩ (.int .i64 (0))).setCell ⟨w.heap.size + 1, 1, none⟩ (.int .i64 1)).cell? ⟨w.heap.size + 1, 1, none⟩ = some (.int .i64 1) :=
    World.cell?_setCell_same _ _ _ ((World.cell?_setCell_other _ _ _ _ (by simp)).trans c1)
  generalize ((w2.setCell ⟨w.heap.size + 1, 0, none⟩ (.int .i64 (0))).setCell ⟨w.heap.size + 1, 1, none⟩ (.int .i64 1)) = w9 at *
  refine bodyPost_ret (v := .agg #[.int .i64 (0), .int .i64 1]) (by simp [results, Try.results10, go_sem, e0, e1]) rfl ⟨rfl, hA9, hq9⟩

end Go.Proofs.Ytfkcmadnebeijaa
