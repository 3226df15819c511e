/- The arena's calls, as they lie: a new one, a use, how many there were, all words. -/
import Derived.Test.YtbjlpmjalidfkaaArA
import Derived.Laws.MakeOwn
import Derived.Lib.SliceRun
namespace Go.Proofs.Ytbjlpmjalidfkaa
open Go.RowKit

theorem mkfunc (fn : Fn) (first cap : Array Value) (w : World) : (Instr.makeFunc fn first cap).run Try.prog w = .ok (.func fn first cap) w := rfl

theorem add_law (a : Addr) (x : Int) (w : World) (hc : w.cell? a = some (.int .i64 x)) (hz : w.frozen? a = false) :
    (callFunc 113 #[.pointer (some a), .int .i64 1]).run Try.prog w = .ok (.value (.int .i64 (wrap64 (x + 1)))) (w.setCell a (.int .i64 (wrap64 (x + 1)))) :=
  run_call_add (P := Try.prog) Try.func113 (by kernel_rfl) (by kernel_rfl) (by kernel_rfl) .i64 (by kernel_rfl) (y := 1) hc hz (by simp [go_sem, wrap64, IntKind.wrap_i64])

set_option maxHeartbeats 1000000 in
theorem use_load_in (b0 b1 b2 p d n : Nat) (D : Nat → Int) (u i x : Int) (w : World) (hA : At w p d n D u) (h0 : 0 ≤ i) (h1 : i < n)
    (ha : w.cell? ⟨b0, 0, none⟩ = some (.pointer (some ⟨p, 0, none⟩))) (hi : w.cell? ⟨b1, 0, none⟩ = some (.int .i64 i)) (hx : w.cell? ⟨b2, 0, none⟩ = some (.int .i64 x)) (hz : w.frozen? ⟨b2, 0, none⟩ = false) (_ : b2 ≠ p) :
    Calls Try.prog 87 #[.pointer (some ⟨p, 0, none⟩), .func (.func 91) #[] #[.pointer (some ⟨b0, 0, none⟩), .pointer (some ⟨b1, 0, none⟩), .pointer (some ⟨b2, 0, none⟩)]] w fun e w' => e = .returned (.int .i64 0) ∧ ∃ w2, Like ((w.alloc (.cells #[.int .i64 0] 47)).setCell ⟨b2, 0, none⟩ (.int .i64 (D i.toNat))) w2 ∧ w' = (w2.setCell ⟨p, 1, none⟩ (.int .i64 (wrap64 (u + 1)))).setCell ⟨w.heap.size, 0, none⟩ (.int .i64 0) := by
  have hmf := mkfunc
  have hal := (Below.refl w.heap.size w).alloc (Nat.le_refl _) (.cells #[.int .i64 0] 47)
  have hA1 := hA.later hal
  have l0 := World.block_lt_of_cell? _ _ ha
  have l1 := World.block_lt_of_cell? _ _ hi
  have l2 := World.block_lt_of_cell? _ _ hx
  have lp := hA.lp
  have ld := hA.ld
  go_enter_defers Try.func87, Try.ntmps87
  go_wp2_with fail
  refine (load1_in b0 b1 b2 p d n D u i x _ hA1 h0 h1 ((hal.cell l0).trans ha) ((hal.cell l1).trans hi) ((hal.cell l2).trans hx) ((hal.frozen l2).trans hz)).mono ?_
  rintro e w2 ⟨rfl, hL⟩
  have c1 : w2.cell? ⟨p, 1, none⟩ = some (.int .i64 u) := by
    rw [hL.cell]
    exact (World.cell?_setCell_other _ _ _ _ (by simp)).trans hA1.uses
  have f1 : w2.frozen? ⟨p, 1, none⟩ = false := by rw [hL.frozen, World.frozen?_setCell]; exact hA1.fp
  have c2 : w2.cell? ⟨w.heap.size, 0, none⟩ = some (.int .i64 0) := by
    rw [hL.cell]
    exact (World.cell?_setCell_other _ _ _ _ (by first | (simp; done) | (simp; omega))).trans (by simp)
  have f2 : w2.frozen? ⟨w.heap.size, 0, none⟩ = false := by rw [hL.frozen, World.frozen?_setCell]; simp
  have hadd := add_law ⟨p, 1, none⟩ u w2 c1 f1
  have hp : p ≠ w.heap.size := by omega
  clear hA hA1 hal
  go_wp2
  refine leaves_cons (f := 105) (args := #[.pointer (some ⟨w.heap.size, 0, none⟩)]) (by simp) (by simp [go_sem]) ?_
  refine (catch_idle ⟨w.heap.size, 0, none⟩ _).mono ?_
  rintro e u' w'' ⟨rfl, rfl, rfl⟩
  have c3 : ((w2.setCell ⟨p, 1, none⟩ (.int .i64 (wrap64 (u + 1)))).setCell ⟨w.heap.size, 0, none⟩ (.int .i64 0)).cell? ⟨w.heap.size, 0, none⟩ = some (.int .i64 0) :=
    World.cell?_setCell_same _ _ _ ((World.cell?_setCell_other _ _ _ _ (by simp)).trans c2)
  simp [Leaves, settle, results, Try.results87, go_sem, c3]
  exact ⟨w2, hL, rfl⟩

set_option maxHeartbeats 1000000 in
theorem use_load_out (b0 b1 b2 p d n : Nat) (D : Nat → Int) (u i x : Int) (w : World) (hA : At w p d n D u) (ho : ¬ (0 ≤ i ∧ i < (n : Int)))
    (ha : w.cell? ⟨b0, 0, none⟩ = some (.pointer (some ⟨p, 0, none⟩))) (hi : w.cell? ⟨b1, 0, none⟩ = some (.int .i64 i)) (hx : w.cell? ⟨b2, 0, none⟩ = some (.int .i64 x)) (hz : w.frozen? ⟨b2, 0, none⟩ = false) (_ : b2 ≠ p) :
    Calls Try.prog 87 #[.pointer (some ⟨p, 0, none⟩), .func (.func 91) #[] #[.pointer (some ⟨b0, 0, none⟩), .pointer (some ⟨b1, 0, none⟩), .pointer (some ⟨b2, 0, none⟩)]] w fun e w' => e = .returned (.int .i64 1) ∧ ∃ w2, Like (w.alloc (.cells #[.int .i64 0] 47)) w2 ∧ w' = w2.setCell ⟨w.heap.size, 0, none⟩ (.int .i64 1) := by
  have hmf := mkfunc
  have hal := (Below.refl w.heap.size w).alloc (Nat.le_refl _) (.cells #[.int .i64 0] 47)
  have hA1 := hA.later hal
  have l0 := World.block_lt_of_cell? _ _ ha
  have l1 := World.block_lt_of_cell? _ _ hi
  have l2 := World.block_lt_of_cell? _ _ hx
  have lp := hA.lp
  have ld := hA.ld
  go_enter_defers Try.func87, Try.ntmps87
  go_wp2_with fail
  refine (load1_out b0 b1 b2 p d n D u i x _ hA1 ho ((hal.cell l0).trans ha) ((hal.cell l1).trans hi) ((hal.cell l2).trans hx) ((hal.frozen l2).trans hz)).mono ?_
  rintro e w2 ⟨⟨pv, rfl⟩, hL⟩
  have c2 : w2.cell? ⟨w.heap.size, 0, none⟩ = some (.int .i64 0) := by rw [hL.cell]; simp
  have f2 : w2.frozen? ⟨w.heap.size, 0, none⟩ = false := by rw [hL.frozen]; simp
  go_wp2
  refine leaves_cons (f := 105) (args := #[.pointer (some ⟨w.heap.size, 0, none⟩)]) (by simp) (by simp [go_sem]) ?_
  refine (catch_panicking ⟨w.heap.size, 0, none⟩ 0 _ pv [] _ c2 f2).mono ?_
  rintro e u' w'' ⟨rfl, rfl, rfl⟩
  have c3 := World.cell?_setCell_same w2 ⟨w.heap.size, 0, none⟩ (.int .i64 1) c2
  simp [Leaves, settle, results, Try.results87, go_sem, c3]
  exact ⟨w2, hL, rfl⟩

set_option maxHeartbeats 1000000 in
theorem use_store_in (b0 b1 b2 p d n : Nat) (D : Nat → Int) (u i x : Int) (w : World) (hA : At w p d n D u) (h0 : 0 ≤ i) (h1 : i < n)
    (ha : w.cell? ⟨b0, 0, none⟩ = some (.pointer (some ⟨p, 0, none⟩))) (hi : w.cell? ⟨b1, 0, none⟩ = some (.int .i64 i)) (hx : w.cell? ⟨b2, 0, none⟩ = some (.int .i64 x)) (_ : b2 ≠ p) :
    Calls Try.prog 87 #[.pointer (some ⟨p, 0, none⟩), .func (.func 88) #[] #[.pointer (some ⟨b2, 0, none⟩), .pointer (some ⟨b0, 0, none⟩), .pointer (some ⟨b1, 0, none⟩)]] w fun e w' => e = .returned (.int .i64 0) ∧ ∃ w2, Like ((w.alloc (.cells #[.int .i64 0] 47)).setCell ⟨d, i.toNat, none⟩ (.int .i64 x)) w2 ∧ w' = (w2.setCell ⟨p, 1, none⟩ (.int .i64 (wrap64 (u + 1)))).setCell ⟨w.heap.size, 0, none⟩ (.int .i64 0) := by
  have hmf := mkfunc
  have hal := (Below.refl w.heap.size w).alloc (Nat.le_refl _) (.cells #[.int .i64 0] 47)
  have hA1 := hA.later hal
  have l0 := World.block_lt_of_cell? _ _ ha
  have l1 := World.block_lt_of_cell? _ _ hi
  have l2 := World.block_lt_of_cell? _ _ hx
  have lp := hA.lp
  have ld := hA.ld
  go_enter_defers Try.func87, Try.ntmps87
  go_wp2_with fail
  refine (store1_in b0 b1 b2 p d n D u i x _ hA1 h0 h1 ((hal.cell l0).trans ha) ((hal.cell l1).trans hi) ((hal.cell l2).trans hx)).mono ?_
  rintro e w2 ⟨rfl, hL⟩
  have c1 : w2.cell? ⟨p, 1, none⟩ = some (.int .i64 u) := by
    rw [hL.cell]
    exact (World.cell?_setCell_other _ _ _ _ (by simp [Ne.symm hA.ne])).trans hA1.uses
  have f1 : w2.frozen? ⟨p, 1, none⟩ = false := by rw [hL.frozen, World.frozen?_setCell]; exact hA1.fp
  have c2 : w2.cell? ⟨w.heap.size, 0, none⟩ = some (.int .i64 0) := by
    rw [hL.cell]
    exact (World.cell?_setCell_other _ _ _ _ (by first | (simp; done) | (simp; omega))).trans (by simp)
  have f2 : w2.frozen? ⟨w.heap.size, 0, none⟩ = false := by rw [hL.frozen, World.frozen?_setCell]; simp
  have hadd := add_law ⟨p, 1, none⟩ u w2 c1 f1
  have hp : p ≠ w.heap.size := by omega
  clear hA hA1 hal
  go_wp2
  refine leaves_cons (f := 105) (args := #[.pointer (some ⟨w.heap.size, 0, none⟩)]) (by simp) (by simp [go_sem]) ?_
  refine (catch_idle ⟨w.heap.size, 0, none⟩ _).mono ?_
  rintro e u' w'' ⟨rfl, rfl, rfl⟩
  have c3 : ((w2.setCell ⟨p, 1, none⟩ (.int .i64 (wrap64 (u + 1)))).setCell ⟨w.heap.size, 0, none⟩ (.int .i64 0)).cell? ⟨w.heap.size, 0, none⟩ = some (.int .i64 0) :=
    World.cell?_setCell_same _ _ _ ((World.cell?_setCell_other _ _ _ _ (by simp)).trans c2)
  simp [Leaves, settle, results, Try.results87, go_sem, c3]
  exact ⟨w2, hL, rfl⟩

set_option maxHeartbeats 1000000 in
theorem use_store_out (b0 b1 b2 p d n : Nat) (D : Nat → Int) (u i x : Int) (w : World) (hA : At w p d n D u) (ho : ¬ (0 ≤ i ∧ i < (n : Int)))
    (ha : w.cell? ⟨b0, 0, none⟩ = some (.pointer (some ⟨p, 0, none⟩))) (hi : w.cell? ⟨b1, 0, none⟩ = some (.int .i64 i)) (hx : w.cell? ⟨b2, 0, none⟩ = some (.int .i64 x)) (_ : b2 ≠ p) :
    Calls Try.prog 87 #[.pointer (some ⟨p, 0, none⟩), .func (.func 88) #[] #[.pointer (some ⟨b2, 0, none⟩), .pointer (some ⟨b0, 0, none⟩), .pointer (some ⟨b1, 0, none⟩)]] w fun e w' => e = .returned (.int .i64 1) ∧ ∃ w2, Like (w.alloc (.cells #[.int .i64 0] 47)) w2 ∧ w' = w2.setCell ⟨w.heap.size, 0, none⟩ (.int .i64 1) := by
  have hmf := mkfunc
  have hal := (Below.refl w.heap.size w).alloc (Nat.le_refl _) (.cells #[.int .i64 0] 47)
  have hA1 := hA.later hal
  have l0 := World.block_lt_of_cell? _ _ ha
  have l1 := World.block_lt_of_cell? _ _ hi
  have l2 := World.block_lt_of_cell? _ _ hx
  have lp := hA.lp
  have ld := hA.ld
  go_enter_defers Try.func87, Try.ntmps87
  go_wp2_with fail
  refine (store1_out b0 b1 b2 p d n D u i x _ hA1 ho ((hal.cell l0).trans ha) ((hal.cell l1).trans hi) ((hal.cell l2).trans hx)).mono ?_
  rintro e w2 ⟨⟨pv, rfl⟩, hL⟩
  have c2 : w2.cell? ⟨w.heap.size, 0, none⟩ = some (.int .i64 0) := by rw [hL.cell]; simp
  have f2 : w2.frozen? ⟨w.heap.size, 0, none⟩ = false := by rw [hL.frozen]; simp
  go_wp2
  refine leaves_cons (f := 105) (args := #[.pointer (some ⟨w.heap.size, 0, none⟩)]) (by simp) (by simp [go_sem]) ?_
  refine (catch_panicking ⟨w.heap.size, 0, none⟩ 0 _ pv [] _ c2 f2).mono ?_
  rintro e u' w'' ⟨rfl, rfl, rfl⟩
  have c3 := World.cell?_setCell_same w2 ⟨w.heap.size, 0, none⟩ (.int .i64 1) c2
  simp [Leaves, settle, results, Try.results87, go_sem, c3]
  exact ⟨w2, hL, rfl⟩

set_option maxHeartbeats 1000000 in
/-- Load, where there is such a place. -/
theorem load_in (p d n : Nat) (D : Nat → Int) (u i : Int) (w : World) (hA : At w p d n D u) (h0 : 0 ≤ i) (h1 : i < n) :
    Calls Try.prog 66 #[.pointer (some ⟨p, 0, none⟩), .int .i64 i] w fun e w' => e = .returned (.tuple #[.int .i64 (D i.toNat), .int .i64 0]) ∧ At w' p d n D (wrap64 (u + 1)) ∧ Apart p d w w' := by
  have hmf := mkfunc
  have lp := hA.lp
  have ld := hA.ld
  have hal := (((Below.refl w.heap.size w).alloc (Nat.le_refl _) (.cells #[.pointer (some ⟨p, 0, none⟩)] 24)).alloc (by simp) (.cells #[.int .i64 i] 3)).alloc (by simp; omega) (.cells #[.int .i64 0] 2)
  have hA1 := hA.later hal
  go_enter Try.func66, Try.ntmps66
  go_wp2_with fail
  refine (use_load_in w.heap.size (w.heap.size + 1) (w.heap.size + 2) p d n D u i 0 (((w.alloc (.cells #[.pointer (some ⟨p, 0, none⟩)] 24)).alloc (.cells #[.int .i64 i] 3)).alloc (.cells #[.int .i64 0] 2)) hA1 h0 h1 (by simp [go_sem]) (by simp [go_sem]) (by simp [go_sem]) (by simp [go_sem]) (by omega)).mono ?_
  rintro e w9 ⟨rfl, w2, hL, hw9⟩
  have hal2 := hal.alloc (by simp; omega) (.cells #[.int .i64 0] 47)
  have hb3 := (hal2.setCell (p := ⟨w.heap.size + 2, 0, none⟩) (by simp) (.int .i64 (D i.toNat))).trans (hL.below _)
  have hA4 := (hA.later hb3).count (wrap64 (u + 1))
  have hq := (Apart.of_below (p := p) (d := d) hb3).trans (Apart.setP p d 1 (.int .i64 (wrap64 (u + 1))) w2)
  have c2 : w2.cell? ⟨w.heap.size + 2, 0, none⟩ = some (.int .i64 (D i.toNat)) := by
    rw [hL.cell]
    exact World.cell?_setCell_same (u := .int .i64 0) _ _ _ (by simp [go_sem])
  have c9 : w9.cell? ⟨w.heap.size + 2, 0, none⟩ = some (.int .i64 (D i.toNat)) := by
    rw [hw9]
    exact (World.cell?_setCell_other _ _ _ _ (by simp)).trans ((World.cell?_setCell_other _ _ _ _ (by first | (simp; done) | (simp; omega))).trans c2)
  have hlast : Below w.heap.size (w2.setCell ⟨p, 1, none⟩ (.int .i64 (wrap64 (u + 1)))) w9 := by
    rw [hw9]
    exact (Below.refl _ _).setCell (by simp; omega) _
  have hA9 := hA4.below hlast lp ld
  have hq9 := hq.then hlast
  clear hw9 hL hlast hq hA4 hA1 hA hal hal2 hb3 c2
  go_wp2
  go_ret2
  exact ⟨rfl, hA9, hq9⟩

set_option maxHeartbeats 1000000 in
/-- Load, where there is no such place. -/
theorem load_out (p d n : Nat) (D : Nat → Int) (u i : Int) (w : World) (hA : At w p d n D u) (ho : ¬ (0 ≤ i ∧ i < (n : Int))) :
    Calls Try.prog 66 #[.pointer (some ⟨p, 0, none⟩), .int .i64 i] w fun e w' => e = .returned (.tuple #[.int .i64 0, .int .i64 1]) ∧ At w' p d n D u ∧ Apart p d w w' := by
  have hmf := mkfunc
  have lp := hA.lp
  have ld := hA.ld
  have hal := (((Below.refl w.heap.size w).alloc (Nat.le_refl _) (.cells #[.pointer (some ⟨p, 0, none⟩)] 24)).alloc (by simp) (.cells #[.int .i64 i] 3)).alloc (by simp; omega) (.cells #[.int .i64 0] 2)
  have hA1 := hA.later hal
  go_enter Try.func66, Try.ntmps66
  go_wp2_with fail
  refine (use_load_out w.heap.size (w.heap.size + 1) (w.heap.size + 2) p d n D u i 0 (((w.alloc (.cells #[.pointer (some ⟨p, 0, none⟩)] 24)).alloc (.cells #[.int .i64 i] 3)).alloc (.cells #[.int .i64 0] 2)) hA1 ho (by simp [go_sem]) (by simp [go_sem]) (by simp [go_sem]) (by simp [go_sem]) (by omega)).mono ?_
  rintro e w9 ⟨rfl, w2, hL, hw9⟩
  have hal2 := hal.alloc (by simp; omega) (.cells #[.int .i64 0] 47)
  have hb3 := hal2.trans (hL.below _)
  have hA4 := hA.later hb3
  have hq := Apart.of_below (p := p) (d := d) hb3
  have c2 : w2.cell? ⟨w.heap.size + 2, 0, none⟩ = some (.int .i64 0) := by
    rw [hL.cell]
    simp [go_sem]
  have c9 : w9.cell? ⟨w.heap.size + 2, 0, none⟩ = some (.int .i64 0) := by
    rw [hw9]
    exact (World.cell?_setCell_other _ _ _ _ (by simp)).trans c2
  have hlast : Below w.heap.size (w2) w9 := by
    rw [hw9]
    exact (Below.refl _ _).setCell (by simp; omega) _
  have hA9 := hA4.below hlast lp ld
  have hq9 := hq.then hlast
  clear hw9 hL hlast hq hA4 hA1 hA hal hal2 hb3 c2
  go_wp2
  go_ret2
  exact ⟨rfl, hA9, hq9⟩

set_option maxHeartbeats 1000000 in
/-- Store, where there is such a place. -/
theorem store_in (p d n : Nat) (D : Nat → Int) (u i x : Int) (w : World) (hA : At w p d n D u) (h0 : 0 ≤ i) (h1 : i < n) :
    Calls Try.prog 59 #[.pointer (some ⟨p, 0, none⟩), .int .i64 i, .int .i64 x] w fun e w' => e = .returned (.int .i64 0) ∧ At w' p d n (fun k => if k = i.toNat then x else D k) (wrap64 (u + 1)) ∧ Apart p d w w' := by
  have hmf := mkfunc
  have lp := hA.lp
  have ld := hA.ld
  have hal := (((Below.refl w.heap.size w).alloc (Nat.le_refl _) (.cells #[.pointer (some ⟨p, 0, none⟩)] 24)).alloc (by simp) (.cells #[.int .i64 i] 3)).alloc (by simp; omega) (.cells #[.int .i64 x] 2)
  have hA1 := hA.later hal
  go_enter Try.func59, Try.ntmps59
  go_wp2_with fail
  refine (use_store_in w.heap.size (w.heap.size + 1) (w.heap.size + 2) p d n D u i x (((w.alloc (.cells #[.pointer (some ⟨p, 0, none⟩)] 24)).alloc (.cells #[.int .i64 i] 3)).alloc (.cells #[.int .i64 x] 2)) hA1 h0 h1 (by simp [go_sem]) (by simp [go_sem]) (by simp [go_sem]) (by omega)).mono ?_
  rintro e w9 ⟨rfl, w2, hL, hw9⟩
  have hal2 := hal.alloc (by simp; omega) (.cells #[.int .i64 0] 47)
  have hA3 := ((hA.later hal2).put i.toNat x (by omega)).like hL
  have hA4 := hA3.count (wrap64 (u + 1))
  have hq := (((Apart.of_below (p := p) (d := d) hal2).trans (Apart.setD p d i.toNat (.int .i64 x) _)).then (hL.below _)).trans (Apart.setP p d 1 (.int .i64 (wrap64 (u + 1))) w2)
  have hlast : Below w.heap.size (w2.setCell ⟨p, 1, none⟩ (.int .i64 (wrap64 (u + 1)))) w9 := by
    rw [hw9]
    exact (Below.refl _ _).setCell (by simp; omega) _
  have hA9 := hA4.below hlast lp ld
  have hq9 := hq.then hlast
  clear hw9 hL hlast hq hA4 hA1 hA hal hal2 hA3
  go_wp2
  go_ret
  exact ⟨rfl, hA9, hq9⟩

set_option maxHeartbeats 1000000 in
/-- Store, where there is no such place. -/
theorem store_out (p d n : Nat) (D : Nat → Int) (u i x : Int) (w : World) (hA : At w p d n D u) (ho : ¬ (0 ≤ i ∧ i < (n : Int))) :
    Calls Try.prog 59 #[.pointer (some ⟨p, 0, none⟩), .int .i64 i, .int .i64 x] w fun e w' => e = .returned (.int .i64 1) ∧ At w' p d n D u ∧ Apart p d w w' := by
  have hmf := mkfunc
  have lp := hA.lp
  have ld := hA.ld
  have hal := (((Below.refl w.heap.size w).alloc (Nat.le_refl _) (.cells #[.pointer (some ⟨p, 0, none⟩)] 24)).alloc (by simp) (.cells #[.int .i64 i] 3)).alloc (by simp; omega) (.cells #[.int .i64 x] 2)
  have hA1 := hA.later hal
  go_enter Try.func59, Try.ntmps59
  go_wp2_with fail
  refine (use_store_out w.heap.size (w.heap.size + 1) (w.heap.size + 2) p d n D u i x (((w.alloc (.cells #[.pointer (some ⟨p, 0, none⟩)] 24)).alloc (.cells #[.int .i64 i] 3)).alloc (.cells #[.int .i64 x] 2)) hA1 ho (by simp [go_sem]) (by simp [go_sem]) (by simp [go_sem]) (by omega)).mono ?_
  rintro e w9 ⟨rfl, w2, hL, hw9⟩
  have hal2 := hal.alloc (by simp; omega) (.cells #[.int .i64 0] 47)
  have hb3 := hal2.trans (hL.below _)
  have hA4 := hA.later hb3
  have hq := Apart.of_below (p := p) (d := d) hb3
  have hlast : Below w.heap.size (w2) w9 := by
    rw [hw9]
    exact (Below.refl _ _).setCell (by simp; omega) _
  have hA9 := hA4.below hlast lp ld
  have hq9 := hq.then hlast
  clear hw9 hL hlast hq hA4 hA1 hA hal hal2 hb3
  go_wp2
  go_ret
  exact ⟨rfl, hA9, hq9⟩

theorem len_any (p d n : Nat) (D : Nat → Int) (u : Int) (w : World) (hA : At w p d n D u) :
    Calls Try.prog 69 #[.pointer (some ⟨p, 0, none⟩)] w fun e w' => e = .returned (.int .i64 n) ∧ w' = w := by
  have hw := hA.words
  go_enter Try.func69, Try.ntmps69
  go_wp2
  go_ret
  exact ⟨rfl, rfl⟩

theorem Try.info_i64 : (Try.prog.info? 2).map (fun i => (i.zero, i.size, i.bytes)) = some (some (.int .i64 0), 1, 8) := by kernel_rfl

theorem made_int (n : Nat) : madeCells #[.int .i64 0] n = (List.replicate n (Value.int .i64 0)).toArray := by
  unfold madeCells
  apply Array.ext
  · simp
  · intro i h1 h2
    simp [Nat.mod_one]

set_option maxHeartbeats 1000000 in
theorem new_in (n : Int) (h0 : 1 ≤ n) (h1 : n ≤ 65536) (w : World) :
    Calls Try.prog 39 #[.int .i64 n] w fun e w' => ∃ p d, e = .returned (.tuple #[.pointer (some ⟨p, 0, none⟩), .int .i64 0]) ∧ At w' p d n.toNat (fun _ => 0) 0 ∧ Below w.heap.size w w' ∧ w.heap.size ≤ p ∧ w.heap.size ≤ d := by
  obtain ⟨i0, hi, hz0, hz1, hz2⟩ := info_parts Try.info_i64
  have hmk := run_make (P := Try.prog) w 132 2 i0 (.int .i64 0) Try.underlying132 hi hz0 .i64 .i64 n n (by omega) (Int.le_refl _) (by rw [hz2]; omega) (by omega)
  have g1 : ¬ n < 1 := by omega
  have g2 : ¬ n > 65536 := by omega
  go_enter Try.func39, Try.ntmps39
  go_wp2
  have e1 : (w.alloc (.cells (madeCells #[.int .i64 0] n.toNat) 2)).heap.size = w.heap.size + 1 := by simp
  have hb : Below w.heap.size w ((w.alloc (.cells (madeCells #[.int .i64 0] n.toNat) 2)).alloc (.cells #[.slice (some ⟨w.heap.size, 0, none⟩) n.toNat n.toNat, .int .i64 0] 139)) :=
    ((Below.refl _ _).alloc (Nat.le_refl _) _).alloc (by simp) _
  have hA : At ((w.alloc (.cells (madeCells #[.int .i64 0] n.toNat) 2)).alloc (.cells #[.slice (some ⟨w.heap.size, 0, none⟩) n.toNat n.toNat, .int .i64 0] 139)) (w.heap.size + 1) w.heap.size n.toNat (fun _ => 0) 0 := by
    refine ⟨by simp [go_sem], by simp [go_sem], fun k hk => ?_, by simp [go_sem], fun k hk => by simp [go_sem], by simp, by simp, by simp; omega⟩
    rw [made_int]
    simp [go_sem, hk]
  generalize ((w.alloc (.cells (madeCells #[.int .i64 0] n.toNat) 2)).alloc (.cells #[.slice (some ⟨w.heap.size, 0, none⟩) n.toNat n.toNat, .int .i64 0] 139)) = w9 at *
  go_ret2
  exact ⟨_, rfl, _, hA, hb, by omega, Nat.le_refl _⟩

end Go.Proofs.Ytbjlpmjalidfkaa
