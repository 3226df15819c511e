import Derived.Test.YthliahaopelooaaChecked
import Derived.WalkKit
import Derived.Defers
import Derived.Recover
import Derived.RegionDies
import Derived.Laws.PanicsMore
import Derived.Below
import Derived.Laws.LoneSync
import Derived.Laws.MakeOwn
import Derived.Lib.SliceRun
import Derived.Deep.RegionHeld
import Derived.Lib.Hide
import Derived.BigQuiet
import Derived.Deep.QuietTactic
/- The arena's uses, one by one: what the function that a use hands over does where there is such a place, and where there is none; what the deferred function does; what a use is told. -/
namespace Go.Proofs.Ythliahaopelooaa
open Go.RowKit
/-- The same memory, the same streams. -/
structure Like (w w' : World) : Prop where
  heap : w'.heap = w.heap
  os : w'.os = w.os
  tape : w'.tape = w.tape
  output : w'.output = w.output
theorem Like.refl (w : World) : Like w w := ⟨rfl, rfl, rfl, rfl⟩
theorem Like.cell {w w' : World} (h : Like w w') (a : Addr) : w'.cell? a = w.cell? a := by unfold World.cell?; rw [h.heap]
theorem Like.frozen {w w' : World} (h : Like w w') (a : Addr) : w'.frozen? a = w.frozen? a := by unfold World.frozen?; rw [h.heap]
theorem Like.below {w w' : World} (h : Like w w') (B : Nat) : Below B w w' := ⟨h.os, h.tape, h.output, by rw [h.heap]; exact Nat.le_refl _, fun k _ => by rw [h.heap]⟩
/-- Nothing that was there has turned but in two blocks. -/
structure Apart (p d : Nat) (w w' : World) : Prop where
  os : w'.os = w.os
  tape : w'.tape = w.tape
  output : w'.output = w.output
  size : w.heap.size ≤ w'.heap.size
  block : ∀ k, k < w.heap.size → k ≠ p → k ≠ d → w'.heap[k]? = w.heap[k]?
theorem Apart.refl (p d : Nat) (w : World) : Apart p d w w := ⟨rfl, rfl, rfl, Nat.le_refl _, fun _ _ _ _ => rfl⟩
theorem Apart.trans {p d : Nat} {a b c : World} (h : Apart p d a b) (k : Apart p d b c) : Apart p d a c :=
  ⟨k.os.trans h.os, k.tape.trans h.tape, k.output.trans h.output, Nat.le_trans h.size k.size, fun i hi h1 h2 => (k.block i (Nat.lt_of_lt_of_le hi h.size) h1 h2).trans (h.block i hi h1 h2)⟩
theorem Apart.of_below {p d : Nat} {w w' : World} (h : Below w.heap.size w w') : Apart p d w w' := ⟨h.os, h.tape, h.output, h.size, fun k hk _ _ => h.block k hk⟩
theorem Apart.setP (p d i : Nat) (v : Value) (w : World) : Apart p d w (w.setCell ⟨p, i, none⟩ v) :=
  ⟨rfl, rfl, rfl, by simp [World.setCell], fun k _ h _ => Below.heap_setCell _ _ _ _ h⟩
theorem Apart.setD (p d i : Nat) (v : Value) (w : World) : Apart p d w (w.setCell ⟨d, i, none⟩ v) :=
  ⟨rfl, rfl, rfl, by simp [World.setCell], fun k _ _ h => Below.heap_setCell _ _ _ _ h⟩
theorem Apart.below {p d B : Nat} {w w' : World} (h : Apart p d w w') (hp : B ≤ p) (hd : B ≤ d) (hB : B ≤ w.heap.size) : Below B w w' :=
  ⟨h.os, h.tape, h.output, h.size, fun k hk => h.block k (by omega) (by omega) (by omega)⟩
theorem Apart.then {p d : Nat} {a b c : World} (h : Apart p d a b) (k : Below a.heap.size b c) : Apart p d a c :=
  ⟨k.os.trans h.os, k.tape.trans h.tape, k.output.trans h.output, Nat.le_trans h.size k.size, fun i hi h1 h2 => (k.block i hi).trans (h.block i hi h1 h2)⟩
theorem Apart.cell {p d : Nat} {w w' : World} (h : Apart p d w w') {a : Addr} {v : Value} (hc : w.cell? a = some v) (h1 : a.block ≠ p) (h2 : a.block ≠ d) : w'.cell? a = some v :=
  (World.cell?_of_block (w := w) (h.block a.block (World.block_lt_of_cell? _ _ hc) h1 h2)).trans hc
theorem Apart.frozen {p d : Nat} {w w' : World} (h : Apart p d w w') {a : Addr} (hl : a.block < w.heap.size) (h1 : a.block ≠ p) (h2 : a.block ≠ d) : w'.frozen? a = w.frozen? a :=
  World.frozen?_of_block (w := w) (h.block a.block hl h1 h2)
/-- AN ARENA AS IT LIES: the struct's block, its words' block, how many words, what they are, how many uses. -/
structure At (w : World) (p d n : Nat) (D : Nat → Int) (u : Int) : Prop where
  words : w.cell? ⟨p, 0, none⟩ = some (.slice (some ⟨d, 0, none⟩) n n)
  uses : w.cell? ⟨p, 1, none⟩ = some (.int .i64 u)
  data : ∀ k, k < n → w.cell? ⟨d, k, none⟩ = some (.int .i64 (D k))
  fp : w.frozen? ⟨p, 1, none⟩ = false
  fd : ∀ k, k < n → w.frozen? ⟨d, k, none⟩ = false
  ne : p ≠ d
  lp : p < w.heap.size
  ld : d < w.heap.size
section
variable {w w' : World} {p d n : Nat} {D : Nat → Int} {u : Int}
theorem At.move (h : At w p d n D u) (hp : w'.heap[p]? = w.heap[p]?) (hd : w'.heap[d]? = w.heap[d]?) (hs : w.heap.size ≤ w'.heap.size) : At w' p d n D u :=
  ⟨(World.cell?_of_block (w := w) hp).trans h.words, (World.cell?_of_block (w := w) hp).trans h.uses, fun k hk => (World.cell?_of_block (w := w) hd).trans (h.data k hk), (World.frozen?_of_block (w := w) hp).trans h.fp,
    fun k hk => (World.frozen?_of_block (w := w) hd).trans (h.fd k hk), h.ne, Nat.lt_of_lt_of_le h.lp hs, Nat.lt_of_lt_of_le h.ld hs⟩
theorem At.below (h : At w p d n D u) {B : Nat} (hb : Below B w w') (hp : p < B) (hd : d < B) : At w' p d n D u := h.move (hb.block p hp) (hb.block d hd) hb.size
theorem At.later (h : At w p d n D u) (hb : Below w.heap.size w w') : At w' p d n D u := h.below hb h.lp h.ld
theorem At.apart (h : At w p d n D u) {p' d' : Nat} (hb : Apart p' d' w w') (h1 : p ≠ p') (h2 : p ≠ d') (h3 : d ≠ p') (h4 : d ≠ d') : At w' p d n D u :=
  h.move (hb.block p h.lp h1 h2) (hb.block d h.ld h3 h4) hb.size
theorem At.like (h : At w p d n D u) (hl : Like w w') : At w' p d n D u := h.move (by rw [hl.heap]) (by rw [hl.heap]) (by rw [hl.heap]; exact Nat.le_refl _)
theorem At.count (h : At w p d n D u) (v : Int) : At (w.setCell ⟨p, 1, none⟩ (.int .i64 v)) p d n D v :=
  ⟨(World.cell?_setCell_other _ _ _ _ (by simp)).trans h.words, World.cell?_setCell_same _ _ _ h.uses, fun k hk => (World.cell?_setCell_other _ _ _ _ (by simp [h.ne])).trans (h.data k hk),
    (World.frozen?_setCell _ _ _ _).trans h.fp, fun k hk => (World.frozen?_setCell _ _ _ _).trans (h.fd k hk), h.ne, by simpa [World.setCell] using h.lp, by simpa [World.setCell] using h.ld⟩
theorem At.put (h : At w p d n D u) (i : Nat) (v : Int) (hi : i < n) : At (w.setCell ⟨d, i, none⟩ (.int .i64 v)) p d n (fun k => if k = i then v else D k) u := by
  refine ⟨(World.cell?_setCell_other _ _ _ _ (by simp [Ne.symm h.ne])).trans h.words, (World.cell?_setCell_other _ _ _ _ (by simp [Ne.symm h.ne])).trans h.uses, fun k hk => ?_,
    (World.frozen?_setCell _ _ _ _).trans h.fp, fun k hk => (World.frozen?_setCell _ _ _ _).trans (h.fd k hk), h.ne, by simpa [World.setCell] using h.lp, by simpa [World.setCell] using h.ld⟩
  by_cases e : k = i
  · subst e; simp only [if_true]; exact World.cell?_setCell_same _ _ _ (h.data k hk)
  · simp only [e, if_false]; exact (World.cell?_setCell_other _ _ _ _ (by simp)).trans (h.data k hk)
end
/-- THE DEFERRED FUNCTION, of a frame that returns: nothing. -/
theorem catch_idle (p : Addr) (w : World) :
    CallsD Try.prog 88 #[.pointer (some p)] .returning w fun e u' w' => e = .returned (.tuple #[]) ∧ u' = .returning ∧ w' = w := by
  refine callsD_of_wpS Try.func88 rfl fun c₀ cs hu => ?_
  apply wpS_seq
  apply wpS_region
  simp [wpOpsS, go_sem, recoverD, hu, Try.ntmps88, Exit.thenS]
  refine wpS_cond (t := false) (by simp [Act.eval, Array.replicate]) ?_
  simp only [Bool.false_eq_true, if_false]
  refine wpS_of_wp (wp_skip ?_)
  cases c₀
  simp_all [bodyPostS, results, Try.results88]
/-- The panic of an index out of range. -/
def outPanic (e : Ending) : Prop := ∃ pv, e = .panicked [{ v := .iface Try.prog.rt.boundsError pv, recovered := false }]
theorem Like.trans {a b c : World} (h : Like a b) (k : Like b c) : Like a c := ⟨k.heap.trans h.heap, k.os.trans h.os, k.tape.trans h.tape, k.output.trans h.output⟩
set_option maxHeartbeats 1000000 in
/-- Load's inner function, where there is such a place. -/
theorem load1_in (b0 b1 b2 p d n : Nat) (D : Nat → Int) (u i x : Int) (w : World) (hA : At w p d n D u) (h0 : 0 ≤ i) (h1 : i < n)
    (ha : w.cell? ⟨b0, 0, none⟩ = some (.pointer (some ⟨p, 0, none⟩))) (hi : w.cell? ⟨b1, 0, none⟩ = some (.int .i64 i)) (hx : w.cell? ⟨b2, 0, none⟩ = some (.int .i64 x)) (hz : w.frozen? ⟨b2, 0, none⟩ = false) :
    Calls Try.prog 70 #[.pointer (some ⟨b0, 0, none⟩), .pointer (some ⟨b1, 0, none⟩), .pointer (some ⟨b2, 0, none⟩)] w fun e w' => e = .returned (.tuple #[]) ∧ Like (w.setCell ⟨b2, 0, none⟩ (.int .i64 (D i.toNat))) w' := by
  have hb : 0 ≤ i ∧ i < (n : Int) := ⟨h0, h1⟩
  have hw := hA.words
  have hy := hA.data i.toNat (by omega)
  have hfd := hA.fd i.toNat (by omega)
  clear hA
  go_enter Try.func70, Try.ntmps70
  go_wp2
  go_region
  all_goals go_wp2
  all_goals go_end0
  all_goals exact ⟨rfl, ⟨rfl, rfl, rfl, rfl⟩⟩
set_option maxHeartbeats 1000000 in
/-- Store's inner function, where there is such a place. -/
theorem store1_in (b0 b1 b2 p d n : Nat) (D : Nat → Int) (u i x : Int) (w : World) (hA : At w p d n D u) (h0 : 0 ≤ i) (h1 : i < n)
    (ha : w.cell? ⟨b0, 0, none⟩ = some (.pointer (some ⟨p, 0, none⟩))) (hi : w.cell? ⟨b1, 0, none⟩ = some (.int .i64 i)) (hx : w.cell? ⟨b2, 0, none⟩ = some (.int .i64 x)) :
    Calls Try.prog 78 #[.pointer (some ⟨b2, 0, none⟩), .pointer (some ⟨b0, 0, none⟩), .pointer (some ⟨b1, 0, none⟩)] w fun e w' => e = .returned (.tuple #[]) ∧ Like (w.setCell ⟨d, i.toNat, none⟩ (.int .i64 x)) w' := by
  have hb : 0 ≤ i ∧ i < (n : Int) := ⟨h0, h1⟩
  have hw := hA.words
  have hy := hA.data i.toNat (by omega)
  have hfd := hA.fd i.toNat (by omega)
  clear hA
  go_enter Try.func78, Try.ntmps78
  go_wp2
  go_region
  all_goals go_wp2
  all_goals go_end0
  all_goals exact ⟨rfl, ⟨rfl, rfl, rfl, rfl⟩⟩
end Go.Proofs.Ythliahaopelooaa
/- The arena's calls, as they lie: a new one, a use, how many there were, all words. -/
namespace Go.Proofs.Ythliahaopelooaa
open Go.RowKit
theorem mkfunc (fn : Fn) (first cap : Array Value) (w : World) : (Instr.makeFunc fn first cap).run Try.prog w = .ok (.func fn first cap) w := rfl
theorem add_law (a : Addr) (x : Int) (w : World) (hc : w.cell? a = some (.int .i64 x)) (hz : w.frozen? a = false) :
    (callFunc 99 #[.pointer (some a), .int .i64 1]).run Try.prog w = .ok (.value (.int .i64 (wrap64 (x + 1)))) (w.setCell a (.int .i64 (wrap64 (x + 1)))) :=
  run_call_add (P := Try.prog) Try.func99 (by kernel_rfl) (by kernel_rfl) (by kernel_rfl) .i64 (by kernel_rfl) (y := 1) hc hz (by simp [go_sem, wrap64, IntKind.wrap_i64])
set_option maxHeartbeats 1000000 in
theorem use_load_in (b0 b1 b2 p d n : Nat) (D : Nat → Int) (u i x : Int) (w : World) (hA : At w p d n D u) (h0 : 0 ≤ i) (h1 : i < n)
    (ha : w.cell? ⟨b0, 0, none⟩ = some (.pointer (some ⟨p, 0, none⟩))) (hi : w.cell? ⟨b1, 0, none⟩ = some (.int .i64 i)) (hx : w.cell? ⟨b2, 0, none⟩ = some (.int .i64 x)) (hz : w.frozen? ⟨b2, 0, none⟩ = false) (_ : b2 ≠ p) :
    Calls Try.prog 69 #[.pointer (some ⟨p, 0, none⟩), .func (.func 70) #[] #[.pointer (some ⟨b0, 0, none⟩), .pointer (some ⟨b1, 0, none⟩), .pointer (some ⟨b2, 0, none⟩)]] w fun e w' => e = .returned (.int .i64 0) ∧ ∃ w2, Like ((w.alloc (.cells #[.int .i64 0] 34)).setCell ⟨b2, 0, none⟩ (.int .i64 (D i.toNat))) w2 ∧ w' = (w2.setCell ⟨p, 1, none⟩ (.int .i64 (wrap64 (u + 1)))).setCell ⟨w.heap.size, 0, none⟩ (.int .i64 0) := by
  have hmf := mkfunc
  have hal := (Below.refl w.heap.size w).alloc (Nat.le_refl _) (.cells #[.int .i64 0] 34)
  have hA1 := hA.later hal
  have l0 := World.block_lt_of_cell? _ _ ha
  have l1 := World.block_lt_of_cell? _ _ hi
  have l2 := World.block_lt_of_cell? _ _ hx
  have lp := hA.lp
  have ld := hA.ld
  go_enter_defers Try.func69, Try.ntmps69
  go_wp2_with fail
  refine (load1_in b0 b1 b2 p d n D u i x _ hA1 h0 h1 ((hal.cell l0).trans ha) ((hal.cell l1).trans hi) ((hal.cell l2).trans hx) ((hal.frozen l2).trans hz)).mono ?_
  rintro e w2 ⟨rfl, hL⟩
  have c1 : w2.cell? ⟨p, 1, none⟩ = some (.int .i64 u) := by
    rw [hL.cell]
    exact (World.cell?_setCell_other _ _ _ _ (by simp)).trans hA1.uses
  have f1 : w2.frozen? ⟨p, 1, none⟩ = false := by rw [hL.frozen, World.frozen?_setCell]; exact hA1.fp
  have c2 : w2.cell? ⟨w.heap.size, 0, none⟩ = some (.int .i64 0) := by
    rw [hL.cell]
    exact (World.cell?_setCell_other _ _ _ _ (by first | (simp; done) | (simp; omega))).trans (by simp)
  have f2 : w2.frozen? ⟨w.heap.size, 0, none⟩ = false := by rw [hL.frozen, World.frozen?_setCell]; simp
  have hadd := add_law ⟨p, 1, none⟩ u w2 c1 f1
  have hp : p ≠ w.heap.size := by omega
  clear hA hA1 hal
  go_wp2
  refine leaves_cons (f := 88) (args := #[.pointer (some ⟨w.heap.size, 0, none⟩)]) (by simp) (by simp [go_sem]) ?_
  refine (catch_idle ⟨w.heap.size, 0, none⟩ _).mono ?_
  rintro e u' w'' ⟨rfl, rfl, rfl⟩
  have c3 : ((w2.setCell ⟨p, 1, none⟩ (.int .i64 (wrap64 (u + 1)))).setCell ⟨w.heap.size, 0, none⟩ (.int .i64 0)).cell? ⟨w.heap.size, 0, none⟩ = some (.int .i64 0) :=
    World.cell?_setCell_same _ _ _ ((World.cell?_setCell_other _ _ _ _ (by simp)).trans c2)
  simp [Leaves, settle, results, Try.results69, go_sem, c3]
  exact ⟨w2, hL, rfl⟩
set_option maxHeartbeats 1000000 in
theorem use_store_in (b0 b1 b2 p d n : Nat) (D : Nat → Int) (u i x : Int) (w : World) (hA : At w p d n D u) (h0 : 0 ≤ i) (h1 : i < n)
    (ha : w.cell? ⟨b0, 0, none⟩ = some (.pointer (some ⟨p, 0, none⟩))) (hi : w.cell? ⟨b1, 0, none⟩ = some (.int .i64 i)) (hx : w.cell? ⟨b2, 0, none⟩ = some (.int .i64 x)) (_ : b2 ≠ p) :
    Calls Try.prog 69 #[.pointer (some ⟨p, 0, none⟩), .func (.func 78) #[] #[.pointer (some ⟨b2, 0, none⟩), .pointer (some ⟨b0, 0, none⟩), .pointer (some ⟨b1, 0, none⟩)]] w fun e w' => e = .returned (.int .i64 0) ∧ ∃ w2, Like ((w.alloc (.cells #[.int .i64 0] 34)).setCell ⟨d, i.toNat, none⟩ (.int .i64 x)) w2 ∧ w' = (w2.setCell ⟨p, 1, none⟩ (.int .i64 (wrap64 (u + 1)))).setCell ⟨w.heap.size, 0, none⟩ (.int .i64 0) := by
  have hmf := mkfunc
  have hal := (Below.refl w.heap.size w).alloc (Nat.le_refl _) (.cells #[.int .i64 0] 34)
  have hA1 := hA.later hal
  have l0 := World.block_lt_of_cell? _ _ ha
  have l1 := World.block_lt_of_cell? _ _ hi
  have l2 := World.block_lt_of_cell? _ _ hx
  have lp := hA.lp
  have ld := hA.ld
  go_enter_defers Try.func69, Try.ntmps69
  go_wp2_with fail
  refine (store1_in b0 b1 b2 p d n D u i x _ hA1 h0 h1 ((hal.cell l0).trans ha) ((hal.cell l1).trans hi) ((hal.cell l2).trans hx)).mono ?_
  rintro e w2 ⟨rfl, hL⟩
  have c1 : w2.cell? ⟨p, 1, none⟩ = some (.int .i64 u) := by
    rw [hL.cell]
    exact (World.cell?_setCell_other _ _ _ _ (by simp [Ne.symm hA.ne])).trans hA1.uses
  have f1 : w2.frozen? ⟨p, 1, none⟩ = false := by rw [hL.frozen, World.frozen?_setCell]; exact hA1.fp
  have c2 : w2.cell? ⟨w.heap.size, 0, none⟩ = some (.int .i64 0) := by
    rw [hL.cell]
    exact (World.cell?_setCell_other _ _ _ _ (by first | (simp; done) | (simp; omega))).trans (by simp)
  have f2 : w2.frozen? ⟨w.heap.size, 0, none⟩ = false := by rw [hL.frozen, World.frozen?_setCell]; simp
  have hadd := add_law ⟨p, 1, none⟩ u w2 c1 f1
  have hp : p ≠ w.heap.size := by omega
  clear hA hA1 hal
  go_wp2
  refine leaves_cons (f := 88) (args := #[.pointer (some ⟨w.heap.size, 0, none⟩)]) (by simp) (by simp [go_sem]) ?_
  refine (catch_idle ⟨w.heap.size, 0, none⟩ _).mono ?_
  rintro e u' w'' ⟨rfl, rfl, rfl⟩
  have c3 : ((w2.setCell ⟨p, 1, none⟩ (.int .i64 (wrap64 (u + 1)))).setCell ⟨w.heap.size, 0, none⟩ (.int .i64 0)).cell? ⟨w.heap.size, 0, none⟩ = some (.int .i64 0) :=
    World.cell?_setCell_same _ _ _ ((World.cell?_setCell_other _ _ _ _ (by simp)).trans c2)
  simp [Leaves, settle, results, Try.results69, go_sem, c3]
  exact ⟨w2, hL, rfl⟩
set_option maxHeartbeats 1000000 in
/-- Load, where there is such a place. -/
theorem load_in (p d n : Nat) (D : Nat → Int) (u i : Int) (w : World) (hA : At w p d n D u) (h0 : 0 ≤ i) (h1 : i < n) :
    Calls Try.prog 45 #[.pointer (some ⟨p, 0, none⟩), .int .i64 i] w fun e w' => e = .returned (.tuple #[.int .i64 (D i.toNat), .int .i64 0]) ∧ At w' p d n D (wrap64 (u + 1)) ∧ Apart p d w w' := by
  have hmf := mkfunc
  have lp := hA.lp
  have ld := hA.ld
  have hal := (((Below.refl w.heap.size w).alloc (Nat.le_refl _) (.cells #[.pointer (some ⟨p, 0, none⟩)] 57)).alloc (by simp) (.cells #[.int .i64 i] 3)).alloc (by simp; omega) (.cells #[.int .i64 0] 2)
  have hA1 := hA.later hal
  go_enter Try.func45, Try.ntmps45
  go_wp2_with fail
  refine (use_load_in w.heap.size (w.heap.size + 1) (w.heap.size + 2) p d n D u i 0 (((w.alloc (.cells #[.pointer (some ⟨p, 0, none⟩)] 57)).alloc (.cells #[.int .i64 i] 3)).alloc (.cells #[.int .i64 0] 2)) hA1 h0 h1 (by simp [go_sem]) (by simp [go_sem]) (by simp [go_sem]) (by simp [go_sem]) (by omega)).mono ?_
  rintro e w9 ⟨rfl, w2, hL, hw9⟩
  have hal2 := hal.alloc (by simp; omega) (.cells #[.int .i64 0] 34)
  have hb3 := (hal2.setCell (p := ⟨w.heap.size + 2, 0, none⟩) (by simp) (.int .i64 (D i.toNat))).trans (hL.below _)
  have hA4 := (hA.later hb3).count (wrap64 (u + 1))
  have hq := (Apart.of_below (p := p) (d := d) hb3).trans (Apart.setP p d 1 (.int .i64 (wrap64 (u + 1))) w2)
  have c2 : w2.cell? ⟨w.heap.size + 2, 0, none⟩ = some (.int .i64 (D i.toNat)) := by
    rw [hL.cell]
    exact World.cell?_setCell_same (u := .int .i64 0) _ _ _ (by simp [go_sem])
  have c9 : w9.cell? ⟨w.heap.size + 2, 0, none⟩ = some (.int .i64 (D i.toNat)) := by
    rw [hw9]
    exact (World.cell?_setCell_other _ _ _ _ (by simp)).trans ((World.cell?_setCell_other _ _ _ _ (by first | (simp; done) | (simp; omega))).trans c2)
  have hlast : Below w.heap.size (w2.setCell ⟨p, 1, none⟩ (.int .i64 (wrap64 (u + 1)))) w9 := by
    rw [hw9]
    exact (Below.refl _ _).setCell (by simp; omega) _
  have hA9 := hA4.below hlast lp ld
  have hq9 := hq.then hlast
  clear hw9 hL hlast hq hA4 hA1 hA hal hal2 hb3 c2
  go_wp2
  go_ret2
  exact ⟨rfl, hA9, hq9⟩
set_option maxHeartbeats 1000000 in
/-- Store, where there is such a place. -/
theorem store_in (p d n : Nat) (D : Nat → Int) (u i x : Int) (w : World) (hA : At w p d n D u) (h0 : 0 ≤ i) (h1 : i < n) :
    Calls Try.prog 52 #[.pointer (some ⟨p, 0, none⟩), .int .i64 i, .int .i64 x] w fun e w' => e = .returned (.int .i64 0) ∧ At w' p d n (fun k => if k = i.toNat then x else D k) (wrap64 (u + 1)) ∧ Apart p d w w' := by
  have hmf := mkfunc
  have lp := hA.lp
  have ld := hA.ld
  have hal := (((Below.refl w.heap.size w).alloc (Nat.le_refl _) (.cells #[.pointer (some ⟨p, 0, none⟩)] 57)).alloc (by simp) (.cells #[.int .i64 i] 3)).alloc (by simp; omega) (.cells #[.int .i64 x] 2)
  have hA1 := hA.later hal
  go_enter Try.func52, Try.ntmps52
  go_wp2_with fail
  refine (use_store_in w.heap.size (w.heap.size + 1) (w.heap.size + 2) p d n D u i x (((w.alloc (.cells #[.pointer (some ⟨p, 0, none⟩)] 57)).alloc (.cells #[.int .i64 i] 3)).alloc (.cells #[.int .i64 x] 2)) hA1 h0 h1 (by simp [go_sem]) (by simp [go_sem]) (by simp [go_sem]) (by omega)).mono ?_
  rintro e w9 ⟨rfl, w2, hL, hw9⟩
  have hal2 := hal.alloc (by simp; omega) (.cells #[.int .i64 0] 34)
  have hA3 := ((hA.later hal2).put i.toNat x (by omega)).like hL
  have hA4 := hA3.count (wrap64 (u + 1))
  have hq := (((Apart.of_below (p := p) (d := d) hal2).trans (Apart.setD p d i.toNat (.int .i64 x) _)).then (hL.below _)).trans (Apart.setP p d 1 (.int .i64 (wrap64 (u + 1))) w2)
  have hlast : Below w.heap.size (w2.setCell ⟨p, 1, none⟩ (.int .i64 (wrap64 (u + 1)))) w9 := by
    rw [hw9]
    exact (Below.refl _ _).setCell (by simp; omega) _
  have hA9 := hA4.below hlast lp ld
  have hq9 := hq.then hlast
  clear hw9 hL hlast hq hA4 hA1 hA hal hal2 hA3
  go_wp2
  go_ret
  exact ⟨rfl, hA9, hq9⟩
theorem len_any (p d n : Nat) (D : Nat → Int) (u : Int) (w : World) (hA : At w p d n D u) :
    Calls Try.prog 101 #[.pointer (some ⟨p, 0, none⟩)] w fun e w' => e = .returned (.int .i64 n) ∧ w' = w := by
  have hw := hA.words
  go_enter Try.func101, Try.ntmps101
  go_wp2
  go_ret
  exact ⟨rfl, rfl⟩
theorem Try.info_i64 : (Try.prog.info? 2).map (fun i => (i.zero, i.size, i.bytes)) = some (some (.int .i64 0), 1, 8) := by kernel_rfl
theorem made_int (n : Nat) : madeCells #[.int .i64 0] n = (List.replicate n (Value.int .i64 0)).toArray := by
  unfold madeCells
  apply Array.ext
  · simp
  · intro i h1 h2
    simp [Nat.mod_one]
set_option maxHeartbeats 1000000 in
theorem new_in (n : Int) (h0 : 1 ≤ n) (h1 : n ≤ 65536) (w : World) :
    Calls Try.prog 60 #[.int .i64 n] w fun e w' => ∃ p d, e = .returned (.tuple #[.pointer (some ⟨p, 0, none⟩), .int .i64 0]) ∧ At w' p d n.toNat (fun _ => 0) 0 ∧ Below w.heap.size w w' ∧ w.heap.size ≤ p ∧ w.heap.size ≤ d := by
  obtain ⟨i0, hi, hz0, hz1, hz2⟩ := info_parts Try.info_i64
  have hmk := run_make (P := Try.prog) w 31 2 i0 (.int .i64 0) Try.underlying31 hi hz0 .i64 .i64 n n (by omega) (Int.le_refl _) (by rw [hz2]; omega) (by omega)
  have g1 : ¬ n < 1 := by omega
  have g2 : ¬ n > 65536 := by omega
  go_enter Try.func60, Try.ntmps60
  go_wp2
  have e1 : (w.alloc (.cells (madeCells #[.int .i64 0] n.toNat) 2)).heap.size = w.heap.size + 1 := by simp
  have hb : Below w.heap.size w ((w.alloc (.cells (madeCells #[.int .i64 0] n.toNat) 2)).alloc (.cells #[.slice (some ⟨w.heap.size, 0, none⟩) n.toNat n.toNat, .int .i64 0] 110)) :=
    ((Below.refl _ _).alloc (Nat.le_refl _) _).alloc (by simp) _
  have hA : At ((w.alloc (.cells (madeCells #[.int .i64 0] n.toNat) 2)).alloc (.cells #[.slice (some ⟨w.heap.size, 0, none⟩) n.toNat n.toNat, .int .i64 0] 110)) (w.heap.size + 1) w.heap.size n.toNat (fun _ => 0) 0 := by
    refine ⟨by simp [go_sem], by simp [go_sem], fun k hk => ?_, by simp [go_sem], fun k hk => by simp [go_sem], by simp, by simp, by simp; omega⟩
    rw [made_int]
    simp [go_sem, hk]
  generalize ((w.alloc (.cells (madeCells #[.int .i64 0] n.toNat) 2)).alloc (.cells #[.slice (some ⟨w.heap.size, 0, none⟩) n.toNat n.toNat, .int .i64 0] 110)) = w9 at *
  go_ret2
  exact ⟨_, rfl, _, hA, hb, by omega, Nat.le_refl _⟩
end Go.Proofs.Ythliahaopelooaa
/- (XArC without the words told: this seat has no Words.) A new arena that is refused. -/
namespace Go.Proofs.Ythliahaopelooaa
open Go.RowKit
/-- Words told: in new memory. -/
structure Told (w : World) (c n : Nat) (D : Nat → Int) : Prop where
  data : ∀ k, k < n → w.cell? ⟨c, k, none⟩ = some (.int .i64 (D k))
  fz : ∀ k, k < n → w.frozen? ⟨c, k, none⟩ = false
  lc : c < w.heap.size
theorem Told.later {w w' : World} {c n : Nat} {D : Nat → Int} (h : Told w c n D) (hb : Below w.heap.size w w') : Told w' c n D :=
  ⟨fun k hk => (hb.cell h.lc).trans (h.data k hk), fun k hk => (hb.frozen h.lc).trans (h.fz k hk), Nat.lt_of_lt_of_le h.lc hb.size⟩
end Go.Proofs.Ythliahaopelooaa
/- Cells that are linked, all around, in words: what a link changes; a cell that is let in, and one that is let out. -/
namespace Go.Proofs.Ythliahaopelooaa
open Go.RowKit
/-- A word put. -/
def put (D : Nat → Int) (i v : Int) : Nat → Int := fun k => if k = i.toNat then v else D k
/-- A cell and its next one lead to each other. -/
def join (D : Nat → Int) (a b : Int) : Nat → Int := put (put D (a + 1) b) (b + 2) a
def Jn (D : Nat → Int) (x y : Int) : Prop := D (x + 1).toNat = y ∧ D (y + 2).toNat = x
def Chain (D : Nat → Int) : List Int → Prop
  | [] => True
  | [_] => True
  | x :: y :: l => Jn D x y ∧ Chain D (y :: l)
theorem chain_append (D : Nat → Int) (x : Int) (b : List Int) : ∀ a : List Int, Chain D (a ++ x :: b) ↔ Chain D (a ++ [x]) ∧ Chain D (x :: b)
  | [] => by simp [Chain]
  | [y] => by simp [Chain]
  | y :: z :: a => by
    have h := chain_append D x b (z :: a)
    simp only [List.cons_append, Chain] at h ⊢
    rw [h]
    exact and_assoc.symm
theorem Chain.tail {D : Nat → Int} {x : Int} {l : List Int} (h : Chain D (x :: l)) : Chain D l := by
  cases l with
  | nil => trivial
  | cons y l => exact h.2
theorem chain_at {D : Nat → Int} {a b : List Int} {x y : Int} (h : Chain D (a ++ x :: y :: b)) : Jn D x y := ((chain_append D x (y :: b) a).1 h).2.1
/-- Two cells are one, or share no word. -/
def Off (x y : Int) : Prop := x = y ∨ x + 3 ≤ y ∨ y + 3 ≤ x
theorem Off.symm {x y : Int} (h : Off x y) : Off y x := by unfold Off at *; omega
theorem jn_join {D : Nat → Int} {a b : Int} (ha : 1 ≤ a) (hb : 1 ≤ b) (h : Off a b) : Jn (join D a b) a b := by
  unfold Off at h
  have e : ¬ (a + 1).toNat = (b + 2).toNat := by omega
  simp [Jn, join, put, e]
theorem jn_keep {D : Nat → Int} {a b x y : Int} (h : Jn D x y) (ha : 1 ≤ a) (hb : 1 ≤ b) (hx : 1 ≤ x) (hy : 1 ≤ y) (h1 : x ≠ a) (h2 : y ≠ b) (h3 : Off x b) (h4 : Off y a) : Jn (join D a b) x y := by
  unfold Off at h3 h4
  have e1 : ¬ (x + 1).toNat = (b + 2).toNat := by omega
  have e2 : ¬ (x + 1).toNat = (a + 1).toNat := by omega
  have e3 : ¬ (y + 2).toNat = (b + 2).toNat := by omega
  have e4 : ¬ (y + 2).toNat = (a + 1).toNat := by omega
  exact ⟨by simp [join, put, e1, e2, h.1], by simp [join, put, e3, e4, h.2]⟩
theorem chain_keep {D : Nat → Int} {a b : Int} (ha : 1 ≤ a) (hb : 1 ≤ b) : ∀ {l : List Int}, Chain D l → a ∉ l.dropLast → b ∉ l.tail → (∀ x, x ∈ l → 1 ≤ x ∧ Off x a ∧ Off x b) → Chain (join D a b) l
  | [], _, _, _, _ => trivial
  | [_], _, _, _, _ => trivial
  | x :: y :: l, h, h1, h2, h3 => by
    simp only [List.dropLast_cons_cons, List.mem_cons, not_or, List.tail_cons] at h1 h2
    have hx := h3 x (by simp)
    have hy := h3 y (by simp)
    refine ⟨jn_keep h.1 ha hb hx.1 hy.1 (Ne.symm h1.1) (Ne.symm h2.1) hx.2.2 hy.2.1, chain_keep ha hb h.2 h1.2 (by simpa using h2.2) fun z hz => h3 z (List.mem_cons_of_mem _ hz)⟩
/-- Linked both ways, all around. -/
def Cyc (D : Nat → Int) : List Int → Prop
  | [] => True
  | x :: l => Chain D (x :: (l ++ [x]))
theorem cyc_rot {D : Nat → Int} {a b : List Int} (h : Cyc D (a ++ b)) : Cyc D (b ++ a) := by
  cases a with
  | nil => simpa using h
  | cons x a =>
    cases b with
    | nil => simpa using h
    | cons y b =>
      simp only [List.cons_append, Cyc, List.append_assoc] at h ⊢
      have h1 := (chain_append D y (b ++ [x]) (x :: a)).1 h
      exact (chain_append D x (a ++ [y]) (y :: b)).2 ⟨h1.2, h1.1⟩
/-- Cells of an arena of so many words that share none. -/
structure Fit (n : Nat) (l : List Int) : Prop where
  rng : ∀ x, x ∈ l → 1 ≤ x ∧ x + 3 ≤ (n : Int)
  far : l.Pairwise fun x y => x + 3 ≤ y ∨ y + 3 ≤ x
theorem Fit.perm {n : Nat} {l m : List Int} (h : Fit n l) (hp : l.Perm m) : Fit n m :=
  ⟨fun x hx => h.rng x (hp.mem_iff.2 hx), (hp.pairwise_iff fun h => Or.symm h).1 h.far⟩
theorem Fit.tail {n : Nat} {l : List Int} {x : Int} (h : Fit n (x :: l)) : Fit n l := ⟨fun y hy => h.rng y (List.mem_cons_of_mem _ hy), (List.pairwise_cons.1 h.far).2⟩
theorem Fit.not_mem {n : Nat} {l : List Int} {x : Int} (h : Fit n (x :: l)) : x ∉ l := fun hx => by
  have := (List.pairwise_cons.1 h.far).1 x hx
  omega
theorem Fit.off {n : Nat} {l : List Int} (h : Fit n l) {x y : Int} (hx : x ∈ l) (hy : y ∈ l) : Off x y := by
  by_cases e : x = y
  · exact Or.inl e
  · right
    obtain ⟨a, b, rfl⟩ := List.append_of_mem hx
    have h1 := h.perm (List.perm_middle (a := x) (l₁ := a) (l₂ := b))
    refine (List.pairwise_cons.1 h1.far).1 y ?_
    have := (List.perm_middle (a := x) (l₁ := a) (l₂ := b)).mem_iff.1 hy
    simpa [Ne.symm e] using this
theorem Fit.nodup {n : Nat} {l : List Int} (h : Fit n l) : l.Nodup := h.far.imp fun h e => by omega
theorem cyc_last {D : Nat → Int} {h z : Int} {i : List Int} (hc : Cyc D (i ++ [z])) (hh : (i ++ [z]).head? = some h) : D (h + 2).toNat = z := by
  cases i with
  | nil =>
    obtain rfl : z = h := by simpa using hh
    exact hc.1.2
  | cons x i =>
    obtain rfl : x = h := by simpa using hh
    simp only [List.cons_append, Cyc, List.append_assoc] at hc
    exact (chain_at (a := x :: i) (b := []) hc).2
theorem ends (x : Int) (l : List Int) : ∃ i z, x :: l = i ++ [z] := ⟨_, _, (List.dropLast_concat_getLast (List.cons_ne_nil x l)).symm⟩
theorem cyc_insert {D : Nat → Int} {n : Nat} {c x : Int} {l : List Int} (hc : Cyc D (x :: l)) (hf : Fit n (c :: x :: l)) :
    ∃ z, z ∈ x :: l ∧ D (x + 2).toNat = z ∧ Cyc (join (join D z c) c x) (x :: l ++ [c]) := by
  obtain ⟨i, z, e⟩ := ends x l
  have hz : z ∈ x :: l := by rw [e]; simp
  have hr := hf.rng
  have hzc : z ∈ c :: x :: l := List.mem_cons_of_mem _ hz
  have hxc : x ∈ c :: x :: l := by simp
  have hcc : c ∈ c :: x :: l := by simp
  have hne : c ∉ x :: l := hf.not_mem
  refine ⟨z, hz, cyc_last (i := i) (h := x) (by rw [← e]; exact hc) (by rw [← e]; rfl), ?_⟩
  have h0 : Chain D (i ++ z :: [x]) := by
    have : Chain D ((x :: l) ++ [x]) := hc
    rw [e, List.append_assoc] at this
    exact this
  have h1 := (chain_append D z [x] i).1 h0
  have hzi : z ∉ i := by
    have hp := hf.tail.far
    rw [e, List.pairwise_append] at hp
    intro hm
    have := hp.2.2 z hm z (by simp)
    omega
  have hxl : x ∉ l := hf.tail.not_mem
  have ec : (x :: l ++ [c]) = x :: (l ++ [c]) := rfl
  rw [ec]
  have goal : Chain (join (join D z c) c x) (i ++ z :: [c, x]) := by
    refine (chain_append _ z [c, x] i).2 ⟨?_, ?_, ?_, trivial⟩
    · have k1 : Chain (join D z c) (i ++ [z]) := chain_keep (hr z hzc).1 (hr c hcc).1 h1.1 (by simpa using hzi) (by rw [← e]; exact fun h => hne (List.mem_of_mem_tail h)) fun y hy => by
        rw [← e] at hy
        have hyc : y ∈ c :: x :: l := List.mem_cons_of_mem _ hy
        exact ⟨(hr y hyc).1, hf.off hyc hzc, hf.off hyc hcc⟩
      refine chain_keep (hr c hcc).1 (hr x hxc).1 k1 ?_ (by rw [← e]; exact hxl) fun y hy => by
        rw [← e] at hy
        have hyc : y ∈ c :: x :: l := List.mem_cons_of_mem _ hy
        exact ⟨(hr y hyc).1, hf.off hyc hcc, hf.off hyc hxc⟩
      rw [← e]
      exact fun h => hne (List.dropLast_subset _ h)
    · exact jn_keep (jn_join (hr z hzc).1 (hr c hcc).1 (hf.off hzc hcc)) (hr c hcc).1 (hr x hxc).1 (hr z hzc).1 (hr c hcc).1 (fun h => hne (h ▸ hz)) (fun h => hne (h ▸ by simp)) (hf.off hzc hxc) (Or.inl rfl)
    · exact jn_join (hr c hcc).1 (hr x hxc).1 (hf.off hcc hxc)
  have e2 : x :: (l ++ [c] ++ [x]) = i ++ z :: [c, x] := by
    rw [show x :: (l ++ [c] ++ [x]) = (x :: l) ++ [c, x] by simp, e]
    simp
  show Chain _ (x :: (l ++ [c] ++ [x]))
  rw [e2]
  exact goal
theorem cyc_one {D : Nat → Int} {c : Int} (h : Cyc D [c]) : D (c + 1).toNat = c ∧ D (c + 2).toNat = c := h.1
theorem cyc_alone {D : Nat → Int} {c : Int} (h : 1 ≤ c) : Cyc (join D c c) [c] := ⟨jn_join h h (Or.inl rfl), trivial⟩
theorem cyc_next {D : Nat → Int} {c y : Int} {l : List Int} (h : Cyc D (c :: y :: l)) : D (c + 1).toNat = y := h.1.1
theorem cyc_remove {D : Nat → Int} {n : Nat} {c y : Int} {l : List Int} (hc : Cyc D (c :: y :: l)) (hf : Fit n (c :: y :: l)) :
    ∃ z, z ∈ y :: l ∧ D (c + 2).toNat = z ∧ Cyc (join D z y) (y :: l) := by
  obtain ⟨i, z, e⟩ := ends y l
  have hz : z ∈ y :: l := by rw [e]; simp
  have hr := hf.rng
  have hzc : z ∈ c :: y :: l := List.mem_cons_of_mem _ hz
  have hyc : y ∈ c :: y :: l := by simp
  refine ⟨z, hz, cyc_last (i := c :: i) (h := c) (by rw [List.cons_append, ← e]; exact hc) (by rfl), ?_⟩
  have h0 : Chain D (i ++ z :: [c]) := by
    have : Chain D ((y :: l) ++ [c]) := hc.tail
    rw [e, List.append_assoc] at this
    exact this
  have h1 := (chain_append D z [c] i).1 h0
  have hzi : z ∉ i := by
    have hp := hf.tail.far
    rw [e, List.pairwise_append] at hp
    intro hm
    have := hp.2.2 z hm z (by simp)
    omega
  have hyl : y ∉ l := hf.tail.not_mem
  have goal : Chain (join D z y) (i ++ z :: [y]) := by
    refine (chain_append _ z [y] i).2 ⟨?_, jn_join (hr z hzc).1 (hr y hyc).1 (hf.off hzc hyc), trivial⟩
    refine chain_keep (hr z hzc).1 (hr y hyc).1 h1.1 (by simpa using hzi) (by rw [← e]; exact hyl) fun x hx => ?_
    rw [← e] at hx
    have hxc : x ∈ c :: y :: l := List.mem_cons_of_mem _ hx
    exact ⟨(hr x hxc).1, hf.off hxc hzc, hf.off hxc hyc⟩
  have e2 : y :: (l ++ [y]) = i ++ z :: [y] := by
    rw [show y :: (l ++ [y]) = (y :: l) ++ [y] by simp, e]
    simp
  show Chain _ (y :: (l ++ [y]))
  rw [e2]
  exact goal
end Go.Proofs.Ythliahaopelooaa
/- Rows of cells, by their colours: what a ring's numbers and links say of them; what each call makes of both. -/
namespace Go.Proofs.Ythliahaopelooaa
open Go.RowKit
structure Rows where
  white : List Int
  frm : List Int
  grey : List Int
  black : List Int
def Rows.all (R : Rows) : List Int := R.white ++ (R.frm ++ (R.grey ++ R.black))
def upd (C : Nat → Int) (k : Nat) (v : Int) : Nat → Int := fun j => if j = k then v else C j
/-- A ring's numbers, firsts and links are those of its rows. -/
structure Inv (n : Nat) (D C F : Nat → Int) (R : Rows) : Prop where
  c0 : C 0 = R.white.length
  c1 : C 1 = R.frm.length
  c2 : C 2 = R.grey.length
  c3 : C 3 = R.black.length
  f0 : ∀ x l, R.white = x :: l → F 0 = x
  f1 : ∀ x l, R.frm = x :: l → F 1 = x
  f2 : ∀ x l, R.grey = x :: l → F 2 = x
  f3 : ∀ x l, R.black = x :: l → F 3 = x
  cyc : Cyc D R.all
  fit : Fit n R.all
  small : R.all.length ≤ 1000
def start0 (C F : Nat → Int) : Int := if 0 < C 0 then F 0 else if 0 < C 1 then F 1 else if 0 < C 2 then F 2 else if 0 < C 3 then F 3 else 0
def start3 (C F : Nat → Int) : Int := if 0 < C 3 then F 3 else if 0 < C 0 then F 0 else if 0 < C 1 then F 1 else if 0 < C 2 then F 2 else 0
section
variable {n : Nat} {D C F : Nat → Int} {R : Rows}
theorem Inv.start0 (h : Inv n D C F R) : start0 C F = R.all.headD 0 := by
  obtain ⟨c0, c1, c2, c3, f0, f1, f2, f3, _, _, _⟩ := h
  unfold Go.Proofs.Ythliahaopelooaa.start0 Rows.all
  rw [c0, c1, c2, c3]
  cases h0 : R.white with
  | cons x l => simp [f0 x l h0]
  | nil =>
    cases h1 : R.frm with
    | cons x l => simp [f1 x l h1]
    | nil =>
      cases h2 : R.grey with
      | cons x l => simp [f2 x l h2]
      | nil =>
        cases h3 : R.black with
        | cons x l => simp [f3 x l h3]
        | nil => simp
theorem Inv.start3 (h : Inv n D C F R) : start3 C F = (R.black ++ (R.white ++ (R.frm ++ R.grey))).headD 0 := by
  obtain ⟨c0, c1, c2, c3, f0, f1, f2, f3, _, _, _⟩ := h
  unfold Go.Proofs.Ythliahaopelooaa.start3
  rw [c0, c1, c2, c3]
  cases h3 : R.black with
  | cons x l => simp [f3 x l h3]
  | nil =>
    cases h0 : R.white with
    | cons x l => simp [f0 x l h0]
    | nil =>
      cases h1 : R.frm with
      | cons x l => simp [f1 x l h1]
      | nil =>
        cases h2 : R.grey with
        | cons x l => simp [f2 x l h2]
        | nil => simp
end
/-- insert, in numbers. -/
def inserted (D : Nat → Int) (c x : Int) : Nat → Int := if x = 0 then join D c c else join (join D (D (x + 2).toNat) c) c x
def removed (D : Nat → Int) (c : Int) : Nat → Int := join D (D (c + 2).toNat) (D (c + 1).toNat)
def leftF (D F : Nat → Int) (c : Int) (k : Nat) : Nat → Int := if F k = c then upd F k (D (c + 1).toNat) else F
def lastF (C F : Nat → Int) (c : Int) (k : Nat) : Nat → Int := if C k = 0 then upd F k c else F
theorem cyc_inserted {D : Nat → Int} {n : Nat} {c : Int} {l : List Int} (hc : Cyc D l) (hf : Fit n (c :: l)) : Cyc (inserted D c (l.headD 0)) (l ++ [c]) := by
  cases l with
  | nil => exact cyc_alone (hf.rng c (by simp)).1
  | cons x l =>
    obtain ⟨z, _, e, h⟩ := cyc_insert hc hf
    have hx := hf.rng x (by simp)
    have : ¬ x = 0 := by omega
    rw [← e] at h
    simpa [inserted, this] using h
theorem cyc_removed {D : Nat → Int} {n : Nat} {c : Int} {l : List Int} (hc : Cyc D (c :: l)) (hf : Fit n (c :: l)) : Cyc (removed D c) l := by
  cases l with
  | nil => trivial
  | cons y l =>
    obtain ⟨z, _, e, h⟩ := cyc_remove hc hf
    rw [← e, ← cyc_next hc] at h
    rw [cyc_next hc] at h
    simpa [removed, cyc_next hc] using h
/-! What each call makes of rows. -/
def Rows.grow (R : Rows) (c : Int) : Rows := { R with white := c :: R.white }
def Rows.alloc (R : Rows) : Rows := { R with white := R.white.tail, black := R.black ++ R.white.take 1 }
def Rows.shade (R : Rows) (c : Int) : Rows := { R with frm := R.frm.erase c, grey := R.grey ++ [c] }
def Rows.done (R : Rows) : Rows := { R with grey := R.grey.dropLast, black := R.grey.drop (R.grey.length - 1) ++ R.black }
def Rows.begin (R : Rows) : Rows := { R with frm := R.black, black := [] }
def Rows.fin (R : Rows) : Rows := { R with white := R.white ++ R.frm, frm := [] }
def Rows.drop (R : Rows) : Rows := { R with white := R.white.tail }
section
variable {n : Nat} {D C F : Nat → Int} {R : Rows}
theorem Inv.grow (h : Inv n D C F R) {c : Int} (hf : Fit n (c :: R.all)) (hl : R.all.length < 1000) : Inv n (inserted D c (Go.Proofs.Ythliahaopelooaa.start0 C F)) (upd C 0 (C 0 + 1)) (upd F 0 c) (R.grow c) := by
  have e : (R.grow c).all = c :: R.all := rfl
  refine ⟨by simp [upd, h.c0, Rows.grow], by simp [upd, h.c1, Rows.grow], by simp [upd, h.c2, Rows.grow], by simp [upd, h.c3, Rows.grow], ?_, ?_, ?_, ?_, ?_, ?_, ?_⟩
  · intro x l hx
    cases hx
    rfl
  · intro x l hx; simpa [upd] using h.f1 x l hx
  · intro x l hx; simpa [upd] using h.f2 x l hx
  · intro x l hx; simpa [upd] using h.f3 x l hx
  · rw [e, h.start0]
    exact cyc_rot (a := R.all) (b := [c]) (cyc_inserted h.cyc hf)
  · rw [e]; exact hf
  · rw [e]; simp; omega
theorem Inv.alloc (h : Inv n D C F R) {c : Int} {l : List Int} (hw : R.white = c :: l) : Inv n D (upd (upd C 0 (C 0 - 1)) 3 (C 3 + 1)) (lastF C (leftF D F c 0) c 3) R.alloc := by
  obtain ⟨W, A, G, B⟩ := R
  simp only at hw
  subst hw
  obtain ⟨c0, c1, c2, c3, f0, f1, f2, f3, hc, hf, hs⟩ := h
  have e : (Rows.alloc ⟨c :: l, A, G, B⟩).all = (l ++ (A ++ (G ++ B))) ++ [c] := by simp [Rows.alloc, Rows.all]
  have ec : (Rows.all ⟨c :: l, A, G, B⟩) = [c] ++ (l ++ (A ++ (G ++ B))) := rfl
  have hF0 : F 0 = c := f0 c l rfl
  simp only at c0 c1 c2 c3 f0 f1 f2 f3
  refine ⟨by simp [upd, c0, Rows.alloc], by simp [upd, c1, Rows.alloc], by simp [upd, c2, Rows.alloc], by simp [upd, c3, Rows.alloc], ?_, ?_, ?_, ?_, ?_, ?_, ?_⟩
  · intro x m hx
    simp only [Rows.alloc, List.tail_cons] at hx
    subst hx
    have : D (c + 1).toNat = x := cyc_next hc
    by_cases e3 : C 3 = 0 <;> simp [lastF, leftF, upd, hF0, e3, this]
  · intro x m hx
    by_cases e3 : C 3 = 0 <;> simpa [lastF, leftF, upd, hF0, e3] using f1 x m hx
  · intro x m hx
    by_cases e3 : C 3 = 0 <;> simpa [lastF, leftF, upd, hF0, e3] using f2 x m hx
  · intro x m hx
    simp only [Rows.alloc, List.take_succ_cons, List.take_zero] at hx
    cases B with
    | nil =>
      obtain ⟨rfl, _⟩ := List.cons.inj hx
      have : C 3 = 0 := by simpa using c3
      simp [lastF, upd, this]
    | cons b B =>
      obtain ⟨rfl, _⟩ := List.cons.inj hx
      have : ¬ C 3 = 0 := by rw [c3]; simp; omega
      simpa [lastF, leftF, upd, hF0, this] using f3 b B rfl
  · rw [e]; exact cyc_rot (by rw [← ec]; exact hc)
  · rw [e]; exact hf.perm (by rw [ec]; exact List.perm_append_comm)
  · rw [e]; simp [Rows.all] at hs ⊢; omega
theorem Inv.drop (h : Inv n D C F R) {c : Int} {l : List Int} (hw : R.white = c :: l) : Inv n (removed D c) (upd C 0 (C 0 - 1)) (leftF D F c 0) R.drop := by
  obtain ⟨W, A, G, B⟩ := R
  simp only at hw
  subst hw
  obtain ⟨c0, c1, c2, c3, f0, f1, f2, f3, hc, hf, hs⟩ := h
  have e : (Rows.drop ⟨c :: l, A, G, B⟩).all = l ++ (A ++ (G ++ B)) := by simp [Rows.drop, Rows.all]
  have ec : (Rows.all ⟨c :: l, A, G, B⟩) = c :: (l ++ (A ++ (G ++ B))) := rfl
  have hF0 : F 0 = c := f0 c l rfl
  simp only at c0 c1 c2 c3 f0 f1 f2 f3
  refine ⟨by simp [upd, c0, Rows.drop], by simp [upd, c1, Rows.drop], by simp [upd, c2, Rows.drop], by simp [upd, c3, Rows.drop], ?_, ?_, ?_, ?_, ?_, ?_, ?_⟩
  · intro x m hx
    simp only [Rows.drop, List.tail_cons] at hx
    subst hx
    have : D (c + 1).toNat = x := cyc_next hc
    simp [leftF, upd, hF0, this]
  · intro x m hx; simpa [leftF, upd, hF0] using f1 x m hx
  · intro x m hx; simpa [leftF, upd, hF0] using f2 x m hx
  · intro x m hx; simpa [leftF, upd, hF0] using f3 x m hx
  · rw [e]; exact cyc_removed (by rw [← ec]; exact hc) (by rw [← ec]; exact hf)
  · rw [e]; exact Fit.tail (by rw [← ec]; exact hf)
  · rw [e]; have := hs; rw [ec] at this; simp at this ⊢; omega
/-- Shade's first half: the cell is let out. -/
theorem Inv.out (h : Inv n D C F R) {c : Int} {l m : List Int} (hw : R.frm = l ++ c :: m) : Inv n (removed D c) (upd C 1 (C 1 - 1)) (leftF D F c 1) { R with frm := l ++ m } ∧ Fit n (c :: Rows.all { R with frm := l ++ m }) ∧ (Rows.all { R with frm := l ++ m }).length < 1000 := by
  obtain ⟨W, A, G, B⟩ := R
  simp only at hw
  subst hw
  obtain ⟨c0, c1, c2, c3, f0, f1, f2, f3, hc, hf, hs⟩ := h
  have e : (Rows.all ⟨W, l ++ m, G, B⟩) = (W ++ l) ++ (m ++ (G ++ B)) := by simp [Rows.all]
  have ec : (Rows.all ⟨W, l ++ c :: m, G, B⟩) = (W ++ l) ++ (c :: (m ++ (G ++ B))) := by simp [Rows.all]
  have hf' : Fit n (c :: ((W ++ l) ++ (m ++ (G ++ B)))) := hf.perm (by rw [ec]; exact List.perm_middle)
  have hl : (Rows.all ⟨W, l ++ m, G, B⟩).length < 1000 := by
    have := hs
    rw [ec] at this
    rw [e]
    simp at this ⊢
    omega
  have hn : c ∉ l := fun hm => hf'.not_mem (List.mem_append_left _ (List.mem_append_right _ hm))
  have hcy : Cyc D (c :: ((m ++ (G ++ B)) ++ (W ++ l))) := by
    have := cyc_rot (D := D) (a := W ++ l) (b := c :: (m ++ (G ++ B))) (by rw [← ec]; exact hc)
    simpa using this
  simp only at c0 c1 c2 c3 f0 f1 f2 f3
  refine ⟨⟨by simp [upd, c0], ?_, by simp [upd, c2], by simp [upd, c3], ?_, ?_, ?_, ?_, ?_, ?_, Nat.le_of_lt hl⟩, by rw [e]; exact hf', hl⟩
  · simp [upd, c1]; omega
  · intro x k hx
    by_cases e1 : F 1 = c <;> simpa [leftF, upd, e1] using f0 x k hx
  · intro x k hx
    simp only at hx
    cases l with
    | nil =>
      simp only [List.nil_append] at hx
      subst hx
      have hF : F 1 = c := f1 c _ rfl
      have : D (c + 1).toNat = x := cyc_next hcy
      simp [leftF, upd, hF, this]
    | cons y l =>
      obtain ⟨rfl, _⟩ := List.cons.inj hx
      have hF : F 1 = y := f1 y _ rfl
      have : ¬ y = c := fun e => hn (by simp [e])
      simp [leftF, hF, this]
  · intro x k hx
    by_cases e1 : F 1 = c <;> simpa [leftF, upd, e1] using f2 x k hx
  · intro x k hx
    by_cases e1 : F 1 = c <;> simpa [leftF, upd, e1] using f3 x k hx
  · rw [e]
    exact cyc_rot (cyc_removed hcy (hf'.perm (List.Perm.cons c List.perm_append_comm)))
  · rw [e]; exact hf'.tail
/-- Shade's second half: it is let in, behind the grey ones. -/
theorem Inv.in (h : Inv n D C F R) {c : Int} (hf : Fit n (c :: R.all)) (hl : R.all.length < 1000) : Inv n (inserted D c (Go.Proofs.Ythliahaopelooaa.start3 C F)) (upd C 2 (C 2 + 1)) (lastF C F c 2) { R with grey := R.grey ++ [c] } := by
  have hs3 := h.start3
  obtain ⟨W, A, G, B⟩ := R
  obtain ⟨c0, c1, c2, c3, f0, f1, f2, f3, hc, _, hs⟩ := h
  simp only at c0 c1 c2 c3 f0 f1 f2 f3 hs3
  have ec : Rows.all ⟨W, A, G, B⟩ = (W ++ (A ++ G)) ++ B := by simp [Rows.all]
  have e : Rows.all ⟨W, A, G ++ [c], B⟩ = (W ++ (A ++ G) ++ [c]) ++ B := by simp [Rows.all]
  have hcy : Cyc D (B ++ (W ++ (A ++ G))) := cyc_rot (by rw [← ec]; exact hc)
  have hp : (c :: Rows.all ⟨W, A, G, B⟩).Perm (c :: (B ++ (W ++ (A ++ G)))) := by rw [ec]; exact List.Perm.cons c List.perm_append_comm
  refine ⟨by simp [upd, c0], by simp [upd, c1], by simp [upd, c2], by simp [upd, c3], ?_, ?_, ?_, ?_, ?_, ?_, ?_⟩
  · intro x k hx
    by_cases e2 : C 2 = 0 <;> simpa [lastF, upd, e2] using f0 x k hx
  · intro x k hx
    by_cases e2 : C 2 = 0 <;> simpa [lastF, upd, e2] using f1 x k hx
  · intro x k hx
    simp only at hx
    cases G with
    | nil =>
      obtain ⟨rfl, _⟩ := List.cons.inj hx
      have : C 2 = 0 := by simpa using c2
      simp [lastF, upd, this]
    | cons b G =>
      obtain ⟨rfl, _⟩ := List.cons.inj hx
      have : ¬ C 2 = 0 := by rw [c2]; simp; omega
      simpa [lastF, this] using f2 b G rfl
  · intro x k hx
    by_cases e2 : C 2 = 0 <;> simpa [lastF, upd, e2] using f3 x k hx
  · rw [e, hs3]
    have := cyc_inserted hcy (hf.perm hp)
    rw [List.append_assoc] at this
    exact cyc_rot this
  · rw [e]
    refine hf.perm (hp.trans ?_)
    have : (c :: (B ++ (W ++ (A ++ G)))).Perm ((B ++ (W ++ (A ++ G))) ++ [c]) := (List.perm_append_comm (l₁ := [c]) (l₂ := B ++ (W ++ (A ++ G))))
    refine this.trans ?_
    rw [List.append_assoc]
    exact List.perm_append_comm
  · rw [e]; have := hl; rw [ec] at this; simp at this ⊢; omega
theorem Inv.done (h : Inv n D C F R) {c : Int} {l : List Int} (hg : R.grey = l ++ [c]) : Inv n D (upd (upd C 2 (C 2 - 1)) 3 (C 3 + 1)) (upd F 3 c) R.done := by
  obtain ⟨W, A, G, B⟩ := R
  simp only at hg
  subst hg
  obtain ⟨c0, c1, c2, c3, f0, f1, f2, f3, hc, hf, hs⟩ := h
  simp only at c0 c1 c2 c3 f0 f1 f2 f3
  have ed : Rows.done ⟨W, A, l ++ [c], B⟩ = ⟨W, A, l, c :: B⟩ := by simp [Rows.done]
  have e : Rows.all ⟨W, A, l, c :: B⟩ = Rows.all ⟨W, A, l ++ [c], B⟩ := by simp [Rows.all]
  rw [ed]
  refine ⟨by simp [upd, c0], by simp [upd, c1], by simp [upd, c2], by simp [upd, c3], ?_, ?_, ?_, ?_, ?_, ?_, ?_⟩
  · intro x k hx; simpa [upd] using f0 x k hx
  · intro x k hx; simpa [upd] using f1 x k hx
  · intro x k hx
    simp only at hx
    subst hx
    simpa [upd] using f2 x _ rfl
  · intro x k hx
    obtain ⟨rfl, _⟩ := List.cons.inj hx
    simp [upd]
  · rw [e]; exact hc
  · rw [e]; exact hf
  · rw [e]; exact hs
theorem Inv.begin (h : Inv n D C F R) (h1 : R.frm = []) (h2 : R.grey = []) : Inv n D (upd (upd C 1 (C 1 + C 3)) 3 0) (upd F 1 (F 3)) R.begin := by
  obtain ⟨W, A, G, B⟩ := R
  simp only at h1 h2
  subst h1 h2
  obtain ⟨c0, c1, c2, c3, f0, f1, f2, f3, hc, hf, hs⟩ := h
  simp only at c0 c1 c2 c3 f0 f1 f2 f3
  have e : (Rows.begin ⟨W, [], [], B⟩).all = Rows.all ⟨W, [], [], B⟩ := by simp [Rows.begin, Rows.all]
  refine ⟨by simp [upd, c0, Rows.begin], by simp [upd, c1, c3, Rows.begin], by simp [upd, c2, Rows.begin], by simp [upd, Rows.begin], ?_, ?_, ?_, ?_, by rw [e]; exact hc, by rw [e]; exact hf, by rw [e]; exact hs⟩
  · intro x k hx; simpa [upd] using f0 x k hx
  · intro x k hx; simpa [upd] using f3 x k hx
  · intro x k hx; simp [Rows.begin] at hx
  · intro x k hx; simp [Rows.begin] at hx
theorem Inv.fin (h : Inv n D C F R) (h2 : R.grey = []) : Inv n D (upd (upd C 0 (C 0 + C 1)) 1 0) (lastF C F (F 1) 0) R.fin := by
  obtain ⟨W, A, G, B⟩ := R
  simp only at h2
  subst h2
  obtain ⟨c0, c1, c2, c3, f0, f1, f2, f3, hc, hf, hs⟩ := h
  simp only at c0 c1 c2 c3 f0 f1 f2 f3
  have e : (Rows.fin ⟨W, A, [], B⟩).all = Rows.all ⟨W, A, [], B⟩ := by simp [Rows.fin, Rows.all]
  refine ⟨by simp [upd, c0, c1, Rows.fin], by simp [upd, Rows.fin], by simp [upd, c2, Rows.fin], by simp [upd, c3, Rows.fin], ?_, ?_, ?_, ?_, by rw [e]; exact hc, by rw [e]; exact hf, by rw [e]; exact hs⟩
  · intro x k hx
    cases W with
    | nil =>
      have : C 0 = 0 := by simpa using c0
      simpa [lastF, upd, this] using f1 x k hx
    | cons y W =>
      obtain ⟨rfl, _⟩ := List.cons.inj hx
      have : ¬ C 0 = 0 := by rw [c0]; simp; omega
      simpa [lastF, this] using f0 y W rfl
  · intro x k hx; simp [Rows.fin] at hx
  · intro x k hx; simp [Rows.fin] at hx
  · intro x k hx
    by_cases e0 : C 0 = 0 <;> simpa [lastF, upd, e0] using f3 x k hx
end
end Go.Proofs.Ythliahaopelooaa
/- A ring as it lies; its links, by its closures; two cells joined. -/
namespace Go.Proofs.Ythliahaopelooaa
open Go.RowKit
/-- Where a ring lies: its struct, its arena, the arena's words, how many; what its links' closures have captured. -/
structure Spot where
  r : Nat
  p : Nat
  d : Nat
  n : Nat
  a1 : Nat
  n1 : Nat
  a2 : Nat
  n2 : Nat
/-- Nothing that was there has turned but a ring, its arena, its words. -/
structure Turn (s : Spot) (w w' : World) : Prop where
  os : w'.os = w.os
  tape : w'.tape = w.tape
  output : w'.output = w.output
  size : w.heap.size ≤ w'.heap.size
  block : ∀ k, k < w.heap.size → k ≠ s.r → k ≠ s.p → k ≠ s.d → w'.heap[k]? = w.heap[k]?
theorem Turn.refl (s : Spot) (w : World) : Turn s w w := ⟨rfl, rfl, rfl, Nat.le_refl _, fun _ _ _ _ _ => rfl⟩
theorem Turn.trans {s : Spot} {a b c : World} (h : Turn s a b) (k : Turn s b c) : Turn s a c :=
  ⟨k.os.trans h.os, k.tape.trans h.tape, k.output.trans h.output, Nat.le_trans h.size k.size, fun i hi h1 h2 h3 => (k.block i (Nat.lt_of_lt_of_le hi h.size) h1 h2 h3).trans (h.block i hi h1 h2 h3)⟩
theorem Turn.of_apart {s : Spot} {w w' : World} (h : Apart s.p s.d w w') : Turn s w w' := ⟨h.os, h.tape, h.output, h.size, fun k hk _ h2 h3 => h.block k hk h2 h3⟩
theorem Turn.of_below {s : Spot} {w w' : World} (h : Below w.heap.size w w') : Turn s w w' := ⟨h.os, h.tape, h.output, h.size, fun k hk _ _ _ => h.block k hk⟩
theorem Turn.setR (s : Spot) (i : Nat) (v : Value) (w : World) : Turn s w (w.setCell ⟨s.r, i, none⟩ v) :=
  ⟨rfl, rfl, rfl, by simp [World.setCell], fun k _ h _ _ => Below.heap_setCell _ _ _ _ h⟩
theorem Turn.then {s : Spot} {a b c : World} (h : Turn s a b) (k : Below a.heap.size b c) : Turn s a c :=
  ⟨k.os.trans h.os, k.tape.trans h.tape, k.output.trans h.output, Nat.le_trans h.size k.size, fun i hi h1 h2 h3 => (k.block i hi).trans (h.block i hi h1 h2 h3)⟩
theorem Turn.below {s : Spot} {B : Nat} {w w' : World} (h : Turn s w w') (hr : B ≤ s.r) (hp : B ≤ s.p) (hd : B ≤ s.d) (hB : B ≤ w.heap.size) : Below B w w' :=
  ⟨h.os, h.tape, h.output, h.size, fun k hk => h.block k (by omega) (by omega) (by omega) (by omega)⟩
theorem Turn.cell {s : Spot} {w w' : World} (h : Turn s w w') {a : Addr} {v : Value} (hc : w.cell? a = some v) (h1 : a.block ≠ s.r) (h2 : a.block ≠ s.p) (h3 : a.block ≠ s.d) : w'.cell? a = some v :=
  (World.cell?_of_block (w := w) (h.block a.block (World.block_lt_of_cell? _ _ hc) h1 h2 h3)).trans hc
theorem Turn.frozen {s : Spot} {w w' : World} (h : Turn s w w') {a : Addr} (hl : a.block < w.heap.size) (h1 : a.block ≠ s.r) (h2 : a.block ≠ s.p) (h3 : a.block ≠ s.d) : w'.frozen? a = w.frozen? a :=
  World.frozen?_of_block (w := w) (h.block a.block hl h1 h2 h3)
/-- A RING AS IT LIES. -/
structure Lies (s : Spot) (C F D : Nat → Int) (w : World) : Prop where
  arena : w.cell? ⟨s.r, 0, none⟩ = some (.pointer (some ⟨s.p, 0, none⟩))
  nof : w.cell? ⟨s.r, 1, none⟩ = some (.func (.func 97) #[] #[.pointer (some ⟨s.a1, 0, none⟩), .pointer (some ⟨s.n1, 0, none⟩)])
  nset : w.cell? ⟨s.r, 2, none⟩ = some (.func (.func 98) #[] #[.pointer (some ⟨s.a1, 0, none⟩), .pointer (some ⟨s.n1, 0, none⟩)])
  lof : w.cell? ⟨s.r, 3, none⟩ = some (.func (.func 97) #[] #[.pointer (some ⟨s.a2, 0, none⟩), .pointer (some ⟨s.n2, 0, none⟩)])
  lset : w.cell? ⟨s.r, 4, none⟩ = some (.func (.func 98) #[] #[.pointer (some ⟨s.a2, 0, none⟩), .pointer (some ⟨s.n2, 0, none⟩)])
  count : ∀ k, k < 4 → w.cell? ⟨s.r, 5 + k, none⟩ = some (.int .i64 (C k))
  first : ∀ k, k < 4 → w.cell? ⟨s.r, 9 + k, none⟩ = some (.int .i64 (F k))
  fz : ∀ j, w.frozen? ⟨s.r, j, none⟩ = false
  ba1 : w.cell? ⟨s.a1, 0, none⟩ = some (.pointer (some ⟨s.p, 0, none⟩))
  bn1 : w.cell? ⟨s.n1, 0, none⟩ = some (.int .i64 1)
  ba2 : w.cell? ⟨s.a2, 0, none⟩ = some (.pointer (some ⟨s.p, 0, none⟩))
  bn2 : w.cell? ⟨s.n2, 0, none⟩ = some (.int .i64 2)
  words : ∃ u, At w s.p s.d s.n D u
  nb : s.n ≤ 65536
  rp : s.r ≠ s.p
  rd : s.r ≠ s.d
  a1' : s.a1 ≠ s.r ∧ s.a1 ≠ s.p ∧ s.a1 ≠ s.d
  n1' : s.n1 ≠ s.r ∧ s.n1 ≠ s.p ∧ s.n1 ≠ s.d
  a2' : s.a2 ≠ s.r ∧ s.a2 ≠ s.p ∧ s.a2 ≠ s.d
  n2' : s.n2 ≠ s.r ∧ s.n2 ≠ s.p ∧ s.n2 ≠ s.d
section
variable {s : Spot} {C F D : Nat → Int} {w w' : World}
theorem Lies.lr (h : Lies s C F D w) : s.r < w.heap.size := World.block_lt_of_cell? _ _ h.arena
theorem Lies.lp (h : Lies s C F D w) : s.p < w.heap.size := h.words.elim fun _ h => h.lp
theorem Lies.ld (h : Lies s C F D w) : s.d < w.heap.size := h.words.elim fun _ h => h.ld
theorem Lies.apart (h : Lies s C F D w) {D' : Nat → Int} {u : Int} (hq : Apart s.p s.d w w') (hA : At w' s.p s.d s.n D' u) : Lies s C F D' w' :=
  ⟨hq.cell h.arena h.rp h.rd, hq.cell h.nof h.rp h.rd, hq.cell h.nset h.rp h.rd, hq.cell h.lof h.rp h.rd, hq.cell h.lset h.rp h.rd,
    fun k hk => hq.cell (h.count k hk) h.rp h.rd, fun k hk => hq.cell (h.first k hk) h.rp h.rd, fun j => (hq.frozen h.lr h.rp h.rd).trans (h.fz j),
    hq.cell h.ba1 h.a1'.2.1 h.a1'.2.2, hq.cell h.bn1 h.n1'.2.1 h.n1'.2.2, hq.cell h.ba2 h.a2'.2.1 h.a2'.2.2, hq.cell h.bn2 h.n2'.2.1 h.n2'.2.2,
    ⟨u, hA⟩, h.nb, h.rp, h.rd, h.a1', h.n1', h.a2', h.n2'⟩
theorem Lies.later (h : Lies s C F D w) (hb : Below w.heap.size w w') : Lies s C F D w' := by
  obtain ⟨u, hu⟩ := h.words
  exact h.apart (Apart.of_below hb) (hu.later hb)
theorem Lies.drew (h : Lies s C F D w) : Lies s C F D w.drew := h.later (Below.refl _ _).drew
theorem Lies.setCount (h : Lies s C F D w) (k : Nat) (v : Int) (hk : k < 4) : Lies s (upd C k v) F D (w.setCell ⟨s.r, 5 + k, none⟩ (.int .i64 v)) := by
  obtain ⟨u, hu⟩ := h.words
  have o : ∀ (a : Addr) (x : Value), w.cell? a = some x → a ≠ ⟨s.r, 5 + k, none⟩ → (w.setCell ⟨s.r, 5 + k, none⟩ (.int .i64 v)).cell? a = some x := fun a x hc hn => (World.cell?_setCell_other _ _ _ _ (Ne.symm hn)).trans hc
  have b : ∀ {a : Addr}, a.block ≠ s.r → a ≠ ⟨s.r, 5 + k, none⟩ := fun hb e => hb (by rw [e])
  have f : ∀ {j : Nat}, j ≠ 5 + k → (⟨s.r, j, none⟩ : Addr) ≠ ⟨s.r, 5 + k, none⟩ := fun _ => by simp
  refine ⟨o _ _ h.arena (f (by omega)), o _ _ h.nof (f (by omega)), o _ _ h.nset (f (by omega)), o _ _ h.lof (f (by omega)), o _ _ h.lset (f (by omega)), fun j hj => ?_, fun j hj => o _ _ (h.first j hj) (f (by omega)),
    fun j => (World.frozen?_setCell _ _ _ _).trans (h.fz j), o _ _ h.ba1 (b h.a1'.1), o _ _ h.bn1 (b h.n1'.1), o _ _ h.ba2 (b h.a2'.1), o _ _ h.bn2 (b h.n2'.1),
    ⟨u, hu.move (Below.heap_setCell _ _ _ _ (Ne.symm h.rp)) (Below.heap_setCell _ _ _ _ (Ne.symm h.rd)) (by simp [World.setCell])⟩, h.nb, h.rp, h.rd, h.a1', h.n1', h.a2', h.n2'⟩
  by_cases e : j = k
  · subst e
    simp only [upd, if_true]
    exact World.cell?_setCell_same _ _ _ (h.count j hj)
  · simp only [upd, e, if_false]
    exact o _ _ (h.count j hj) (f (by omega))
theorem Lies.setFirst (h : Lies s C F D w) (k : Nat) (v : Int) (hk : k < 4) : Lies s C (upd F k v) D (w.setCell ⟨s.r, 9 + k, none⟩ (.int .i64 v)) := by
  obtain ⟨u, hu⟩ := h.words
  have o : ∀ (a : Addr) (x : Value), w.cell? a = some x → a ≠ ⟨s.r, 9 + k, none⟩ → (w.setCell ⟨s.r, 9 + k, none⟩ (.int .i64 v)).cell? a = some x := fun a x hc hn => (World.cell?_setCell_other _ _ _ _ (Ne.symm hn)).trans hc
  have b : ∀ {a : Addr}, a.block ≠ s.r → a ≠ ⟨s.r, 9 + k, none⟩ := fun hb e => hb (by rw [e])
  have f : ∀ {j : Nat}, j ≠ 9 + k → (⟨s.r, j, none⟩ : Addr) ≠ ⟨s.r, 9 + k, none⟩ := fun _ => by simp
  refine ⟨o _ _ h.arena (f (by omega)), o _ _ h.nof (f (by omega)), o _ _ h.nset (f (by omega)), o _ _ h.lof (f (by omega)), o _ _ h.lset (f (by omega)), fun j hj => o _ _ (h.count j hj) (f (by omega)), fun j hj => ?_,
    fun j => (World.frozen?_setCell _ _ _ _).trans (h.fz j), o _ _ h.ba1 (b h.a1'.1), o _ _ h.bn1 (b h.n1'.1), o _ _ h.ba2 (b h.a2'.1), o _ _ h.bn2 (b h.n2'.1),
    ⟨u, hu.move (Below.heap_setCell _ _ _ _ (Ne.symm h.rp)) (Below.heap_setCell _ _ _ _ (Ne.symm h.rd)) (by simp [World.setCell])⟩, h.nb, h.rp, h.rd, h.a1', h.n1', h.a2', h.n2'⟩
  by_cases e : j = k
  · subst e
    simp only [upd, if_true]
    exact World.cell?_setCell_same _ _ _ (h.first j hj)
  · simp only [upd, e, if_false]
    exact o _ _ (h.first j hj) (f (by omega))
end
set_option maxHeartbeats 1000000 in
/-- What a link's closure answers. -/
theorem of_any (s : Spot) (C F D : Nat → Int) (w : World) (hL : Lies s C F D w) (a b k : Nat) (c : Int) (ha : w.cell? ⟨a, 0, none⟩ = some (.pointer (some ⟨s.p, 0, none⟩))) (hk : w.cell? ⟨b, 0, none⟩ = some (.int .i64 k)) (h0 : 1 ≤ c) (h1 : c + 3 ≤ s.n) (h2 : k ≤ 2) :
    Calls Try.prog 97 #[.int .i64 c, .pointer (some ⟨a, 0, none⟩), .pointer (some ⟨b, 0, none⟩)] w fun e w' => e = .returned (.int .i64 (D (c + k).toNat)) ∧ Lies s C F D w' ∧ Turn s w w' := by
  obtain ⟨u, hA⟩ := hL.words
  have hn := hL.nb
  have hw : IntKind.i64.wrap (c + k) = c + k := by rw [IntKind.wrap_i64]; omega
  have hw' : wrap64 (c + k) = c + k := by unfold wrap64; omega
  have HL := Lib.hid hL
  have HA := Lib.hid hA
  clear hL hA
  go_enter Try.func97, Try.ntmps97
  go_wp2_with fail
  refine (load_in s.p s.d s.n D u (c + k) w HA.out (by omega) (by omega)).mono ?_
  rintro e w2 ⟨rfl, hA2, hq⟩
  have HE := Lib.hid (And.intro (HL.out.apart hq hA2) (Turn.of_apart hq))
  clear hA2 hq
  go_wp2_with fail
  go_ret
  exact ⟨rfl, HE.out⟩
set_option maxHeartbeats 1000000 in
/-- What a link's other closure does. -/
theorem set_any (s : Spot) (C F D : Nat → Int) (w : World) (hL : Lies s C F D w) (a b k : Nat) (c x : Int) (ha : w.cell? ⟨a, 0, none⟩ = some (.pointer (some ⟨s.p, 0, none⟩))) (hk : w.cell? ⟨b, 0, none⟩ = some (.int .i64 k)) (h0 : 1 ≤ c) (h1 : c + 3 ≤ s.n) (h2 : k ≤ 2) :
    Calls Try.prog 98 #[.int .i64 c, .int .i64 x, .pointer (some ⟨a, 0, none⟩), .pointer (some ⟨b, 0, none⟩)] w fun e w' => e = .returned (.tuple #[]) ∧ Lies s C F (put D (c + k) x) w' ∧ Turn s w w' := by
  obtain ⟨u, hA⟩ := hL.words
  have hn := hL.nb
  have hw : IntKind.i64.wrap (c + k) = c + k := by rw [IntKind.wrap_i64]; omega
  have hw' : wrap64 (c + k) = c + k := by unfold wrap64; omega
  have HL := Lib.hid hL
  have HA := Lib.hid hA
  clear hL hA
  go_enter Try.func98, Try.ntmps98
  go_wp2_with fail
  refine (store_in s.p s.d s.n D u (c + k) x w HA.out (by omega) (by omega)).mono ?_
  rintro e w2 ⟨rfl, hA2, hq⟩
  have HE : Hid (Lies s C F (put D (c + k) x) w2 ∧ Turn s w w2) := Lib.hid (And.intro (HL.out.apart hq hA2) (Turn.of_apart hq))
  clear hA2 hq
  go_wp2_with fail
  go_end0
  exact ⟨rfl, HE.out⟩
theorem next_any (s : Spot) (C F D : Nat → Int) (w : World) (hL : Lies s C F D w) (c : Int) (h0 : 1 ≤ c) (h1 : c + 3 ≤ s.n) :
    Calls Try.prog 97 #[.int .i64 c, .pointer (some ⟨s.a1, 0, none⟩), .pointer (some ⟨s.n1, 0, none⟩)] w fun e w' => e = .returned (.int .i64 (D (c + 1).toNat)) ∧ Lies s C F D w' ∧ Turn s w w' :=
  of_any s C F D w hL s.a1 s.n1 1 c hL.ba1 hL.bn1 h0 h1 (by omega)
theorem last_any (s : Spot) (C F D : Nat → Int) (w : World) (hL : Lies s C F D w) (c : Int) (h0 : 1 ≤ c) (h1 : c + 3 ≤ s.n) :
    Calls Try.prog 97 #[.int .i64 c, .pointer (some ⟨s.a2, 0, none⟩), .pointer (some ⟨s.n2, 0, none⟩)] w fun e w' => e = .returned (.int .i64 (D (c + 2).toNat)) ∧ Lies s C F D w' ∧ Turn s w w' :=
  of_any s C F D w hL s.a2 s.n2 2 c hL.ba2 hL.bn2 h0 h1 (by omega)
theorem setNext_any (s : Spot) (C F D : Nat → Int) (w : World) (hL : Lies s C F D w) (c x : Int) (h0 : 1 ≤ c) (h1 : c + 3 ≤ s.n) :
    Calls Try.prog 98 #[.int .i64 c, .int .i64 x, .pointer (some ⟨s.a1, 0, none⟩), .pointer (some ⟨s.n1, 0, none⟩)] w fun e w' => e = .returned (.tuple #[]) ∧ Lies s C F (put D (c + 1) x) w' ∧ Turn s w w' :=
  set_any s C F D w hL s.a1 s.n1 1 c x hL.ba1 hL.bn1 h0 h1 (by omega)
theorem setLast_any (s : Spot) (C F D : Nat → Int) (w : World) (hL : Lies s C F D w) (c x : Int) (h0 : 1 ≤ c) (h1 : c + 3 ≤ s.n) :
    Calls Try.prog 98 #[.int .i64 c, .int .i64 x, .pointer (some ⟨s.a2, 0, none⟩), .pointer (some ⟨s.n2, 0, none⟩)] w fun e w' => e = .returned (.tuple #[]) ∧ Lies s C F (put D (c + 2) x) w' ∧ Turn s w w' :=
  set_any s C F D w hL s.a2 s.n2 2 c x hL.ba2 hL.bn2 h0 h1 (by omega)
set_option maxHeartbeats 1000000 in
/-- join. -/
theorem join_any (s : Spot) (C F D : Nat → Int) (w : World) (hL : Lies s C F D w) (a b : Int) (h0 : 1 ≤ a) (h1 : a + 3 ≤ s.n) (h2 : 1 ≤ b) (h3 : b + 3 ≤ s.n) :
    Calls Try.prog 96 #[.pointer (some ⟨s.r, 0, none⟩), .int .i64 a, .int .i64 b] w fun e w' => e = .returned (.tuple #[]) ∧ Lies s C F (join D a b) w' ∧ Turn s w w' := by
  have c2 := hL.nset
  have HL := Lib.hid hL
  clear hL
  go_enter Try.func96, Try.ntmps96
  go_wp2_with fail
  refine (setNext_any s C F D w HL.out a b h0 h1).mono ?_
  rintro e w2 ⟨rfl, hL2, hq⟩
  have c4 := hL2.lset
  have HL2 := Lib.hid hL2
  have HQ := Lib.hid hq
  clear hL2 hq c2 HL
  go_wp2_with fail
  refine (setLast_any s C F _ w2 HL2.out b a h2 h3).mono ?_
  rintro e w3 ⟨rfl, hL3, hq3⟩
  have HE : Hid (Lies s C F (join D a b) w3 ∧ Turn s w w3) := Lib.hid (And.intro hL3 (HQ.out.trans hq3))
  clear hL3 hq3 c4 HL2 HQ
  go_wp2_with fail
  go_end0
  exact ⟨rfl, HE.out⟩
end Go.Proofs.Ythliahaopelooaa
