/- The arena's uses, one by one: what the function that a use hands over does where there is such a place, and where there is none; what the deferred function does; what a use is told. -/
import Derived.Test.YtbjlpmjalidfkaaChecked
import Derived.WalkKit
import Derived.Defers
import Derived.Recover
import Derived.RegionDies
import Derived.Laws.PanicsMore
import Derived.Below
import Derived.Laws.LoneSync
namespace Go.Proofs.Ytbjlpmjalidfkaa
open Go.RowKit

/-- The same memory, the same streams. -/
structure Like (w w' : World) : Prop where
  heap : w'.heap = w.heap
  os : w'.os = w.os
  tape : w'.tape = w.tape
  output : w'.output = w.output

theorem Like.refl (w : World) : Like w w := ⟨rfl, rfl, rfl, rfl⟩
theorem Like.cell {w w' : World} (h : Like w w') (a : Addr) : w'.cell? a = w.cell? a := by unfold World.cell?; rw [h.heap]
theorem Like.frozen {w w' : World} (h : Like w w') (a : Addr) : w'.frozen? a = w.frozen? a := by unfold World.frozen?; rw [h.heap]
theorem Like.below {w w' : World} (h : Like w w') (B : Nat) : Below B w w' := ⟨h.os, h.tape, h.output, by rw [h.heap]; exact Nat.le_refl _, fun k _ => by rw [h.heap]⟩

/-- Nothing that was there has turned but in two blocks. -/
structure Apart (p d : Nat) (w w' : World) : Prop where
  os : w'.os = w.os
  tape : w'.tape = w.tape
  output : w'.output = w.output
  size : w.heap.size ≤ w'.heap.size
  block : ∀ k, k < w.heap.size → k ≠ p → k ≠ d → w'.heap[k]? = w.heap[k]?

theorem Apart.refl (p d : Nat) (w : World) : Apart p d w w := ⟨rfl, rfl, rfl, Nat.le_refl _, fun _ _ _ _ => rfl⟩
theorem Apart.trans {p d : Nat} {a b c : World} (h : Apart p d a b) (k : Apart p d b c) : Apart p d a c :=
  ⟨k.os.trans h.os, k.tape.trans h.tape, k.output.trans h.output, Nat.le_trans h.size k.size, fun i hi h1 h2 => (k.block i (Nat.lt_of_lt_of_le hi h.size) h1 h2).trans (h.block i hi h1 h2)⟩
theorem Apart.of_below {p d : Nat} {w w' : World} (h : Below w.heap.size w w') : Apart p d w w' := ⟨h.os, h.tape, h.output, h.size, fun k hk _ _ => h.block k hk⟩
theorem Apart.setP (p d i : Nat) (v : Value) (w : World) : Apart p d w (w.setCell ⟨p, i, none⟩ v) :=
  ⟨rfl, rfl, rfl, by simp [World.setCell], fun k _ h _ => Below.heap_setCell _ _ _ _ h⟩
theorem Apart.setD (p d i : Nat) (v : Value) (w : World) : Apart p d w (w.setCell ⟨d, i, none⟩ v) :=
  ⟨rfl, rfl, rfl, by simp [World.setCell], fun k _ _ h => Below.heap_setCell _ _ _ _ h⟩
theorem Apart.below {p d B : Nat} {w w' : World} (h : Apart p d w w') (hp : B ≤ p) (hd : B ≤ d) (hB : B ≤ w.heap.size) : Below B w w' :=
  ⟨h.os, h.tape, h.output, h.size, fun k hk => h.block k (by omega) (by omega) (by omega)⟩
theorem Apart.then {p d : Nat} {a b c : World} (h : Apart p d a b) (k : Below a.heap.size b c) : Apart p d a c :=
  ⟨k.os.trans h.os, k.tape.trans h.tape, k.output.trans h.output, Nat.le_trans h.size k.size, fun i hi h1 h2 => (k.block i hi).trans (h.block i hi h1 h2)⟩
theorem Apart.cell {p d : Nat} {w w' : World} (h : Apart p d w w') {a : Addr} {v : Value} (hc : w.cell? a = some v) (h1 : a.block ≠ p) (h2 : a.block ≠ d) : w'.cell? a = some v :=
  (World.cell?_of_block (w := w) (h.block a.block (World.block_lt_of_cell? _ _ hc) h1 h2)).trans hc
theorem Apart.frozen {p d : Nat} {w w' : World} (h : Apart p d w w') {a : Addr} (hl : a.block < w.heap.size) (h1 : a.block ≠ p) (h2 : a.block ≠ d) : w'.frozen? a = w.frozen? a :=
  World.frozen?_of_block (w := w) (h.block a.block hl h1 h2)

/-- AN ARENA AS IT LIES: the struct's block, its words' block, how many words, what they are, how many uses. -/
structure At (w : World) (p d n : Nat) (D : Nat → Int) (u : Int) : Prop where
  words : w.cell? ⟨p, 0, none⟩ = some (.slice (some ⟨d, 0, none⟩) n n)
  uses : w.cell? ⟨p, 1, none⟩ = some (.int .i64 u)
  data : ∀ k, k < n → w.cell? ⟨d, k, none⟩ = some (.int .i64 (D k))
  fp : w.frozen? ⟨p, 1, none⟩ = false
  fd : ∀ k, k < n → w.frozen? ⟨d, k, none⟩ = false
  ne : p ≠ d
  lp : p < w.heap.size
  ld : d < w.heap.size

section
variable {w w' : World} {p d n : Nat} {D : Nat → Int} {u : Int}
theorem At.move (h : At w p d n D u) (hp : w'.heap[p]? = w.heap[p]?) (hd : w'.heap[d]? = w.heap[d]?) (hs : w.heap.size ≤ w'.heap.size) : At w' p d n D u :=
  ⟨(World.cell?_of_block (w := w) hp).trans h.words, (World.cell?_of_block (w := w) hp).trans h.uses, fun k hk => (World.cell?_of_block (w := w) hd).trans (h.data k hk), (World.frozen?_of_block (w := w) hp).trans h.fp,
    fun k hk => (World.frozen?_of_block (w := w) hd).trans (h.fd k hk), h.ne, Nat.lt_of_lt_of_le h.lp hs, Nat.lt_of_lt_of_le h.ld hs⟩
theorem At.below (h : At w p d n D u) {B : Nat} (hb : Below B w w') (hp : p < B) (hd : d < B) : At w' p d n D u := h.move (hb.block p hp) (hb.block d hd) hb.size
theorem At.later (h : At w p d n D u) (hb : Below w.heap.size w w') : At w' p d n D u := h.below hb h.lp h.ld
theorem At.apart (h : At w p d n D u) {p' d' : Nat} (hb : Apart p' d' w w') (h1 : p ≠ p') (h2 : p ≠ d') (h3 : d ≠ p') (h4 : d ≠ d') : At w' p d n D u :=
  h.move (hb.block p h.lp h1 h2) (hb.block d h.ld h3 h4) hb.size
theorem At.like (h : At w p d n D u) (hl : Like w w') : At w' p d n D u := h.move (by rw [hl.heap]) (by rw [hl.heap]) (by rw [hl.heap]; exact Nat.le_refl _)
theorem At.count (h : At w p d n D u) (v : Int) : At (w.setCell ⟨p, 1, none⟩ (.int .i64 v)) p d n D v :=
  ⟨(World.cell?_setCell_other _ _ _ _ (by simp)).trans h.words, World.cell?_setCell_same _ _ _ h.uses, fun k hk => (World.cell?_setCell_other _ _ _ _ (by simp [h.ne])).trans (h.data k hk),
    (World.frozen?_setCell _ _ _ _).trans h.fp, fun k hk => (World.frozen?_setCell _ _ _ _).trans (h.fd k hk), h.ne, by simpa [World.setCell] using h.lp, by simpa [World.setCell] using h.ld⟩
theorem At.put (h : At w p d n D u) (i : Nat) (v : Int) (hi : i < n) : At (w.setCell ⟨d, i, none⟩ (.int .i64 v)) p d n (fun k => if k = i then v else D k) u := by
  refine ⟨(World.cell?_setCell_other _ _ _ _ (by simp [Ne.symm h.ne])).trans h.words, (World.cell?_setCell_other _ _ _ _ (by simp [Ne.symm h.ne])).trans h.uses, fun k hk => ?_,
    (World.frozen?_setCell _ _ _ _).trans h.fp, fun k hk => (World.frozen?_setCell _ _ _ _).trans (h.fd k hk), h.ne, by simpa [World.setCell] using h.lp, by simpa [World.setCell] using h.ld⟩
  by_cases e : k = i
  · subst e; simp only [if_true]; exact World.cell?_setCell_same _ _ _ (h.data k hk)
  · simp only [e, if_false]; exact (World.cell?_setCell_other _ _ _ _ (by simp)).trans (h.data k hk)
theorem At.cast (h : At w p d n D u) {D' : Nat → Int} {u' : Int} (hD : ∀ k, k < n → D k = D' k) (hu : u = u') : At w p d n D' u' :=
  ⟨h.words, hu ▸ h.uses, fun k hk => (h.data k hk).trans (by rw [hD k hk]), h.fp, h.fd, h.ne, h.lp, h.ld⟩
end

/-- THE DEFERRED FUNCTION, of a frame that panics: the panic is recovered, the named result is 1. -/
theorem catch_panicking (p : Addr) (x : Int) (u : TypeId) (pv : Value) (older : List PanicEntry) (w : World) (hc : w.cell? p = some (.int .i64 x)) (hz : w.frozen? p = false) :
    CallsD Try.prog 105 #[.pointer (some p)] (.panicking ({ v := .iface u pv, recovered := false } :: older)) w fun e u' w' =>
      e = .returned (.tuple #[]) ∧ u' = .panicking ({ v := .iface u pv, recovered := true } :: older) ∧ w' = w.setCell p (.int .i64 1) := by
  refine callsD_of_wpS Try.func105 rfl fun c₀ cs hu => ?_
  apply wpS_seq
  apply wpS_region
  simp [wpOpsS, go_sem, recoverD, hu, Try.ntmps105, Exit.thenS]
  refine wpS_cond (t := true) (by simp [Act.eval, Array.replicate]) ?_
  simp only [if_true]
  apply wpS_region
  simp [wpOpsS, go_sem, hc, hz, bodyPostS, results, Try.results105]

/-- THE DEFERRED FUNCTION, of a frame that returns: nothing. -/
theorem catch_idle (p : Addr) (w : World) :
    CallsD Try.prog 105 #[.pointer (some p)] .returning w fun e u' w' => e = .returned (.tuple #[]) ∧ u' = .returning ∧ w' = w := by
  refine callsD_of_wpS Try.func105 rfl fun c₀ cs hu => ?_
  apply wpS_seq
  apply wpS_region
  simp [wpOpsS, go_sem, recoverD, hu, Try.ntmps105, Exit.thenS]
  refine wpS_cond (t := false) (by simp [Act.eval, Array.replicate]) ?_
  simp only [Bool.false_eq_true, if_false]
  refine wpS_of_wp (wp_skip ?_)
  cases c₀
  simp_all [bodyPostS, results, Try.results105]

/-- The panic of an index out of range. -/
def outPanic (e : Ending) : Prop := ∃ pv, e = .panicked [{ v := .iface Try.prog.rt.boundsError pv, recovered := false }]

theorem run_out {α : Type} (k : IntKind) (x y : Int) (code : BoundsCode) (w : World) :
    ∃ pv w', (boundsPanic k x y code : Sem α).run Try.prog w = .halt (.panic (.iface Try.prog.rt.boundsError pv)) w' ∧ Like w w' := by
  unfold boundsPanic
  split
  · refine ⟨.agg #[.int .i64 (IntKind.i64.wrap x), .int .i64 y, .bool ((Question.extern "runtime.boundsError.signed" 2).cut (w.tape w.drawn (Question.extern "runtime.boundsError.signed" 2)) == 1), .int .u8 code.toNat], w.drew, ?_, ⟨rfl, rfl, rfl, rfl⟩⟩
    simp [runtimePanic, goPanic, go_sem]
  · refine ⟨.agg #[.int .i64 (IntKind.i64.wrap x), .int .i64 y, .bool (k != IntKind.u64), .int .u8 code.toNat], w, ?_, ⟨rfl, rfl, rfl, rfl⟩⟩
    simp [runtimePanic, goPanic, go_sem]

theorem Like.trans {a b c : World} (h : Like a b) (k : Like b c) : Like a c := ⟨k.heap.trans h.heap, k.os.trans h.os, k.tape.trans h.tape, k.output.trans h.output⟩

/-- An operation whose index is out of range ends the call. -/
theorem upon_out {α : Type} {k : IntKind} {x y : Int} {code : BoundsCode} {o : Oper} {a : Act} {K : Act → World → Prop} {fn : Func} {R : Ending → World → Prop} {g : α → World → Result Next} (w0 : World) {w : World} (hL : Like w0 w)
    (hd : a.defers = []) (hR : ∀ e w', outPanic e → Like w0 w' → R e w') :
    Oper.upon Try.prog o a K (bodyPost Try.prog fn R) (((boundsPanic k x y code : Sem α).run Try.prog w).andThen g) := by
  obtain ⟨pv, w', e, hl⟩ := run_out (α := α) k x y code w
  rw [e]
  simp only [Result.andThen, Oper.upon]
  exact ⟨hd, hR _ _ ⟨pv, rfl⟩ (hL.trans hl)⟩

set_option maxHeartbeats 1000000 in
/-- Load's inner function, where there is such a place. -/
theorem load1_in (b0 b1 b2 p d n : Nat) (D : Nat → Int) (u i x : Int) (w : World) (hA : At w p d n D u) (h0 : 0 ≤ i) (h1 : i < n)
    (ha : w.cell? ⟨b0, 0, none⟩ = some (.pointer (some ⟨p, 0, none⟩))) (hi : w.cell? ⟨b1, 0, none⟩ = some (.int .i64 i)) (hx : w.cell? ⟨b2, 0, none⟩ = some (.int .i64 x)) (hz : w.frozen? ⟨b2, 0, none⟩ = false) :
    Calls Try.prog 91 #[.pointer (some ⟨b0, 0, none⟩), .pointer (some ⟨b1, 0, none⟩), .pointer (some ⟨b2, 0, none⟩)] w fun e w' => e = .returned (.tuple #[]) ∧ Like (w.setCell ⟨b2, 0, none⟩ (.int .i64 (D i.toNat))) w' := by
  have hb : 0 ≤ i ∧ i < (n : Int) := ⟨h0, h1⟩
  have hw := hA.words
  have hy := hA.data i.toNat (by omega)
  have hfd := hA.fd i.toNat (by omega)
  clear hA
  go_enter Try.func91, Try.ntmps91
  go_wp2
  go_region
  all_goals go_wp2
  all_goals go_end0
  all_goals exact ⟨rfl, ⟨rfl, rfl, rfl, rfl⟩⟩

set_option maxHeartbeats 1000000 in
/-- Store's inner function, where there is such a place. -/
theorem store1_in (b0 b1 b2 p d n : Nat) (D : Nat → Int) (u i x : Int) (w : World) (hA : At w p d n D u) (h0 : 0 ≤ i) (h1 : i < n)
    (ha : w.cell? ⟨b0, 0, none⟩ = some (.pointer (some ⟨p, 0, none⟩))) (hi : w.cell? ⟨b1, 0, none⟩ = some (.int .i64 i)) (hx : w.cell? ⟨b2, 0, none⟩ = some (.int .i64 x)) :
    Calls Try.prog 88 #[.pointer (some ⟨b2, 0, none⟩), .pointer (some ⟨b0, 0, none⟩), .pointer (some ⟨b1, 0, none⟩)] w fun e w' => e = .returned (.tuple #[]) ∧ Like (w.setCell ⟨d, i.toNat, none⟩ (.int .i64 x)) w' := by
  have hb : 0 ≤ i ∧ i < (n : Int) := ⟨h0, h1⟩
  have hw := hA.words
  have hy := hA.data i.toNat (by omega)
  have hfd := hA.fd i.toNat (by omega)
  clear hA
  go_enter Try.func88, Try.ntmps88
  go_wp2
  go_region
  all_goals go_wp2
  all_goals go_end0
  all_goals exact ⟨rfl, ⟨rfl, rfl, rfl, rfl⟩⟩

set_option maxHeartbeats 1000000 in
/-- Load's inner function, where there is no such place. -/
theorem load1_out (b0 b1 b2 p d n : Nat) (D : Nat → Int) (u i x : Int) (w : World) (hA : At w p d n D u) (ho : ¬ (0 ≤ i ∧ i < (n : Int)))
    (ha : w.cell? ⟨b0, 0, none⟩ = some (.pointer (some ⟨p, 0, none⟩))) (hi : w.cell? ⟨b1, 0, none⟩ = some (.int .i64 i)) (_ : w.cell? ⟨b2, 0, none⟩ = some (.int .i64 x)) (_ : w.frozen? ⟨b2, 0, none⟩ = false) :
    Calls Try.prog 91 #[.pointer (some ⟨b0, 0, none⟩), .pointer (some ⟨b1, 0, none⟩), .pointer (some ⟨b2, 0, none⟩)] w fun e w' => outPanic e ∧ Like w w' := by
  have hw := hA.words
  clear hA
  go_enter Try.func91, Try.ntmps91
  go_wp2
  go_region_dies
  all_goals exact upon_out w ⟨rfl, rfl, rfl, rfl⟩ rfl (fun e w' h1 h2 => ⟨h1, h2⟩)

set_option maxHeartbeats 1000000 in
/-- Store's inner function, where there is no such place. -/
theorem store1_out (b0 b1 b2 p d n : Nat) (D : Nat → Int) (u i x : Int) (w : World) (hA : At w p d n D u) (ho : ¬ (0 ≤ i ∧ i < (n : Int)))
    (ha : w.cell? ⟨b0, 0, none⟩ = some (.pointer (some ⟨p, 0, none⟩))) (hi : w.cell? ⟨b1, 0, none⟩ = some (.int .i64 i)) (hx : w.cell? ⟨b2, 0, none⟩ = some (.int .i64 x)) :
    Calls Try.prog 88 #[.pointer (some ⟨b2, 0, none⟩), .pointer (some ⟨b0, 0, none⟩), .pointer (some ⟨b1, 0, none⟩)] w fun e w' => outPanic e ∧ Like w w' := by
  have hw := hA.words
  clear hA
  go_enter Try.func88, Try.ntmps88
  go_wp2
  go_region_dies
  all_goals exact upon_out w ⟨rfl, rfl, rfl, rfl⟩ rfl (fun e w' h1 h2 => ⟨h1, h2⟩)

end Go.Proofs.Ytbjlpmjalidfkaa
