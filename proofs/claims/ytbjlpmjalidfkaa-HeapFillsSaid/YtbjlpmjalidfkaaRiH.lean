/- A loop over an iterator that turns cells of its own between two rounds: what its caller owes, and what it owes. -/
import Derived.Test.YtbjlpmjalidfkaaRiG
import Derived.RangeFuncNested
import Derived.RangeFuncBound
import Derived.RangeFuncCalls
import Derived.RangeFuncLeaves
import Derived.Shelf.Abstract
import Derived.Shelf.RegionOpen
import Derived.OwnWalkIn
import Derived.TacticsInMore
import Derived.LoopNIn
import Derived.LoopIn
namespace Go.Proofs.Ytbjlpmjalidfkaa
open Go.RowKit Go.Shelf

/-- A body that goes on, whatever it did. -/
def goesOn (T : World → Prop) : Exit → Act → World → Prop
  | .normal, _, W => T W
  | _, _, _ => False

/-- What a round's book-keeping leans on: two blocks, which it has laid. -/
structure Book (b : Nat) (r : Obj) (W : World) : Prop where
  turns : W.heap[b + 1]? = some r
  late : W.heap[b]? = some (.deferred (some []))

theorem Book.kept {b : Nat} {r : Obj} {A A' : World} (h : Book b r A) (h0 : A'.heap[b]? = A.heap[b]?) (h1 : A'.heap[b + 1]? = A.heap[b + 1]?) : Book b r A' := ⟨h1.trans h.turns, h0.trans h.late⟩
theorem Book.lt {b : Nat} {r : Obj} {A : World} (h : Book b r A) : b + 1 < A.heap.size := (Array.getElem?_eq_some_iff.1 h.turns).1

section
variable {P : Program} {n : Nat}

set_option maxHeartbeats 1000000 in
theorem range_by {α : Type} {g : Operand} {ps : Array Tmp} {assign body : Code} {Q : Exit → Act → World → Prop} {a : Act} {w : World} {gf : Nat} {lb : Array Value}
    (hg : a.eval g = .func (.func gf) #[] lb) (eg : ∀ args w, (callFunc gf args).run P w = .ok (.enter gf args) w)
    (encs : α → Array Value) (hps : ∀ x, (encs x).size = ps.size) (xs : List α) (I : List α → World → Prop)
    (hput : ∀ pre W l o o', I pre W → w.heap.size ≤ l → W.heap[l]? = some o → o.isCells = false → I pre (W.putObj l o'))
    (h0 : ∀ o o', I [] ((w.alloc o).alloc o')) (a₁ : α → Act)
    (hassign : ∀ (l : Nat) (x : α) (W : World) (K : Act → World → Prop), K (a₁ x) W →
      assign.wpIn (Fence.wide.inRound l) (n - 1 - 1) P (Exit.then K (fun _ _ _ => False)) { tmps := (ps.zip (encs x)).foldl (fun t (p, v) => t.setIfInBounds p v) a.tmps, defers := [] } W)
    (hbody : ∀ (l : Nat) (pre : List α) (x : α) (W : World), I pre W → pre ++ [x] <+: xs → body.wpIn (Fence.wide.inRound l) (n - 1 - 1) P (goesOn fun W' => KeepsOthers W W' ∧ I (pre ++ [x]) W') (a₁ x) W)
    (hiter : ∀ (r : Obj) (W1 : World),
      (∀ pre x W, I pre W → Book w.heap.size r W → pre ++ [x] <+: xs → YieldAt Fence.wide (n - 1 - 1) P (w.heap.size + 1) (encs x) W fun e W' => e = .returned (.bool true) ∧ I (pre ++ [x]) W' ∧ Book w.heap.size r W') →
      I [] W1 → Book w.heap.size r W1 →
      CallsIn Fence.wide (n - 1) P gf (#[.func (.yield (w.heap.size + 1)) #[] #[]] ++ lb) W1 fun e W' => (∃ v, e = .returned v) ∧ I xs W' ∧ Book w.heap.size r W')
    (hdone : ∀ (D : Nat) (W : World), w.heap.size ≤ D → I xs W → W.heap[D]? = some (.deferred (some [])) → Q .normal { a with defers := { target := .collected D, args := #[] } :: a.defers } W) :
    (Code.rangeFunc g ps assign body).wpIn Fence.wide n P Q a w := by
  refine wpIn_rangeFunc ?_
  intro fn hfn
  let L : LoopState → Loop := fun st => { state := st, pending := none, fn, tmps := a.tmps, params := ps, assign, body, defers := w.heap.size }
  have hrec : ∀ o : Obj, ((w.alloc o).alloc (.loop (L .ready))).heap[w.heap.size + 1]? = some (.loop (L .ready)) := fun o => by
    have := World.alloc_heap_new (w.alloc o) (.loop (L .ready))
    rwa [World.size_alloc] at this
  have hdef : ((w.alloc (.deferred (some []))).alloc (.loop (L .ready))).heap[w.heap.size]? = some (.deferred (some [])) :=
    (Below.heap_alloc _ _ _ (by simp)).trans (World.alloc_heap_new w _)
  refine ⟨w.heap.size + 1, [{ target := .collected w.heap.size, args := #[] }], (w.alloc (.deferred (some []))).alloc (.loop (L .ready)), { target := .fn (.func gf) lb, args := #[.func (.yield (w.heap.size + 1)) #[] #[]] }, (w.alloc (.deferred (some []))).alloc (.loop (L .ready)), gf,
    #[.func (.yield (w.heap.size + 1)) #[] #[]] ++ lb, (w.alloc (.deferred (some []))).alloc (.loop (L .ready)), run_enterLoop_outer _ _ _ _ _, ?_, fun (_ : FuncId) _ => trivial, ?_, fun h => (by cases h), ?_⟩
  · simp only [resolve, hg]
    simp [go_sem]
  · simp [invoke, go_sem, eg, L]
  refine (hiter (.loop (L .ready)) _ ?_ (h0 _ _) ⟨hrec _, hdef⟩).mono ?_
  · intro pre x W hi hb hx
    have hy := run_yield (P := P) (args := encs x) hb.turns (hps x)
    refine ⟨fn, _, assign, body, hy, roundIn_of_wpIn hfn (hassign _ x W _ ⟨_, run_beginRound hb.turns rfl, ?_⟩)⟩
    have hb1 : (W.putObj (w.heap.size + 1) (.loop { L .ready with state := .busy })).heap[w.heap.size + 1]? = some (.loop (L .busy)) := World.putObj_heap_same hb.lt
    have hb2 : (W.putObj (w.heap.size + 1) (.loop { L .ready with state := .busy })).heap[w.heap.size]? = some (.deferred (some [])) := (World.putObj_heap_other (by omega)).trans hb.late
    refine wpIn_mono (hbody _ pre x _ (hput _ _ _ _ _ hi (by omega) hb.turns rfl) hx) ?_
    intro e a3 W3 hp
    cases e with
    | normal =>
      obtain ⟨hk, hi3⟩ := hp
      have h1 := hk.same _ _ hb1 rfl
      have h2 := hk.same _ _ hb2 rfl
      exact ⟨_, _, run_endRound (P := P) none h1, rfl, hput _ _ _ _ _ hi3 (by omega) h1 rfl, World.putObj_heap_same (Array.getElem?_eq_some_iff.1 h1).1, (World.putObj_heap_other (by omega)).trans h2⟩
    | ret => exact hp.elim
    | exit id => exact hp.elim
    | goto t => exact hp.elim
    | panic ch => exact hp.elim
    | outgrown => exact hp.elim
  · rintro e W2 ⟨⟨v, rfl⟩, hi, hb⟩
    exact ⟨none, _, run_endLoop (P := P) hb.turns (by simp [L]), hdone _ _ (Nat.le_refl _) (hput _ _ _ _ _ hi (by omega) hb.turns rfl) ((World.putObj_heap_other (by omega)).trans hb.late)⟩
end

end Go.Proofs.Ytbjlpmjalidfkaa
