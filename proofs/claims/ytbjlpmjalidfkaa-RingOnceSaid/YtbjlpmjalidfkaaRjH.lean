/- A map from numbers to numbers that the call itself has made. -/
import Derived.Test.YtbjlpmjalidfkaaRjG
import Derived.Maps.OwnSet
import Derived.Maps.OwnOps
import Derived.Maps.Views
namespace Go.Proofs.Ytbjlpmjalidfkaa
open Go.RowKit

/-- A MAP OF ints: what stands at each key, which keys are there. -/
def CMap (w : World) (b n : Nat) (f : Int → Int) (dom : List Int) : Prop :=
  ∃ D : DataW Unit, w.ownsMap Try.prog 3 (plainElem Try.prog 3) b n D ∧ (∀ x, D.atKey (.int .i64 x) (.lit (.int .i64 0)) = .lit (.int .i64 (f x))) ∧ (∀ x, Maps.has D (.int .i64 x) = decide (x ∈ dom)) ∧ Maps.size D = dom.length

theorem cmap_made (w : World) : CMap (w.alloc (.map #[] 0)) w.heap.size 0 (fun _ => 0) [] := by
  refine ⟨_, World.ownsMap_made w _ _ _, fun x => ?_, fun x => ?_, rfl⟩
  · rfl
  · simp [Maps.has]
theorem CMap.kept {w w' : World} {b n : Nat} {f : Int → Int} {dom : List Int} {row : Option Nat} (h : CMap w b n f dom) (hg : w.grownBy w' row) (hne : some b ≠ row) : CMap w' b n f dom := by
  obtain ⟨D, h1, h2⟩ := h
  exact ⟨D, h1.kept hg hne, h2⟩
theorem CMap.same {w w' : World} {b n : Nat} {f : Int → Int} {dom : List Int} (h : CMap w b n f dom) (hk : w'.heap[b]? = w.heap[b]?) : CMap w' b n f dom := by
  obtain ⟨D, ⟨es, c, hb, r⟩, h2⟩ := h
  exact ⟨D, ⟨es, c, hk.trans hb, r⟩, h2⟩
theorem CMap.mono {w : World} {b n : Nat} {f : Int → Int} {dom : List Int} (h : CMap w b n f dom) : CMap w b (n + 1) f dom := by
  obtain ⟨D, h1, h2⟩ := h
  exact ⟨D, h1.mono (Nat.le_succ _), h2⟩
theorem CMap.lt {w : World} {b n : Nat} {f : Int → Int} {dom : List Int} (h : CMap w b n f dom) : b < w.heap.size := by
  obtain ⟨D, h1, h2⟩ := h
  exact h1.lt
theorem CMap.later {w w' : World} {b n : Nat} {f : Int → Int} {dom : List Int} (h : CMap w b n f dom) (hb : Below w.heap.size w w') : CMap w' b n f dom := h.same (hb.block b h.lt)
theorem CMap.turn {w w' : World} {b n : Nat} {f : Int → Int} {dom : List Int} {s : Spot} (h : CMap w b n f dom) (ht : Turn s w w') (h1 : b ≠ s.r) (h2 : b ≠ s.p) (h3 : b ≠ s.d) : CMap w' b n f dom := h.same (ht.block b h.lt h1 h2 h3)
theorem CMap.one {w w' : World} {b n q : Nat} {f : Int → Int} {dom : List Int} (h : CMap w b n f dom) (ho : One q w w') (h1 : b ≠ q) : CMap w' b n f dom := h.same (ho.block b h.lt h1)
set_option maxRecDepth 100000 in
theorem zero_int (w : World) : (zeroValue 3).run Try.prog w = .ok (.int .i64 0) w := rfl
set_option maxRecDepth 100000 in
theorem CMap.look {w : World} {b n : Nat} {f : Int → Int} {dom : List Int} (h : CMap w b n f dom) (x : Int) (hx : (Lit.int .i64 x).wf = true) :
    (Instr.lookup 29 (.map (some b)) (.int .i64 x) false).run Try.prog w = .ok (.int .i64 (f x)) w := by
  obtain ⟨D, h1, h2, -, -⟩ := h
  obtain ⟨c, hr, hat, _⟩ := h1.lookup_int (Maps.int_keyed Try.underlying3) Try.underlying29 Try.underlying3 (zero_int _) (Maps.keyOf_int_mk Try.underlying3 hx)
  rw [h2] at hat
  injection hat with hat
  injection hat with _ hat
  rw [hat]
  exact hr

theorem CMap.len {w : World} {b n : Nat} {f : Int → Int} {dom : List Int} (h : CMap w b n f dom) (ty : TypeId) : (Builtin.len_ #[29] ty #[.map (some b)]).run Try.prog w = .ok (.int .i64 dom.length) w := by
  obtain ⟨D, h1, -, -, h4⟩ := h
  rw [← h4]
  exact h1.len Try.underlying29 ty

def fput (f : Int → Int) (k u : Int) : Int → Int := fun x => if x = k then u else f x
def dput (dom : List Int) (k : Int) : List Int := if k ∈ dom then dom else k :: dom

theorem CMap.of_put {w : World} {b n : Nat} {f : Int → Int} {dom : List Int} {D : DataW Unit} {k u : Int} (hk : WideAt.IsKeyLit (.int .i64 k)) (hT : Maps.Tidy D)
    (h1 : w.ownsMap Try.prog 3 (plainElem Try.prog 3) b n (D.put (.int .i64 k) (.lit (.int .i64 u)))) (h2 : ∀ x, D.atKey (.int .i64 x) (.lit (.int .i64 0)) = .lit (.int .i64 (f x))) (h3 : ∀ x, Maps.has D (.int .i64 x) = decide (x ∈ dom)) (h4 : Maps.size D = dom.length) : CMap w b n (fput f k u) (dput dom k) := by
  refine ⟨_, h1, fun x => ?_, fun x => ?_, ?_⟩
  · unfold fput
    by_cases e : x = k
    · subst e
      rw [if_pos rfl, Maps.atKey_put_same hT.isMap hk]
    · rw [if_neg e, Maps.atKey_put_other (by simpa using e)]
      exact h2 x
  · unfold dput
    by_cases e : x = k
    · subst e
      rw [Maps.has_put_same hT.isMap hk]
      by_cases m : x ∈ dom <;> simp [m]
    · rw [Maps.has_put_other (by simpa using e), h3]
      by_cases m : k ∈ dom <;> simp [m, e]
  · rw [Maps.size_put hT, h4]
    unfold dput
    rw [h3]
    by_cases m : k ∈ dom <;> simp [m]

theorem wp_cput {ops : Array Oper} {rest : List Oper} {o : Oper} {a : Act} {Q : Exit → Act → World → Prop} (w : World) (hg : o.guard = none) (m x v : Operand) (hop : o.op = Op.mapUpdate 29 m x v)
    (b n : Nat) (f : Int → Int) (dom : List Int) (hm : a.eval m = .map (some b)) (h : CMap w b n f dom) (hn : n < 100000) (k u : Int) (hx : a.eval x = .int .i64 k) (hv : a.eval v = .int .i64 u) (hk : (Lit.int .i64 k).wf = true) (hu : (Lit.int .i64 u).wf = true)
    (hK : ∀ w', CMap w' b (n + 1) (fput f k u) (dput dom k) → w.grownBy w' (some b) → wpList Try.prog ops Q rest (a.put o.dst undef) w') : wpList Try.prog ops Q (o :: rest) a w := by
  obtain ⟨D, h1, h2, h3, h4⟩ := h
  refine wpList_mapUpdate_own w hg m x v _ hop 3 3 (Maps.int_keyed Try.underlying3) Try.underlying29 _ b n D hm h1 (by unfold maxLen; omega) _ _ (.int .i64 k) hx hv (Maps.keyOf_int_mk Try.underlying3 hk) (.lit (.int .i64 u)) [] (plainElem_int Try.underlying3 hu) ?_
  intro w' h1' hg'
  exact hK w' (CMap.of_put (by trivial) (h1.tidy (Maps.int_keyed Try.underlying3)) h1' h2 h3 h4) hg'

end Go.Proofs.Ytbjlpmjalidfkaa
