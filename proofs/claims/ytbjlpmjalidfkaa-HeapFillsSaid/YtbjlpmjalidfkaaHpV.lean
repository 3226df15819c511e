/- A map from numbers to bools that the call itself has made; beside a heap. -/
import Derived.Test.YtbjlpmjalidfkaaHpU
import Derived.Maps.OwnSet
import Derived.Maps.OwnOps
import Derived.Maps.Views
namespace Go.Proofs.Ytbjlpmjalidfkaa
open Go.RowKit

/-- A MAP OF bools: which keys have true. -/
def BMap (w : World) (b n : Nat) (dom : List Int) : Prop :=
  ∃ D : DataW Unit, w.ownsMap Try.prog 3 (plainElem Try.prog 4) b n D ∧ ∀ x, D.atKey (.int .i64 x) (.lit (.bool false)) = .lit (.bool (decide (x ∈ dom)))

theorem bmap_made (w : World) : BMap (w.alloc (.map #[] 0)) w.heap.size 0 [] := by
  refine ⟨_, World.ownsMap_made w _ _ _, fun x => ?_⟩
  simp
  rfl
theorem BMap.same {w w' : World} {b n : Nat} {dom : List Int} (h : BMap w b n dom) (hk : w'.heap[b]? = w.heap[b]?) : BMap w' b n dom := by
  obtain ⟨D, ⟨es, c, hb, r⟩, h2⟩ := h
  exact ⟨D, ⟨es, c, hk.trans hb, r⟩, h2⟩
theorem BMap.lt {w : World} {b n : Nat} {dom : List Int} (h : BMap w b n dom) : b < w.heap.size := by
  obtain ⟨D, h1, h2⟩ := h
  exact h1.lt
theorem BMap.later {w w' : World} {b n : Nat} {dom : List Int} (h : BMap w b n dom) (hb : Below w.heap.size w w') : BMap w' b n dom := h.same (hb.block b h.lt)
theorem BMap.turn {w w' : World} {b n : Nat} {dom : List Int} {T T' : Nat → Nat} (h : BMap w b n dom) (ht : HTurn T T' w w') (hT : T b = 1000) : BMap w' b n dom := h.same (ht.block b h.lt hT).2
set_option maxRecDepth 100000 in
theorem zero_bool (w : World) : (zeroValue 4).run Try.prog w = .ok (.bool false) w := rfl
theorem plain_bool_inv {P : Program} {e : TypeId} (he : P.underlying e = some .bool) {v : Value} {z : DataW Unit × List MemPlace} (h : plainElem P e v = some z) : ∃ a, v = .bool a ∧ z = (.lit (.bool a), []) := by
  unfold plainElem at h
  rw [he] at h
  cases v <;> simp at h
  subst h
  exact ⟨_, rfl, rfl⟩
set_option maxRecDepth 100000 in
theorem BMap.look {w : World} {b n : Nat} {dom : List Int} (h : BMap w b n dom) (x : Int) (hx : (Lit.int .i64 x).wf = true) :
    (Instr.lookup 76 (.map (some b)) (.int .i64 x) false).run Try.prog w = .ok (.bool (decide (x ∈ dom))) w := by
  obtain ⟨D, h1, h2⟩ := h
  obtain ⟨v, ps, hr, hv⟩ := h1.lookup (Maps.int_keyed Try.underlying3) Try.underlying76 (zero_bool _) (plainElem_bool Try.underlying4 false) (Maps.keyOf_int_mk Try.underlying3 hx)
  obtain ⟨a, rfl, ha⟩ := plain_bool_inv Try.underlying4 hv
  rw [h2] at ha
  simp only [Prod.mk.injEq, DataW.lit.injEq, Lit.bool.injEq] at ha
  rw [← ha.1] at hr
  exact hr

theorem wp_bput {ops : Array Oper} {rest : List Oper} {o : Oper} {a : Act} {Q : Exit → Act → World → Prop} (w : World) (hg : o.guard = none) (m x v : Operand) (hop : o.op = Op.mapUpdate 76 m x v)
    (b n : Nat) (dom : List Int) (hm : a.eval m = .map (some b)) (h : BMap w b n dom) (hn : n < 100000) (k : Int) (hx : a.eval x = .int .i64 k) (hv : a.eval v = .bool true) (hk : (Lit.int .i64 k).wf = true)
    (hK : ∀ w', BMap w' b (n + 1) (dom ++ [k]) → w.grownBy w' (some b) → wpList Try.prog ops Q rest (a.put o.dst undef) w') : wpList Try.prog ops Q (o :: rest) a w := by
  obtain ⟨D, h1, h2⟩ := h
  refine wpList_mapUpdate_own w hg m x v _ hop 3 4 (Maps.int_keyed Try.underlying3) Try.underlying76 _ b n D hm h1 (by unfold maxLen; omega) _ _ (.int .i64 k) hx hv (Maps.keyOf_int_mk Try.underlying3 hk) (.lit (.bool true)) [] (plainElem_bool Try.underlying4 true) ?_
  intro w' h1' hg'
  refine hK w' ⟨_, h1', fun y => ?_⟩ hg'
  have hT := h1.tidy (Maps.int_keyed Try.underlying3)
  by_cases e : y = k
  · subst e
    rw [Maps.atKey_put_same hT.isMap (by trivial)]
    simp
  · rw [Maps.atKey_put_other (by simpa using e), h2]
    simp [e]

/-- A heap beside a map that turns. -/
theorem HLies.mapped {x : HSpot} {T : Nat → Nat} {D : Nat → Int} {R : Nat → Rows} {top par : Int} {L : List (Int × Int)} {w w' : World} {kb : Nat} (h : HLies x T D R top par L w) (hg : w.grownBy w' (some kb)) (hk : T kb = 1000) (hs : w.heap.size ≤ w'.heap.size) : HLies x T D R top par L w' := by
  obtain ⟨u, hu⟩ := h.at
  obtain ⟨cb, cap, g, hT, -, -, -⟩ := h.rest
  have k6 := h.k6
  have ne : ∀ b, T b ≠ 1000 → some b ≠ some kb := fun b hb e => hb (by rw [Option.some.inj e]; exact hk)
  exact h.anew hs (fun b hl hT' => hg.block b hl (ne b (by omega))) ⟨u, hu.move (hg.block _ hu.lp (ne _ (by rw [hT.p]; omega))) (hg.block _ hu.ld (ne _ (by rw [hT.d]; omega))) hs⟩ (fun _ _ _ _ => rfl)

end Go.Proofs.Ytbjlpmjalidfkaa
