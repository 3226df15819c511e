/- A map from texts to kinds that the call itself has made; kindsOfRuns. -/
import Derived.Test.YtkeeglpbhjnmdaaDoorLxA
import Derived.Maps.OwnSet
import Derived.Maps.OwnOps
import Derived.Maps.Views
import Derived.Deep.AppendLies
import Derived.Laws.EntriesVeiled
import Derived.OpenShut
import Derived.ProofKit
namespace Go.Proofs.YtkeeglpbhjnmdaaDoor
open Go.RowKit

theorem later' {w w' : World} (hb : Below w.heap.size w w') {a : Addr} {v : Value} (h : w.cell? a = some v) : w'.cell? a = some v := (hb.cell (World.block_lt_of_cell? _ _ h)).trans h
theorem onB' {a b c : World} (h : Below a.heap.size a b) (k : Below b.heap.size b c) : Below a.heap.size a c := h.trans (k.mono h.size)

/-- A MAP OF KINDS: what stands at each text. -/
def KMap (w : World) (b n : Nat) (f : List UInt8 → Option Int) : Prop :=
  ∃ D : DataW Unit, w.ownsMap Tryd.prog 9 (plainElem Tryd.prog 3) b n D ∧ (∀ l, D.atKey (.string l) (.lit (.int .i64 0)) = .lit (.int .i64 ((f l).getD 0))) ∧ ∀ l, Maps.has D (.string l) = (f l).isSome

theorem kmap_made (w : World) : KMap (w.alloc (.map #[] 0)) w.heap.size 0 (fun _ => none) := by
  refine ⟨_, World.ownsMap_made w _ _ _, fun l => rfl, fun l => ?_⟩
  simp [Maps.has]
theorem KMap.same {w w' : World} {b n : Nat} {f : List UInt8 → Option Int} (h : KMap w b n f) (hk : w'.heap[b]? = w.heap[b]?) : KMap w' b n f := by
  obtain ⟨D, ⟨es, c, hb, r⟩, h2⟩ := h
  exact ⟨D, ⟨es, c, hk.trans hb, r⟩, h2⟩
theorem KMap.lt {w : World} {b n : Nat} {f : List UInt8 → Option Int} (h : KMap w b n f) : b < w.heap.size := by
  obtain ⟨D, h1, h2⟩ := h
  exact h1.lt
theorem KMap.later {w w' : World} {b n : Nat} {f : List UInt8 → Option Int} (h : KMap w b n f) (hb : Below w.heap.size w w') : KMap w' b n f := h.same (hb.block b h.lt)
theorem KMap.to {w : World} {b n : Nat} {f g : List UInt8 → Option Int} (h : KMap w b n f) (e : ∀ l, g l = f l) : KMap w b n g := by
  obtain rfl : g = f := funext e
  exact h
set_option maxRecDepth 100000 in
theorem zero_int (w : World) : (zeroValue 3).run Tryd.prog w = .ok (.int .i64 0) w := rfl
theorem key_of (s : ByteArray) (hs : s.size ≤ maxLen) : keyOf Tryd.prog 9 (.string s) = some (.string s.data.toList) := WideMaps.keyOf_string_mk Tryd.underlying9 hs
set_option maxRecDepth 100000 in
theorem KMap.look {w : World} {b n : Nat} {f : List UInt8 → Option Int} (h : KMap w b n f) (s : ByteArray) (hs : s.size ≤ maxLen) :
    (Instr.lookup 53 (.map (some b)) (.string s) false).run Tryd.prog w = .ok (.int .i64 ((f s.data.toList).getD 0)) w := by
  obtain ⟨D, h1, h2, -⟩ := h
  obtain ⟨c, hr, hat, _⟩ := h1.lookup_int (Maps.string_keyed Tryd.underlying9) Tryd.underlying53 Tryd.underlying3 (zero_int _) (key_of s hs)
  rw [h2] at hat
  injection hat with hat
  injection hat with _ hat
  rw [hat]
  exact hr
set_option maxRecDepth 100000 in
theorem KMap.look_ok {w : World} {b n : Nat} {f : List UInt8 → Option Int} (h : KMap w b n f) (s : ByteArray) (hs : s.size ≤ maxLen) :
    (Instr.lookup 53 (.map (some b)) (.string s) true).run Tryd.prog w = .ok (.tuple #[.int .i64 ((f s.data.toList).getD 0), .bool (f s.data.toList).isSome]) w := by
  obtain ⟨D, h1, h2, h3⟩ := h
  obtain ⟨v, ps, hr, hv⟩ := h1.look_ok (Maps.string_keyed Tryd.underlying9) Tryd.underlying53 (zero_int _) (plainElem_int Tryd.underlying3 (by decide)) (key_of s hs)
  rw [h2] at hv
  obtain ⟨c, rfl, hc, hwc⟩ := plainElem_int_inv Tryd.underlying3 hv
  simp only [Prod.mk.injEq, DataW.lit.injEq, Lit.int.injEq, true_and] at hc
  rw [h3] at hr
  rw [hc.1]
  exact hr

def kput (f : List UInt8 → Option Int) (k : List UInt8) (u : Int) : List UInt8 → Option Int := fun l => if l = k then some u else f l

theorem KMap.put {w : World} {b n : Nat} {f : List UInt8 → Option Int} {D : DataW Unit} {k : List UInt8} {u : Int} (hT : Maps.Tidy D)
    (h1 : w.ownsMap Tryd.prog 9 (plainElem Tryd.prog 3) b n (D.put (.string k) (.lit (.int .i64 u)))) (h2 : ∀ l, D.atKey (.string l) (.lit (.int .i64 0)) = .lit (.int .i64 ((f l).getD 0))) (h3 : ∀ l, Maps.has D (.string l) = (f l).isSome) : KMap w b n (kput f k u) := by
  refine ⟨_, h1, fun l => ?_, fun l => ?_⟩
  · unfold kput
    by_cases e : l = k
    · subst e
      rw [if_pos rfl, Maps.atKey_put_same hT.isMap (by trivial)]
      rfl
    · rw [if_neg e, Maps.atKey_put_other (by simpa using e)]
      exact h2 l
  · unfold kput
    by_cases e : l = k
    · subst e
      rw [Maps.has_put_same hT.isMap (by trivial), if_pos rfl]
      rfl
    · rw [Maps.has_put_other (by simpa using e), h3, if_neg e]

theorem KMap.store {w : World} {b n : Nat} {f : List UInt8 → Option Int} (h : KMap w b n f) (hn : n < 100000) (s : ByteArray) (hs : s.size ≤ maxLen) (u : Int) (hu : (Lit.int .i64 u).wf = true) :
    ∃ w', (Instr.mapUpdate 53 (.map (some b)) (.string s) (.int .i64 u)).run Tryd.prog w = .ok () w' ∧ KMap w' b (n + 1) (kput f s.data.toList u) ∧ w.grownBy w' (some b) := by
  obtain ⟨D, h1, h2, h3⟩ := h
  obtain ⟨w', hrun, r1, r2⟩ := h1.update (Maps.string_keyed Tryd.underlying9) Tryd.underlying53 (by unfold maxLen; omega) (key_of s hs) (plainElem_int Tryd.underlying3 hu)
  exact ⟨w', hrun, KMap.put (h1.tidy (Maps.string_keyed Tryd.underlying9)) r1 h2 h3, r2⟩
/-- A store into it, as an operation; as a literal's entry. -/
theorem wp_kput {o : Oper} {a : Act} {K : Act → World → Prop} {Q : Exit → Act → World → Prop} (w : World) (m x v : Operand) (hop : o.op = Op.mapUpdate 53 m x v ∨ o.op = Op.insert 53 m x v)
    (b n : Nat) (f : List UInt8 → Option Int) (hm : a.eval m = .map (some b)) (h : KMap w b n f) (hn : n < 100000) (s : ByteArray) (hs : s.size ≤ maxLen) (u : Int) (hx : a.eval x = .string s) (hv : a.eval v = .int .i64 u) (hu : (Lit.int .i64 u).wf = true)
    (hK : ∀ w', KMap w' b (n + 1) (kput f s.data.toList u) → w.grownBy w' (some b) → K (a.put o.dst undef) w') : Oper.wp Tryd.prog o a w K Q := by
  obtain ⟨D, h1, h2, h3⟩ := h
  obtain ⟨w', hrun, r1, r2⟩ := h1.update (Maps.string_keyed Tryd.underlying9) Tryd.underlying53 (by unfold maxLen; omega) (key_of s hs) (plainElem_int Tryd.underlying3 hu)
  unfold Oper.wp
  have hk := hK w' (KMap.put (h1.tidy (Maps.string_keyed Tryd.underlying9)) r1 h2 h3) r2
  rcases hop with hop | hop <;> simp [execOp, hop, hm, hx, hv, hrun, Result.andThen] <;> exact hk
theorem list_kput {ops : Array Oper} {rest : List Oper} {o : Oper} {a : Act} {Q : Exit → Act → World → Prop} (w : World) (hg : o.guard = none) (m x v : Operand) (hop : o.op = Op.mapUpdate 53 m x v ∨ o.op = Op.insert 53 m x v)
    (b n : Nat) (f : List UInt8 → Option Int) (hm : a.eval m = .map (some b)) (h : KMap w b n f) (hn : n < 100000) (s : ByteArray) (hs : s.size ≤ maxLen) (u : Int) (hx : a.eval x = .string s) (hv : a.eval v = .int .i64 u) (hu : (Lit.int .i64 u).wf = true)
    (hK : ∀ w', KMap w' b (n + 1) (kput f s.data.toList u) → w.grownBy w' (some b) → wpList Tryd.prog ops Q rest (a.put o.dst undef) w') : wpList Tryd.prog ops Q (o :: rest) a w :=
  wpList_plain hg fun _ hK' => wp_kput w m x v hop b n f hm h hn s hs u hx hv hu fun w' h1 h2 => hK' _ _ (hK w' h1 h2)
theorem step_kput {ops : Array Oper} {o : Oper} {a : Act} {K : Act → World → Prop} {Q : Exit → Act → World → Prop} {E : Prop} (w : World) (hg : o.guard = none) (m x v : Operand) (hop : o.op = Op.mapUpdate 53 m x v ∨ o.op = Op.insert 53 m x v)
    (b n : Nat) (f : List UInt8 → Option Int) (hm : a.eval m = .map (some b)) (h : KMap w b n f) (hn : n < 100000) (s : ByteArray) (hs : s.size ≤ maxLen) (u : Int) (hx : a.eval x = .string s) (hv : a.eval v = .int .i64 u) (hu : (Lit.int .i64 u).wf = true)
    (hK : ∀ w', KMap w' b (n + 1) (kput f s.data.toList u) → w.grownBy w' (some b) → K (a.put o.dst undef) w') :
    if Region.wanted o (yielded ops a.tmps) = true then Oper.wp Tryd.prog o a w K Q else E := by
  have hw : Region.wanted o (yielded ops a.tmps) = true := by simp [Region.wanted, hg]
  rw [if_pos hw]
  exact wp_kput w m x v hop b n f hm h hn s hs u hx hv hu hK

/-- Each byte of some, alone. -/
def kputs (f : List UInt8 → Option Int) (l : List UInt8) (u : Int) : List UInt8 → Option Int := fun r => if ∃ c, c ∈ l ∧ r = [c] then some u else f r
theorem kputs_nil (f : List UInt8 → Option Int) (u : Int) : kputs f [] u = f := by
  funext r
  unfold kputs
  rw [if_neg (by rintro ⟨c, hc, _⟩; cases hc)]
theorem kputs_snoc (f : List UInt8 → Option Int) (l : List UInt8) (c : UInt8) (u : Int) : kputs f (l ++ [c]) u = kput (kputs f l u) [c] u := by
  funext r
  unfold kputs kput
  by_cases e : r = [c]
  · rw [if_pos e, if_pos ⟨c, by simp, e⟩]
  · rw [if_neg e]
    show _ = (if ∃ c, c ∈ l ∧ r = [c] then some u else f r)
    by_cases g : ∃ x, x ∈ l ∧ r = [x]
    · rw [if_pos g, if_pos (by obtain ⟨x, h1, h2⟩ := g; exact ⟨x, by simp [h1], h2⟩)]
    · rw [if_neg g, if_neg]
      rintro ⟨x, h1, h2⟩
      rcases List.mem_append.1 h1 with h1 | h1
      · exact g ⟨x, h1, h2⟩
      · rw [List.mem_singleton] at h1
        subst h1
        exact e h2
theorem byte_of (s : ByteArray) (j : Nat) (h : j < s.size) : (s.extract j (j + 1)).data.toList = [s[j]] ∧ s.data.toList.take (j + 1) = s.data.toList.take j ++ [s[j]] := by
  have hl : j < s.data.toList.length := by simpa using h
  constructor
  · have : (s.extract j (j + 1)).data.toList = (s.data.toList.drop j).take (j + 1 - j) := by simp [ByteArray.data_extract]
    rw [this, List.drop_eq_getElem_cons hl, show j + 1 - j = 1 by omega]
    rfl
  · rw [List.take_succ_eq_append_getElem hl]
    rfl

end Go.Proofs.YtkeeglpbhjnmdaaDoor
