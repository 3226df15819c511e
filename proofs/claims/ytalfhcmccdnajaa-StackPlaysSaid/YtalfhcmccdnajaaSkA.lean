/- Frames, and lists of them, as they lie; an append of one, a cut of the last one. -/
import Derived.Test.YtalfhcmccdnajaaChecked
import Derived.WalkKit
import Derived.Defers
import Derived.Recover
import Derived.RegionDies
import Derived.Below
import Derived.Laws.OwnMore
import Derived.Laws.CopyRow
import Derived.Laws.Externs
import Derived.Laws.IdiomCopy
import Derived.Laws.AppendOwn
import Derived.Deep.RegionLaw
import Derived.Deep.AppendLies
import Derived.Deep.DeepCutAuto
import Derived.Deep.RegionHeld3
import Derived.Laws.EntriesVeiled
import Derived.StillTailTactics
import Derived.Lib.Hide
import Derived.Lib.QuietBelow
namespace Go.Proofs.Ytalfhcmccdnajaa
open Go.RowKit

theorem info_parts {P : Program} {e : TypeId} {z : Value} {n b : Nat} (h : (P.info? e).map (fun i => (i.zero, i.size, i.bytes)) = some (some z, n, b)) : ∃ i, P.info? e = some i ∧ i.zero = some z ∧ i.size = n ∧ i.bytes = b := by
  cases hi : P.info? e with
  | none => rw [hi] at h; cases h
  | some i =>
    rw [hi] at h
    simp only [Option.map_some, Option.some.injEq, Prod.mk.injEq] at h
    exact ⟨i, rfl, h.1, h.2.1, h.2.2⟩
theorem addr_at (g o j : Nat) : (⟨g, o, none⟩ : Addr).add j = ⟨g, o + j, none⟩ := by
  unfold Addr.add
  split <;> simp_all

/-- A frame: its kind, its node, its words, and where these lie. -/
structure Fr where
  k : Int
  n : Int
  ws : List Int
  a : Option Addr
  c : Nat
def Fr.val (f : Fr) : Value := .agg #[.int .i64 f.k, .int .i64 f.n, .slice f.a f.ws.length f.c]
def Fr.cells (f : Fr) : List Value := [.int .i64 f.k, .int .i64 f.n, .slice f.a f.ws.length f.c]
/-- As one reads it. -/
def Fr.told (f : Fr) : Int × Int × List Int := (f.k, f.n, f.ws)
/-- Its words lie. -/
def WAt (K : Nat → Prop) (W : World) (f : Fr) : Prop :=
  f.ws.length ≤ maxLen ∧ (0 < f.ws.length → ∃ g o, f.a = some ⟨g, o, none⟩ ∧ f.ws.length ≤ f.c ∧ g < W.heap.size ∧ K g ∧ ∀ i y, f.ws[i]? = some y → W.cell? ⟨g, o + i, none⟩ = some (.int .i64 y))
theorem WAt.move {K K' : Nat → Prop} {W W' : World} {f : Fr} (h : WAt K W f) (hK : ∀ g, g < W.heap.size → K g → K' g ∧ W'.heap[g]? = W.heap[g]?) (hs : W.heap.size ≤ W'.heap.size) : WAt K' W' f := by
  refine ⟨h.1, fun h0 => ?_⟩
  obtain ⟨g, o, h1, h2, h3, h4, h5⟩ := h.2 h0
  obtain ⟨k1, k2⟩ := hK g h3 h4
  exact ⟨g, o, h1, h2, by omega, k1, fun i y hy => (World.cell?_of_block (a := ⟨g, o + i, none⟩) k2).trans (h5 i y hy)⟩

def flatF : List Fr → List Value
  | [] => []
  | f :: r => f.cells ++ flatF r
theorem flatF_length (L : List Fr) : (flatF L).length = L.length * 3 := by
  induction L with
  | nil => rfl
  | cons f r ih => simp only [flatF, Fr.cells, List.length_append, List.length_cons, List.length_nil, ih]; omega
theorem flatF_append (A B : List Fr) : flatF (A ++ B) = flatF A ++ flatF B := by
  induction A with
  | nil => rfl
  | cons f r ih => simp only [List.cons_append, flatF, ih, List.append_assoc]
theorem flatF_one (L : List Fr) : ∀ u ∈ flatF L, u.oneCell' = true := by
  induction L with
  | nil => intro u hu; cases hu
  | cons f r ih =>
    intro u hu
    simp only [flatF, Fr.cells, List.mem_append, List.mem_cons, List.not_mem_nil, or_false] at hu
    rcases hu with (rfl | rfl | rfl) | hu
    · rfl
    · rfl
    · rfl
    · exact ih u hu
theorem flatF_get {L : List Fr} {j : Nat} {f : Fr} (h : L[j]? = some f) : (flatF L)[j * 3]? = some (.int .i64 f.k) ∧ (flatF L)[j * 3 + 1]? = some (.int .i64 f.n) ∧ (flatF L)[j * 3 + 2]? = some (.slice f.a f.ws.length f.c) := by
  induction L generalizing j with
  | nil => simp at h
  | cons x r ih =>
    cases j with
    | zero => simp only [List.getElem?_cons_zero, Option.some.injEq] at h; subst h; exact ⟨rfl, rfl, rfl⟩
    | succ j =>
      simp only [List.getElem?_cons_succ] at h
      have := ih h
      rw [show (j + 1) * 3 = j * 3 + 3 by omega]
      simp only [flatF, Fr.cells, List.cons_append, List.nil_append]
      exact this

abbrev TF : TypeId := 37
abbrev TL : TypeId := 30

/-- A list of frames, in a block of its own. -/
def FsAt (W : World) (v : Value) (L : List Fr) : Prop :=
  (v = .slice none 0 0 ∧ L = []) ∨ ∃ g cap cur, v = .slice (some ⟨g, 0, none⟩) L.length cap ∧ W.heap[g]? = some (.cells cur TF (0, 0)) ∧ L.length ≤ cap ∧ cap ≤ maxLen ∧ cap * 3 ≤ cur.size ∧ cur.toList.take (L.length * 3) = flatF L
theorem lt_of_heap {W : World} {g : Nat} {o : Obj} (h : W.heap[g]? = some o) : g < W.heap.size := by
  rcases Nat.lt_or_ge g W.heap.size with h' | h'
  · exact h'
  · rw [Array.getElem?_eq_none h'] at h; cases h
theorem FsAt.lt {W : World} {v : Value} {L : List Fr} (h : FsAt W v L) : ∀ g, v.ownBlock = some g → g < W.heap.size := by
  rcases h with ⟨rfl, rfl⟩ | ⟨g, cap, cur, rfl, hg, -⟩
  · intro g hg; cases hg
  · intro g' hg'; cases hg'; exact lt_of_heap hg
theorem FsAt.move {W W' : World} {v : Value} {L : List Fr} (h : FsAt W v L) (hb : ∀ g, v.ownBlock = some g → W'.heap[g]? = W.heap[g]?) : FsAt W' v L := by
  rcases h with ⟨rfl, rfl⟩ | ⟨g, cap, cur, rfl, hg, h1⟩
  · exact Or.inl ⟨rfl, rfl⟩
  · exact Or.inr ⟨g, cap, cur, rfl, (hb g rfl).trans hg, h1⟩
theorem FsAt.sl {W : World} {v : Value} {L : List Fr} (h : FsAt W v L) : ∃ ao cap, v = .slice ao L.length cap := by
  rcases h with ⟨rfl, rfl⟩ | ⟨g, cap, cur, rfl, -⟩
  · exact ⟨_, _, rfl⟩
  · exact ⟨_, _, rfl⟩
/-- The frame at place j. -/
theorem FsAt.cell {W : World} {v : Value} {L : List Fr} (h : FsAt W v L) {j : Nat} {f : Fr} (hf : L[j]? = some f) : ∃ g cap, v = .slice (some ⟨g, 0, none⟩) L.length cap ∧ L.length ≤ cap ∧ cap ≤ maxLen ∧ g < W.heap.size ∧ W.cell? ⟨g, j * 3, none⟩ = some (.int .i64 f.k) ∧ W.cell? ⟨g, j * 3 + 1, none⟩ = some (.int .i64 f.n) ∧ W.cell? ⟨g, j * 3 + 2, none⟩ = some (.slice f.a f.ws.length f.c) := by
  have hj : j < L.length := (List.getElem?_eq_some_iff.1 hf).1
  rcases h with ⟨rfl, rfl⟩ | ⟨g, cap, cur, rfl, hg, h1, h2, h3, h4⟩
  · simp at hf
  · have each : ∀ i u, i < L.length * 3 → (flatF L)[i]? = some u → W.cell? ⟨g, i, none⟩ = some u := fun i u hi hu => by
      rw [cell_of_row W g i cur TF (0, 0) hg]
      rw [← h4, List.getElem?_take, if_pos hi] at hu
      simpa using hu
    have := flatF_get hf
    exact ⟨g, cap, rfl, h1, h2, lt_of_heap hg, each _ _ (by omega) this.1, each _ _ (by omega) this.2.1, each _ _ (by omega) this.2.2⟩

theorem Try.info_frame : (Try.prog.info? TF).map (fun i => (i.zero, i.size, i.bytes)) = some (some (.agg #[.int .i64 0, .int .i64 0, .slice none 0 0]), 3, 40) := by kernel_rfl

section
set_option maxHeartbeats 4000000
/-- A frame more. -/
theorem run_push (ty : TypeId) (w : World) (v : Value) (L : List Fr) (hL : FsAt w v L) (hn : L.length ≤ 100000) (a : Addr) (c : Nat) (f : Fr) (hf : ∀ j u, f.cells[j]? = some u → w.cell? (a.add j) = some u) :
    ∃ v' w', (Builtin.append_ #[TL, TL] ty #[v, .slice (some a) 1 c]).run Try.prog w = .ok v' w' ∧ FsAt w' v' (L ++ [f]) ∧ w.grownBy w' v.ownBlock ∧ (v'.ownBlock = v.ownBlock ∨ v'.ownBlock = some w.heap.size) := by
  obtain ⟨i0, hi, hz0, hz1, hz2⟩ := info_parts Try.info_frame
  have ht : Try.prog.underlying TL = some (.slice TF) := Try.underlying30
  have hone : ∀ u ∈ f.cells, u.oneCell' = true := by have := flatF_one [f]; simpa [flatF] using this
  have hfl : f.cells.length = 1 * 3 := rfl
  have hlen : L.length + 1 ≤ 9223372036854775807 := by omega
  rcases hL with ⟨rfl, rfl⟩ | ⟨g, cap, cur, rfl, hg, h1, h2, h3, h4⟩
  · obtain ⟨v', w', hr, q2, q3, _, q5⟩ := run_append_own_at (P := Try.prog) w 0 TL ty TF i0 _ 3 40 ht hi hz0 hz1 hz2 rfl (by decide) (.slice none 0 0) 0 [] (World.ownsRow_nil _ _ _ _) a 1 c f.cells hfl hf hone (by unfold maxLen; omega) (by omega) (Nat.zero_le _)
    refine ⟨v', w', hr, ?_, q3, q5⟩
    rcases q2.2 with ⟨_, h⟩ | ⟨g, cap, cur, rfl, _, e1, e2, e3, e4, e5⟩
    · omega
    · exact Or.inr ⟨g, cap, cur, rfl, e1, e2, e3, by omega, by simpa [flatF] using e5⟩
  · by_cases hroom : L.length + 1 ≤ cap
    · have hfit : L.length * 3 + f.cells.length ≤ cur.size := by rw [hfl]; omega
      have hr := run_append_room (P := Try.prog) w TL ty TF i0 ht hi g L.length cap cur hg a 1 c f.cells (by rw [hz1]; exact hfl) hf hone hroom (by rw [hz1]; exact hfit)
      rw [hz1] at hr
      refine ⟨_, _, hr, Or.inr ⟨g, cap, _, by simp, setRow_heap w g cur _ TF _ hg, by simpa using hroom, h2, ?_, ?_⟩, ⟨rfl, rfl, rfl, by simp, fun k _ hk => setRow_other w g k _ (fun e => hk (by simp [Value.ownBlock, e]))⟩, Or.inl rfl⟩
      · simp only [List.size_toArray, List.length_append, List.length_take, List.length_drop, Array.length_toList]
        omega
      · rw [h4, flatF_append, show flatF [f] = f.cells by simp [flatF]]
        have e : (L ++ [f]).length * 3 = (flatF L ++ f.cells).length := by have hq : (flatF L ++ f.cells).length = (flatF L).length + f.cells.length := List.length_append; rw [hq, flatF_length, hfl]; simp; omega
        rw [e]
        exact List.take_left
    · obtain ⟨g1, cap1, cur1, hv, hg1, f1, f2, f3, f4⟩ : ∃ g1 cap1 cur1, (.slice (some ⟨g, 0, none⟩) L.length cap : Value) = .slice (some ⟨g1, 0, none⟩) L.length cap1 ∧ w.heap[g1]? = some (.cells cur1 TF (0, 0)) ∧ L.length ≤ cap1 ∧ cap1 ≤ maxLen ∧ cap1 * 3 ≤ cur1.size ∧ cur1.toList.take (L.length * 3) = flatF L := ⟨g, cap, cur, rfl, hg, h1, h2, h3, h4⟩
      have holds : ∀ j u, (flatF L)[j]? = some u → w.cell? ((⟨g, 0, none⟩ : Addr).add j) = some u := fun j u hu => by
        rw [addr_at, Nat.zero_add, cell_of_row w g j cur TF (0, 0) hg]
        have hj := (List.getElem?_eq_some_iff.1 hu).1
        rw [flatF_length] at hj
        rw [← h4, List.getElem?_take, if_pos hj] at hu
        simpa using hu
      have hcap : cap < L.length + 1 := by omega
      have hge := grownCap_ge w (L.length + 1) cap TF
      have hcm : grownCap w (L.length + 1) cap TF ≤ maxLen := grownCap_le_maxLen w (L.length + 1) cap TF (by unfold maxLen; omega)
      have hr := run_append_grow (P := Try.prog) w TL ty TF i0 _ ht hi hz0 ⟨g, 0, none⟩ L.length cap (flatF L) (by rw [hz1]; exact flatF_length L) holds a 1 c f.cells (by rw [hz1]; exact hfl) hf hcap (by omega) (growslice_fits hcap (by rw [hz2]; omega))
      refine ⟨_, _, hr, Or.inr ⟨w.heap.size, _, _, by simp, heap_alloc_new w.drew _, by simpa using hge, hcm, ?_, ?_⟩, ⟨rfl, rfl, rfl, by simp, fun k hk _ => heap_alloc_old w.drew _ hk⟩, Or.inr rfl⟩
      · simp only [Array.size_append, List.size_toArray, size_zeroCells, flatF_length, hfl]
        have e3 : (Value.agg #[Value.int .i64 0, .int .i64 0, .slice none 0 0]).cells.size = 3 := rfl
        rw [e3]
        omega
      · simp only [Array.toList_append, List.append_assoc, flatF_append, show flatF [f] = f.cells by simp [flatF]]
        rw [← List.append_assoc]
        have e : (L ++ [f]).length * 3 = (flatF L ++ f.cells).length := by have hq : (flatF L ++ f.cells).length = (flatF L).length + f.cells.length := List.length_append; rw [hq, flatF_length, hfl]; simp; omega
        rw [e]
        exact List.take_left
end

theorem wp_push {o : Oper} {a : Act} {K : Act → World → Prop} {Q : Exit → Act → World → Prop} (s x : Operand) (ho : o.op = .call { callee := .builtin .append, args := #[s, x], argTypes := #[TL, TL] })
    (w : World) (v : Value) (L : List Fr) (hs : a.eval s = v) (hL : FsAt w v L) (hn : L.length ≤ 100000) (b : Nat) (c : Nat) (hx : a.eval x = .slice (some ⟨b, 0, none⟩) 1 c) (f : Fr) (hf : ∀ j u, f.cells[j]? = some u → w.cell? ((⟨b, 0, none⟩ : Addr).add j) = some u)
    (h : ∀ v' w', FsAt w' v' (L ++ [f]) → w.grownBy w' v.ownBlock → (v'.ownBlock = v.ownBlock ∨ v'.ownBlock = some w.heap.size) → K (a.put o.dst v') w') : o.wp Try.prog a w K Q := by
  obtain ⟨v', w', hr, h2, h3, h4⟩ := run_push o.type w v L hL hn ⟨b, 0, none⟩ c f hf
  unfold Oper.wp execOp
  simp only [ho, resolve, invoke, builtin, Sem.run_bind, Sem.run_pure, Result.andThen_ok, List.map_toArray, List.map_cons, List.map_nil, hs, hx, hr]
  exact h v' w' h2 h3 h4
theorem list_push {ops : Array Oper} {rest : List Oper} {o : Oper} {a : Act} {Q : Exit → Act → World → Prop} (hgd : o.guard = none) (s x : Operand) (ho : o.op = .call { callee := .builtin .append, args := #[s, x], argTypes := #[TL, TL] })
    (w : World) (v : Value) (L : List Fr) (hs : a.eval s = v) (hL : FsAt w v L) (hn : L.length ≤ 100000) (b : Nat) (c : Nat) (hx : a.eval x = .slice (some ⟨b, 0, none⟩) 1 c) (f : Fr) (hf : ∀ j u, f.cells[j]? = some u → w.cell? ((⟨b, 0, none⟩ : Addr).add j) = some u)
    (h : ∀ v' w', FsAt w' v' (L ++ [f]) → w.grownBy w' v.ownBlock → (v'.ownBlock = v.ownBlock ∨ v'.ownBlock = some w.heap.size) → wpList Try.prog ops Q rest (a.put o.dst v') w') : wpList Try.prog ops Q (o :: rest) a w :=
  wpList_plain hgd fun _ hK => wp_push s x ho w v L hs hL hn b c hx f hf fun v' w' h1 h2 h3 => hK _ _ (h v' w' h1 h2 h3)
theorem step_push {ops : Array Oper} {o : Oper} {a : Act} {K : Act → World → Prop} {Q : Exit → Act → World → Prop} {E : Prop} (hgd : o.guard = none) (s x : Operand) (ho : o.op = .call { callee := .builtin .append, args := #[s, x], argTypes := #[TL, TL] })
    (w : World) (v : Value) (L : List Fr) (hs : a.eval s = v) (hL : FsAt w v L) (hn : L.length ≤ 100000) (b : Nat) (c : Nat) (hx : a.eval x = .slice (some ⟨b, 0, none⟩) 1 c) (f : Fr) (hf : ∀ j u, f.cells[j]? = some u → w.cell? ((⟨b, 0, none⟩ : Addr).add j) = some u)
    (h : ∀ v' w', FsAt w' v' (L ++ [f]) → w.grownBy w' v.ownBlock → (v'.ownBlock = v.ownBlock ∨ v'.ownBlock = some w.heap.size) → K (a.put o.dst v') w') :
    if Region.wanted o (yielded ops a.tmps) = true then Oper.wp Try.prog o a w K Q else E := by
  have hw : Region.wanted o (yielded ops a.tmps) = true := by simp [Region.wanted, hgd]
  rw [if_pos hw]
  exact wp_push s x ho w v L hs hL hn b c hx f hf h
theorem step_wanted {P : Program} {ops : Array Oper} {o : Oper} {a : Act} {w : World} {K : Act → World → Prop} {Q : Exit → Act → World → Prop} {E : Prop} (hg : o.guard = none) (h : Oper.wp P o a w K Q) :
    if Region.wanted o (yielded ops a.tmps) = true then Oper.wp P o a w K Q else E := by
  have hw : Region.wanted o (yielded ops a.tmps) = true := by simp [Region.wanted, hg]
  rw [if_pos hw]
  exact h

set_option maxHeartbeats 4000000 in
/-- clear of the last frame. -/
theorem run_clear_last (ty : TypeId) (w : World) (g : Nat) (cur : Array Value) (hg : w.heap[g]? = some (.cells cur TF (0, 0))) (o c : Nat) (hfit : o + 3 ≤ cur.size) :
    (Builtin.clear_ #[TL] ty #[.slice (some ⟨g, o, none⟩) 1 c]).run Try.prog w = .ok (.tuple #[]) (w.setRow g (cur.toList.take o ++ [Value.int .i64 0, .int .i64 0, .slice none 0 0] ++ cur.toList.drop (o + 3)).toArray) := by
  have ht : Try.prog.underlying TL = some (.slice TF) := Try.underlying30
  have hv : ∀ w, (zeroValue TF).run Try.prog w = .ok (.agg #[.int .i64 0, .int .i64 0, .slice none 0 0]) w := Try.zeroValue37
  have hzc : (Builtin.zeroCells (Value.agg #[.int .i64 0, .int .i64 0, .slice none 0 0]).cells 1).toList = [.int .i64 0, .int .i64 0, .slice none 0 0] := by simp [Builtin.zeroCells, List.range_succ, Value.cells]
  have hst := run_storeCells_at Try.prog g o TF [.int .i64 0, .int .i64 0, .slice none 0 0] 0 cur w hg (by simpa using hfit) (by intro v hv'; simp at hv'; rcases hv' with rfl | rfl | rfl <;> rfl)
  simp only [Nat.add_zero] at hst
  simp only [List.length_cons, List.length_nil] at hst
  simp [Builtin.clear_, run_underlying ht, hv, hzc, hst]
theorem FsAt.cut {W : World} {g cap cap' : Nat} {L M : List Fr} {f : Fr} {cur : Array Value} (e : L = M ++ [f]) (hg : W.heap[g]? = some (.cells cur TF (0, 0))) (h1 : M.length ≤ cap') (h2 : cap' ≤ cap) (h2' : cap ≤ maxLen) (h3 : cap * 3 ≤ cur.size) (hL : L.length ≤ cap) (h4 : cur.toList.take (L.length * 3) = flatF L) (xs : List Value) (hx : xs.length = 3) :
    FsAt (W.setRow g (cur.toList.take (M.length * 3) ++ xs ++ cur.toList.drop (M.length * 3 + 3)).toArray) (.slice (some ⟨g, 0, none⟩) M.length cap') M := by
  subst e
  have hl : (M ++ [f]).length = M.length + 1 := by simp
  rw [hl] at h4 hL
  have hcs : cur.toList.length = cur.size := Array.length_toList
  refine Or.inr ⟨g, cap', _, rfl, setRow_heap W g cur _ TF _ hg, h1, by omega, ?_, ?_⟩
  · simp only [List.size_toArray, List.length_append, List.length_take, List.length_drop, hx, hcs]
    omega
  · have e1 : (cur.toList.take (M.length * 3)).length = M.length * 3 := by rw [List.length_take]; omega
    show List.take (M.length * 3) (cur.toList.take (M.length * 3) ++ xs ++ cur.toList.drop (M.length * 3 + 3)) = _
    rw [List.append_assoc, List.take_append_of_le_length (by omega), List.take_of_length_le (l := List.take (M.length * 3) cur.toList) (by omega)]
    have h5 := congrArg (List.take (M.length * 3)) h4
    rw [List.take_take, flatF_append, show min (M.length * 3) ((M.length + 1) * 3) = M.length * 3 by omega, List.take_append_of_le_length (by rw [flatF_length]; omega), List.take_of_length_le (l := flatF M) (by rw [flatF_length]; omega)] at h5
    exact h5

end Go.Proofs.Ytalfhcmccdnajaa
