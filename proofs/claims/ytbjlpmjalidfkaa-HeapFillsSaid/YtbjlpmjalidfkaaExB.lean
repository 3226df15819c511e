/- The runs as they lie in one block, two words a run; what append, copy and clear make of such a block; slices.Delete of one run. -/
import Derived.Test.YtbjlpmjalidfkaaExA
import Derived.Test.YtbjlpmjalidfkaaExP
import Derived.Laws.OwnMore
import Derived.Laws.CopyRow
import Derived.Lib.SliceRun
import Derived.Lib.AppendZerosOnto
import Derived.Lib.Overlaps
import Derived.Laws.Externs
import Derived.Laws.IdiomCopy
import Derived.Deep.RegionLaw
import Derived.Deep.AppendLies
import Derived.Lib.Hide
namespace Go.Proofs.Ytbjlpmjalidfkaa.Ex
open Go.RowKit Go.Sort

def flat : List (Int × Int) → List Value
  | [] => []
  | x :: r => .int .i64 x.1 :: .int .i64 x.2 :: flat r
theorem flat_length (L : List (Int × Int)) : (flat L).length = L.length * 2 := by
  induction L with
  | nil => rfl
  | cons x r ih => simp only [flat, List.length_cons, ih]; omega
theorem flat_append (A B : List (Int × Int)) : flat (A ++ B) = flat A ++ flat B := by
  induction A with
  | nil => rfl
  | cons x r ih => simp only [List.cons_append, flat, ih]
theorem flat_one (L : List (Int × Int)) : ∀ u ∈ flat L, u.oneCell' = true := by
  induction L with
  | nil => intro u hu; cases hu
  | cons x r ih =>
    intro u hu
    simp only [flat, List.mem_cons] at hu
    rcases hu with rfl | rfl | hu
    · rfl
    · rfl
    · exact ih u hu
theorem flat_get {L : List (Int × Int)} {k : Nat} {x : Int × Int} (h : L[k]? = some x) : (flat L)[k * 2]? = some (.int .i64 x.1) ∧ (flat L)[k * 2 + 1]? = some (.int .i64 x.2) := by
  induction L generalizing k with
  | nil => simp at h
  | cons y r ih =>
    cases k with
    | zero => simp only [List.getElem?_cons_zero, Option.some.injEq] at h; subst h; exact ⟨rfl, rfl⟩
    | succ k =>
      simp only [List.getElem?_cons_succ] at h
      have := ih h
      rw [show (k + 1) * 2 = k * 2 + 1 + 1 by omega, show k * 2 + 1 + 1 + 1 = (k * 2 + 1) + 1 + 1 by omega]
      simp only [flat, List.getElem?_cons_succ]
      exact this

/-- Runs in a block. -/
def Own (T : TypeId) (w : World) (g cap : Nat) (L : List (Int × Int)) : Prop := w.ownsRow 0 T 2 (.slice (some ⟨g, 0, none⟩) L.length cap) L.length (flat L)

section
variable {T : TypeId} {w w' : World} {g cap : Nat} {L : List (Int × Int)}
theorem Own.heap (h : Own T w g cap L) : ∃ S : List Value, w.heap[g]? = some (.cells (flat L ++ S).toArray T (0, 0)) ∧ (flat L ++ S).length = cap * 2 ∧ L.length ≤ cap ∧ cap ≤ maxLen := by
  rcases h.2 with ⟨h', _⟩ | ⟨g', cap', cur, h', _, hg, hn, hm, hs, htake⟩
  · simp at h'
  · simp only [Value.slice.injEq, Option.some.injEq, Addr.mk.injEq, and_true, true_and] at h'
    obtain ⟨rfl, rfl⟩ := h'
    refine ⟨cur.toList.drop (L.length * 2), ?_, ?_, hn, hm⟩
    · rw [← htake, List.take_append_drop]; exact hg
    · rw [← htake, List.take_append_drop]; simpa using hs
theorem Own.mk {S : List Value} (hg : w.heap[g]? = some (.cells (flat L ++ S).toArray T (0, 0))) (hs : (flat L ++ S).length = cap * 2) (hm : cap ≤ maxLen) : Own T w g cap L := by
  refine ⟨flat_length L, .inr ⟨g, cap, _, rfl, Nat.zero_le _, hg, ?_, hm, by simpa using hs, ?_⟩⟩
  · rw [List.length_append, flat_length] at hs; omega
  · rw [← flat_length]; simp
theorem Own.lt (h : Own T w g cap L) : g < w.heap.size := by
  obtain ⟨S, hg, _⟩ := h.heap
  rcases Nat.lt_or_ge g w.heap.size with h' | h'
  · exact h'
  · rw [Array.getElem?_eq_none h'] at hg; cases hg
theorem Own.move (h : Own T w g cap L) (e : w'.heap[g]? = w.heap[g]?) : Own T w' g cap L := by
  obtain ⟨S, hg, hs, _, hm⟩ := h.heap
  exact Own.mk (e.trans hg) hs hm
theorem Own.cell (h : Own T w g cap L) {k : Nat} {x : Int × Int} (hx : L[k]? = some x) : w.cell? ⟨g, k * 2, none⟩ = some (.int .i64 x.1) ∧ w.cell? ⟨g, k * 2 + 1, none⟩ = some (.int .i64 x.2) := by
  have hk : k < L.length := (List.getElem?_eq_some_iff.1 hx).1
  have := flat_get hx
  exact ⟨(World.ownsRow.cellAt h (k * 2) (by omega)).trans this.1, (World.ownsRow.cellAt h (k * 2 + 1) (by omega)).trans this.2⟩
theorem Own.frozen (h : Own T w g cap L) (j : Nat) : w.frozen? ⟨g, j, none⟩ = false := World.ownsRow.frozenAt h j
theorem flat_set {A B : List (Int × Int)} {x y : Int × Int} {k : Nat} (hk : A.length = k) : ((flat (A ++ x :: B)).set (k * 2) (.int .i64 y.1)).set (k * 2 + 1) (.int .i64 y.2) = flat (A ++ y :: B) := by
  rw [flat_append, flat_append, List.set_append, if_neg (by rw [flat_length]; omega), List.set_append, if_neg (by rw [flat_length]; omega), flat_length, hk, Nat.sub_self, Nat.add_sub_cancel_left]
  rfl
theorem Own.put {A B : List (Int × Int)} {x y : Int × Int} {k : Nat} (hk : A.length = k) (h : Own T w g cap (A ++ x :: B)) :
    Own T ((w.setCell ⟨g, k * 2, none⟩ (.int .i64 y.1)).setCell ⟨g, k * 2 + 1, none⟩ (.int .i64 y.2)) g cap (A ++ y :: B) := by
  have h1 := (World.ownsRow.stored h (k * 2) (.int .i64 y.1)).1
  have h2 := (World.ownsRow.stored h1 (k * 2 + 1) (.int .i64 y.2)).1
  rw [flat_set hk] at h2
  have e : (A ++ y :: B).length = (A ++ x :: B).length := by simp
  unfold Own
  rw [e]
  exact h2
end

section
variable {P : Program} (w : World)
/-- copy, two words an element, within a block that is known whole. -/
theorem run_copy_pairs (dT sT ty elem : TypeId) (g o dLen dCap : Nat) (a : Addr) (sLen sCap k : Nat) (cur : Array Value) (t : TypeId) (cs : List Value)
    (hu : P.underlying dT = some (.slice elem)) (hs : (P.info? elem).map (·.size) = some 2)
    (hg : w.heap[g]? = some (.cells cur t (0, 0))) (hk : Nat.min sLen dLen = k) (hn : cs.length = k * 2)
    (hsrc : ∀ j v, cs[j]? = some v → w.cell? (a.add j) = some v) (hfit : o + cs.length ≤ cur.size) (h1 : ∀ v ∈ cs, v.oneCell' = true) :
    (Builtin.copy_ #[dT, sT] ty #[.slice (some ⟨g, o, none⟩) dLen dCap, .slice (some a) sLen sCap]).run P w =
      .ok (goInt k) (w.setRow g (cur.toList.take o ++ cs ++ cur.toList.drop (o + cs.length)).toArray) := by
  have hl := run_loadCells_list (P := P) w a cs hsrc
  have hst := run_storeCells_at P g o t cs 0 cur w hg (by simpa using hfit) h1
  cases hq : P.info? elem with
  | none => simp [hq] at hs
  | some i =>
    have hi : i.size = 2 := by simpa [hq] using hs
    simp [Builtin.copy_, run_underlying hu, Builtin.lenOf, Builtin.firstCells, sizeOf, typeInfo, hq, hi, hk, ← hn, hl, hst]

/-- clear of one element of two words. -/
theorem run_clear_pair (t e ty : TypeId) (z : Value) (z0 z1 : Value) (ht : P.underlying t = some (.slice e)) (hv : ∀ w, (zeroValue e).run P w = .ok z w) (hz : z.cells = #[z0, z1]) (h0 : z0.oneCell' = true) (h1 : z1.oneCell' = true)
    (g o c : Nat) (cur : Array Value) (T : TypeId) (hg : w.heap[g]? = some (.cells cur T (0, 0))) (hfit : o + 2 ≤ cur.size) :
    (Builtin.clear_ #[t] ty #[.slice (some ⟨g, o, none⟩) 1 c]).run P w = .ok (.tuple #[]) (w.setRow g (cur.toList.take o ++ [z0, z1] ++ cur.toList.drop (o + 2)).toArray) := by
  have hzc : (Builtin.zeroCells z.cells 1).toList = [z0, z1] := by rw [hz]; simp [Builtin.zeroCells, List.range_succ]
  have hst := run_storeCells_at P g o T [z0, z1] 0 cur w hg (by simpa using hfit) (by intro v hv'; simp at hv'; rcases hv' with rfl | rfl <;> assumption)
  simp only [Nat.add_zero] at hst
  simp [Builtin.clear_, run_underlying ht, hv, hzc, hst]

theorem wp_clear_run {o : Oper} {a : Act} {K : Act → World → Prop} {Q : Exit → Act → World → Prop} (d : Operand) (t : TypeId)
    (ho : o.op = .call { callee := .builtin .clear, args := #[d], argTypes := #[t] }) (v : Value) (hd : a.eval d = v) {v' : Value} {w' : World}
    (hr : (Builtin.clear_ #[t] o.type #[v]).run P w = .ok v' w') (h : K (a.put o.dst v') w') : o.wp P a w K Q := by
  unfold Oper.wp execOp
  simp only [ho, resolve, invoke, builtin, Sem.run_bind, Sem.run_pure, Result.andThen_ok, List.map_toArray, List.map_cons, List.map_nil, hd, hr]
  exact h

theorem wp_copy_run {o : Oper} {a : Act} {K : Act → World → Prop} {Q : Exit → Act → World → Prop} (d s : Operand) (t t' : TypeId)
    (ho : o.op = .call { callee := .builtin .copy, args := #[d, s], argTypes := #[t, t'] }) (v u : Value) (hd : a.eval d = v) (hs : a.eval s = u) {v' : Value} {w' : World}
    (hr : (Builtin.copy_ #[t, t'] o.type #[v, u]).run P w = .ok v' w') (h : K (a.put o.dst v') w') : o.wp P a w K Q := by
  unfold Oper.wp execOp
  simp only [ho, resolve, invoke, builtin, Sem.run_bind, Sem.run_pure, Result.andThen_ok, List.map_toArray, List.map_cons, List.map_nil, hd, hs, hr]
  exact h
theorem wpList_copy_run {ops : Array Oper} {rest : List Oper} {o : Oper} {a : Act} {Q : Exit → Act → World → Prop} (hgd : o.guard = none) (d s : Operand) (t t' : TypeId)
    (ho : o.op = .call { callee := .builtin .copy, args := #[d, s], argTypes := #[t, t'] }) (v u : Value) (hd : a.eval d = v) (hs : a.eval s = u) {v' : Value} {w' : World}
    (hr : (Builtin.copy_ #[t, t'] o.type #[v, u]).run P w = .ok v' w') (h : wpList P ops Q rest (a.put o.dst v') w') : wpList P ops Q (o :: rest) a w :=
  wpList_plain hgd fun _ hK => wp_copy_run w d s t t' ho v u hd hs hr (hK _ _ h)
theorem step_copy_run {ops : Array Oper} {o : Oper} {a : Act} {K : Act → World → Prop} {Q : Exit → Act → World → Prop} {E : Prop}
    (hg : o.guard = none) (d x : Operand) (dT sT : TypeId) (hop : o.op = Op.call { callee := Callee.builtin Builtin.copy, args := #[d, x], argTypes := #[dT, sT] })
    (v u : Value) (hd : a.eval d = v) (hx : a.eval x = u) {v' : Value} {w' : World} (hr : (Builtin.copy_ #[dT, sT] o.type #[v, u]).run P w = .ok v' w') (hK : K (a.put o.dst v') w') :
    if Region.wanted o (yielded ops a.tmps) = true then Oper.wp P o a w K Q else E := by
  have hw : Region.wanted o (yielded ops a.tmps) = true := by simp [Region.wanted, hg]
  rw [if_pos hw]
  exact wp_copy_run w d x dT sT hop v u hd hx hr hK
theorem step_append_run {ops : Array Oper} {o : Oper} {a : Act} {K : Act → World → Prop} {Q : Exit → Act → World → Prop} {E : Prop}
    (hg : o.guard = none) (d x : Operand) (dT sT : TypeId) (hop : o.op = Op.call { callee := Callee.builtin Builtin.append, args := #[d, x], argTypes := #[dT, sT] })
    (v u : Value) (hd : a.eval d = v) (hx : a.eval x = u) {v' : Value} {w' : World} (hr : (Builtin.append_ #[dT, sT] o.type #[v, u]).run P w = .ok v' w') (hK : K (a.put o.dst v') w') :
    if Region.wanted o (yielded ops a.tmps) = true then Oper.wp P o a w K Q else E := by
  have hw : Region.wanted o (yielded ops a.tmps) = true := by simp [Region.wanted, hg]
  rw [if_pos hw]
  exact Lib.wp_append_run w d x dT sT hop v u hd hx _ _ hr hK
end

theorem Try.info_pair : (Try.prog.info? 145).map (fun i => (i.zero, i.size, i.bytes)) = some (some (.agg #[.int .i64 0, .int .i64 0]), 2, 16) := by kernel_rfl

set_option maxHeartbeats 4000000 in
set_option maxRecDepth 100000 in
/-- slices.Delete of one run: what stood behind it comes forward; in place. -/
theorem delete_any (w : World) (g cap i j n : Nat) (A B : List (Int × Int)) (x : Int × Int) (hO : Own 145 w g cap (A ++ x :: B)) (hA : A.length = i) (hj : i + 1 = j) (hB : B.length = n - j) (hjn : j ≤ n) :
    Calls Try.prog 112 #[.slice (some ⟨g, 0, none⟩) n cap, .int .i64 i, .int .i64 j] w fun e w' =>
      e = .returned (.slice (some ⟨g, 0, none⟩) (n - 1) cap) ∧ Own 145 w' g cap (A ++ B) ∧ w.grownBy w' (some g) := by
  obtain ⟨i0, hi0, hz0, hzs, hzb⟩ := info_parts Try.info_pair
  obtain ⟨S, hg, hs, hn, hm⟩ := hO.heap
  have hl : (A ++ x :: B).length = n := by simp; omega
  have fA := flat_length A
  have fB := flat_length B
  rw [hl] at hn
  unfold maxLen at hm
  rw [hA] at fA
  rw [hB] at fB
  -- the row behind the append, and behind clear
  have e0 : flat (A ++ x :: B) ++ S = flat A ++ ([.int .i64 x.1, .int .i64 x.2] ++ flat B ++ S) := by rw [flat_append]; simp [flat]
  have hsz : (flat A ++ ([Value.int .i64 x.1, .int .i64 x.2] ++ flat B ++ S)).length = cap * 2 := by rw [← e0]; exact hs
  rw [e0] at hg
  generalize hcur : (flat A ++ ([Value.int .i64 x.1, .int .i64 x.2] ++ flat B ++ S)).toArray = cur at hg
  have hcl : cur.toList = flat A ++ ([Value.int .i64 x.1, .int .i64 x.2] ++ flat B ++ S) := by rw [← hcur]
  have hcs : cur.size = cap * 2 := by rw [← hsz, ← hcur]; simp
  have hgd : w.drew.heap[g]? = some (.cells cur 145 (0, 0)) := hg
  obtain ⟨W1, hW1⟩ : ∃ W1, W1 = w.drew.setRow g (flat A ++ flat B ++ cur.toList.drop ((i + (n - j)) * 2)).toArray := ⟨_, rfl⟩
  have happ : ∀ (ad : Addr) c, (∀ k u, (flat B)[k]? = some u → w.drew.cell? (ad.add k) = some u) → ∀ ty, (Builtin.append_ #[146, 146] ty #[.slice (some ⟨g, 0, none⟩) i cap, .slice (some ad) (n - j) c]).run Try.prog w.drew =
      .ok (.slice (some ⟨g, 0, none⟩) (i + (n - j)) cap) W1 := fun ad c hsrc ty => by
    have h := run_append_room (P := Try.prog) w.drew 146 ty 145 i0 Try.underlying146 hi0 g i cap cur hgd ad (n - j) c (flat B) (by rw [hzs]; exact fB) hsrc (flat_one B) (by omega) (by rw [hzs, fB, hcs]; omega)
    rw [hzs, fB, show cur.toList.take (i * 2) = flat A by rw [hcl, ← fA]; simp, show i * 2 + (n - j) * 2 = (i + (n - j)) * 2 by omega] at h
    rw [hW1]
    exact h
  have hnew : ∀ k u, (flat B)[k]? = some u → w.drew.cell? ⟨g, j * 2 + k, none⟩ = some u := fun k u hk => by
    rw [show w.drew.cell? ⟨g, j * 2 + k, none⟩ = w.cell? ⟨g, j * 2 + k, none⟩ from rfl, cell_of_row w g _ cur _ _ hg, ← Array.getElem?_toList, hcl, List.getElem?_append_right (by omega), fA, show j * 2 + k - i * 2 = k + 1 + 1 by omega]
    have hkl := (List.getElem?_eq_some_iff.1 hk).1
    simp only [List.cons_append, List.nil_append, List.getElem?_cons_succ]
    rw [List.getElem?_append_left hkl]
    exact hk
  have g1 : W1.heap[g]? = some (.cells (flat A ++ flat B ++ cur.toList.drop ((i + (n - j)) * 2)).toArray 145 (0, 0)) := by rw [hW1]; exact setRow_heap w.drew g cur _ _ _ hgd
  have hl1 : (flat A ++ flat B ++ cur.toList.drop ((i + (n - j)) * 2)).length = cap * 2 := by simp [fA, fB, hcs]; omega
  have hclr : ∀ c ty, (Builtin.clear_ #[146] ty #[.slice (some ⟨g, (i + (n - j)) * 2, none⟩) 1 c]).run Try.prog W1 =
      .ok (.tuple #[]) (W1.setRow g (flat (A ++ B) ++ ([Value.int .i64 0, .int .i64 0] ++ cur.toList.drop ((i + (n - j)) * 2 + 2))).toArray) := fun c ty => by
    have h := run_clear_pair (P := Try.prog) W1 146 145 ty (.agg #[.int .i64 0, .int .i64 0]) (.int .i64 0) (.int .i64 0) Try.underlying146 Try.zeroValue145 rfl rfl rfl g ((i + (n - j)) * 2) c _ _ g1 (by simp only [List.size_toArray, hl1]; omega)
    rw [h]
    congr 3
    have hAB : (flat A ++ flat B).length = (i + (n - j)) * 2 := by rw [List.length_append, fA, fB]; omega
    rw [show (flat A ++ flat B ++ cur.toList.drop ((i + (n - j)) * 2)).toArray.toList = flat A ++ flat B ++ cur.toList.drop ((i + (n - j)) * 2) from rfl, List.take_append_of_le_length (by omega), List.take_of_length_le (by omega), List.drop_append, hAB, List.drop_drop, flat_append, List.append_assoc]
    rw [List.drop_eq_nil_of_le (by omega), List.nil_append, Nat.add_sub_cancel_left]
  obtain ⟨W2, hW2⟩ : ∃ W2, W2 = W1.setRow g (flat (A ++ B) ++ ([Value.int .i64 0, .int .i64 0] ++ cur.toList.drop ((i + (n - j)) * 2 + 2))).toArray := ⟨_, rfl⟩
  rw [← hW2] at hclr
  have hEnd : Own 145 W2 g cap (A ++ B) ∧ w.grownBy W2 (some g) := by
    refine ⟨Own.mk (by rw [hW2]; exact setRow_heap W1 g _ _ _ _ g1) ?_ (by unfold maxLen; omega), ?_⟩
    · simp [flat_append, fA, fB, hcs]; omega
    · rw [hW2, hW1]
      exact ⟨rfl, rfl, rfl, by simp [World.setRow], fun k _ hk => (setRow_other _ g k _ (fun e => hk (by simp [e]))).trans (setRow_other w.drew g k _ (fun e => hk (by simp [e])))⟩
  have hne : ¬ i = j := by omega
  have hin : i ≤ cap := by omega
  have hjc : j ≤ cap := by omega
  have hij : i ≤ j := by omega
  have hlt : i + (n - j) ≤ n := by omega
  have HE := Lib.hid hEnd
  have h1 : n - (i + (n - j)) = 1 := by omega
  obtain ⟨ad, had, hap⟩ : ∃ ad : Addr, Hid ((if cap = j then some (⟨g, 0, none⟩ : Addr) else some ⟨g, j * 2, none⟩) = some ad) ∧ Hid (∀ c ty, (Builtin.append_ #[146, 146] ty #[.slice (some ⟨g, 0, none⟩) i cap, .slice (some ad) (n - j) c]).run Try.prog w.drew = .ok (.slice (some ⟨g, 0, none⟩) (i + (n - j)) cap) W1) := by
    by_cases hc : cap = j
    · refine ⟨⟨g, 0, none⟩, (by simp [hc] : _ = _), fun c ty => happ _ c (fun k u hk => ?_) ty⟩
      have : flat B = [] := List.eq_nil_of_length_eq_zero (by omega)
      rw [this] at hk
      simp at hk
    · exact ⟨⟨g, j * 2, none⟩, (by simp [hc] : _ = _), fun c ty => happ _ c (fun k u hk => by rw [Addr.add_lit]; exact hnew k u hk) ty⟩
  have HC := Lib.hid hclr
  clear hEnd hclr happ hnew g1 hl1 hW2 hW1 hcur hcl hcs hgd hsz e0 hg hs hl fA fB hA hB hj hO
  go_enter Try.func112, Try.ntmps112
  go_wp2_with fail
  go_region_law (refine step_append_run _ rfl (.tmp 22) (.tmp 25) 146 146 rfl (.slice (some ⟨g, 0, none⟩) i cap) (.slice (some ad) (n - j) (cap - j)) (by simp [Act.eval, Act.put]) (by simp [Act.eval, Act.put, had.out]) (hap.out _ _) ?_)
  all_goals replace HC := HC.out
  all_goals go_wp2_with fail
  all_goals go_ret
  all_goals rw [show n - 1 = i + (n - j) by omega]
  all_goals first
    | exact ⟨rfl, HE.out⟩
    | (have e : cap = j := by assumption
       subst e
       exact ⟨rfl, HE.out⟩)

end Go.Proofs.Ytbjlpmjalidfkaa.Ex
