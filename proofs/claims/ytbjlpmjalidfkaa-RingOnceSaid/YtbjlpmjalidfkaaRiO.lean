/- One list appended onto another one, whatever it is: nil, empty, or a part of a row. -/
import Derived.Test.YtbjlpmjalidfkaaRiN
import Derived.Deep.AppendLies
import Derived.Deep.RegionLaw
namespace Go.Proofs.Ytbjlpmjalidfkaa
open Go.RowKit Go.Shelf

/-- A SLICE OF ints, wherever it begins. -/
def Src (W : World) (x : Value) (k : List Int) : Prop :=
  ∃ ao cap, x = .slice ao k.length cap ∧ (0 < k.length → ∃ g off, ao = some ⟨g, off, none⟩ ∧ ∀ i y, k[i]? = some y → W.cell? ⟨g, off + i, none⟩ = some (.int .i64 y))
theorem Row.src {W : World} {lo hi : Nat} {v : Value} {l : List Int} (h : Row W lo hi v l) : Src W v l := by
  obtain ⟨ao, cap, rfl, hc⟩ := h
  refine ⟨ao, l.length + cap, rfl, fun h0 => ?_⟩
  obtain ⟨g, e, _, _, h3⟩ := hc h0
  exact ⟨g, 0, e, fun i y hy => by rw [Nat.zero_add]; exact h3 i y hy⟩

theorem addr_add (g off i : Nat) : (⟨g, off, none⟩ : Addr).add i = ⟨g, off + i, none⟩ := by
  unfold Addr.add
  split <;> simp_all

theorem owns_slice {w : World} {base : Nat} {v : Value} {n : Nat} {xs : List Value} (h : w.ownsRow base 3 1 v n xs) : ∃ ao cap, v = .slice ao n cap := by
  rcases h.2 with ⟨rfl, rfl⟩ | ⟨g, cap, cur, rfl, _⟩
  · exact ⟨none, 0, rfl⟩
  · exact ⟨_, cap, rfl⟩

set_option maxHeartbeats 1000000 in
theorem run_nil (ty : TypeId) (v : Value) (base n : Nat) (xs : List Value) (c : Nat) (w : World) (h : w.ownsRow base 3 1 v n xs) :
    (Builtin.append_ #[37, 37] ty #[v, .slice none 0 c]).run Try.prog w = .ok v w := by
  have hu : Try.prog.underlying 37 = some (.slice 3) := Try.underlying37
  rcases h.2 with ⟨rfl, rfl⟩ | ⟨g, cap, cur, rfl, _, _, hcap, _⟩
  · simp [Builtin.append_, run_underlying hu, Try.sizeOf3, Builtin.firstCells, Builtin.lenOf, go_sem]
  · simp [Builtin.append_, run_underlying hu, Try.sizeOf3, Builtin.firstCells, Builtin.lenOf, go_sem, hcap]

set_option maxHeartbeats 1000000 in
theorem run_onto (ty : TypeId) (w : World) (base n : Nat) (v : Value) (l : List Int) (hown : w.ownsRow base 3 1 v n (l.map (.int .i64))) (x : Value) (k : List Int) (hx : Src w x k) (hb : n + k.length ≤ 100000) (hbase : base ≤ w.heap.size) :
    ∃ v' w', (Builtin.append_ #[37, 37] ty #[v, x]).run Try.prog w = .ok v' w' ∧ w'.ownsRow base 3 1 v' (n + k.length) ((l ++ k).map (.int .i64)) ∧ w.grownBy w' v.ownBlock := by
  obtain ⟨i0, hi, hz0, hz1, hz2⟩ := info_parts Try.info_int
  obtain ⟨ao, cap, rfl, hc⟩ := hx
  cases ao with
  | none =>
    have hk : k = [] := by
      cases k with
      | nil => rfl
      | cons y k =>
        obtain ⟨g, off, e, _⟩ := hc (by simp)
        cases e
    subst hk
    refine ⟨v, w, run_nil ty v base n _ cap w hown, by simpa using hown, ⟨rfl, rfl, rfl, Nat.le_refl _, fun _ _ _ => rfl⟩⟩
  | some ad =>
    have hnews : ∀ j u, (k.map (Value.int .i64))[j]? = some u → w.cell? (ad.add j) = some u := fun j u hu => by
      rw [List.getElem?_map] at hu
      cases hy : k[j]? with
      | none => rw [hy] at hu; cases hu
      | some y =>
        rw [hy] at hu
        cases hu
        have hj := (List.getElem?_eq_some_iff.1 hy).1
        obtain ⟨g, off, e, h⟩ := hc (by omega)
        cases e
        rw [addr_add]
        exact h j y hy
    obtain ⟨v', w', hr, h2, h3, _⟩ := run_append_own (P := Try.prog) w base 37 ty 3 i0 (.int .i64 0) 1 8 Try.underlying37 hi hz0 hz1 hz2 rfl (by decide) v n (l.map (.int .i64)) hown ad k.length cap (k.map (.int .i64)) (by simp) hnews (fun u hu => by obtain ⟨y, _, rfl⟩ := List.mem_map.1 hu; rfl) (by unfold maxLen; omega) (by omega) hbase
    exact ⟨v', w', hr, by simpa using h2, h3⟩

theorem wp_onto {o : Oper} {a : Act} {K : Act → World → Prop} {Q : Exit → Act → World → Prop} (s x : Operand) (ho : o.op = .call { callee := .builtin .append, args := #[s, x], argTypes := #[37, 37] })
    (w : World) (base n : Nat) (v : Value) (l : List Int) (hs : a.eval s = v) (hown : w.ownsRow base 3 1 v n (l.map (.int .i64))) (xv : Value) (k : List Int) (hx : a.eval x = xv) (hsrc : Src w xv k) (t : Nat) (ht : n + k.length = t) (hb : t ≤ 100000) (hbase : base ≤ w.heap.size)
    (h : ∀ ao cap w', w'.ownsRow base 3 1 (.slice ao t cap) t ((l ++ k).map (.int .i64)) → w.grownBy w' v.ownBlock → K (a.put o.dst (.slice ao t cap)) w') : o.wp Try.prog a w K Q := by
  subst ht
  obtain ⟨v', w', hr, h2, h3⟩ := run_onto o.type w base n v l hown xv k hsrc hb hbase
  obtain ⟨ao, cap, rfl⟩ := owns_slice h2
  unfold Oper.wp execOp
  simp only [ho, resolve, invoke, builtin, Sem.run_bind, Sem.run_pure, Result.andThen_ok, List.map_toArray, List.map_cons, List.map_nil, hs, hx, hr]
  exact h ao cap w' h2 h3

theorem list_onto {ops : Array Oper} {rest : List Oper} {o : Oper} {a : Act} {Q : Exit → Act → World → Prop} (hgd : o.guard = none) (s x : Operand) (ho : o.op = .call { callee := .builtin .append, args := #[s, x], argTypes := #[37, 37] })
    (w : World) (base n : Nat) (v : Value) (l : List Int) (hs : a.eval s = v) (hown : w.ownsRow base 3 1 v n (l.map (.int .i64))) (xv : Value) (k : List Int) (hx : a.eval x = xv) (hsrc : Src w xv k) (t : Nat) (ht : n + k.length = t) (hb : t ≤ 100000) (hbase : base ≤ w.heap.size)
    (h : ∀ ao cap w', w'.ownsRow base 3 1 (.slice ao t cap) t ((l ++ k).map (.int .i64)) → w.grownBy w' v.ownBlock → wpList Try.prog ops Q rest (a.put o.dst (.slice ao t cap)) w') : wpList Try.prog ops Q (o :: rest) a w :=
  wpList_plain hgd fun _ hK => wp_onto s x ho w base n v l hs hown xv k hx hsrc t ht hb hbase fun ao cap w' h1 h2 => hK _ _ (h ao cap w' h1 h2)

theorem step_onto {ops : Array Oper} {o : Oper} {a : Act} {K : Act → World → Prop} {Q : Exit → Act → World → Prop} {E : Prop} (hgd : o.guard = none) (s x : Operand) (ho : o.op = .call { callee := .builtin .append, args := #[s, x], argTypes := #[37, 37] })
    (w : World) (base n : Nat) (v : Value) (l : List Int) (hs : a.eval s = v) (hown : w.ownsRow base 3 1 v n (l.map (.int .i64))) (xv : Value) (k : List Int) (hx : a.eval x = xv) (hsrc : Src w xv k) (t : Nat) (ht : n + k.length = t) (hb : t ≤ 100000) (hbase : base ≤ w.heap.size)
    (h : ∀ ao cap w', w'.ownsRow base 3 1 (.slice ao t cap) t ((l ++ k).map (.int .i64)) → w.grownBy w' v.ownBlock → K (a.put o.dst (.slice ao t cap)) w') :
    if Region.wanted o (yielded ops a.tmps) = true then Oper.wp Try.prog o a w K Q else E := by
  have hw : Region.wanted o (yielded ops a.tmps) = true := by simp [Region.wanted, hgd]
  rw [if_pos hw]
  exact wp_onto s x ho w base n v l hs hown xv k hx hsrc t ht hb hbase h

theorem below_onto {base : Nat} {w W W' : World} {v : Value} {n : Nat} {xs : List Value} (h : Below base w W) (ho : W.ownsRow base 3 1 v n xs) (hs : base ≤ W.heap.size) (hg : W.grownBy W' v.ownBlock) : Below base w W' :=
  h.grown hg hs fun j e => (ho.lt j e).1

set_option maxHeartbeats 4000000 in
theorem without_any (v : Value) (l : List Int) (lo hi : Nat) (w : World) (hv : Row w lo hi v l) (k : Nat) (hk : k < l.length) (hl : l.length ≤ 1000) :
    Calls Try.prog 50 #[v, .int .i64 k] w fun e w' => ∃ v', e = .returned v' ∧ Row w' w.heap.size w'.heap.size v' (l.eraseIdx k) ∧ Below w.heap.size w w' := by
  obtain ⟨ao, cap, rfl, hc⟩ := id hv
  obtain ⟨g, rfl, g1, g2, g3⟩ := hc (by omega)
  have hk' : (k : Int) < (l.length : Int) := by omega
  have hk1 : (k : Int) ≤ (l.length : Int) + (cap : Int) := by omega
  have hk2 : IntKind.i64.wrap ((k : Int) + 1) = (k : Int) + 1 := by rw [IntKind.wrap_i64]; omega
  have hk3 : (k : Int) + 1 ≤ (l.length : Int) := by omega
  have hk4 : (0 : Int) ≤ (k : Int) + 1 := by omega
  have hk5 : ((k : Int) + 1).toNat = k + 1 := by omega
  have hs1 : ∀ W', Below w.heap.size w W' → Src W' (.slice (some ⟨g, 0, none⟩) k (l.length + cap)) (l.take k) := fun W' hb => by
    refine ⟨_, _, by rw [List.length_take, Nat.min_eq_left (by omega)], fun _ => ⟨g, 0, rfl, fun i y hy => ?_⟩⟩
    rw [Nat.zero_add]
    exact later' hb (g3 i y (by
      rw [List.getElem?_take] at hy
      split at hy
      · exact hy
      · cases hy))
  have hs2 : ∀ W', Below w.heap.size w W' → Src W' (.slice (if l.length + cap = k + 1 then some ⟨g, 0, none⟩ else some ⟨g, k + 1, none⟩) (l.length - (k + 1)) (l.length + cap - (k + 1))) (l.drop (k + 1)) := fun W' hb => by
    refine ⟨_, _, by rw [List.length_drop], fun h0 => ⟨g, k + 1, ?_, fun i y hy => ?_⟩⟩
    · rw [List.length_drop] at h0
      rw [if_neg (by omega)]
    · rw [List.getElem?_drop] at hy
      exact later' hb (g3 _ y hy)
  have hb0 : Below w.heap.size w (w.alloc (.cells #[] 3)).drew := ((Below.refl _ _).alloc (Nat.le_refl _) _).drew
  have ho0 : (w.alloc (.cells #[] 3)).drew.ownsRow w.heap.size 3 1 (.slice (some ⟨w.heap.size, 0, none⟩) 0 0) 0 (([] : List Int).map (.int .i64)) := World.ownsRow_made w #[] 0 (Nat.le_refl _) (Nat.zero_le _) rfl
  have ht : (l.take k).length = k := by rw [List.length_take, Nat.min_eq_left (by omega)]
  have hd : (l.drop (k + 1)).length = l.length - (k + 1) := List.length_drop
  have H := Lib.hid (And.intro hs1 (And.intro hs2 (And.intro hb0 (And.intro ho0 (And.intro ht hd)))))
  clear hv hc g3 hs1 hs2 hb0 ho0 ht hd
  go_enter Try.func50, Try.ntmps50
  go_wp2_with fail
  go_region_law (first
    | (refine step_onto rfl (.tmp 5) (.tmp 8) rfl _ w.heap.size 0 _ [] rfl H.out.2.2.2.1 _ (l.take k) rfl (H.out.1 _ H.out.2.2.1) k ?b1 ?d1 ?c1 ?_; (case b1 => have := H.out.2.2.2.2.1; omega); (case d1 => omega); (case c1 => exact H.out.2.2.1.size); intro ao1 cap1 w1 hown1 hgr1; have hb1 := below_onto H.out.2.2.1 H.out.2.2.2.1 H.out.2.2.1.size hgr1)
    | (refine step_onto rfl (.tmp 9) (.tmp 13) rfl _ w.heap.size _ _ _ rfl hown1 _ (l.drop (k + 1)) rfl (H.out.2.1 _ hb1) (l.length - 1) ?b2 ?d2 ?c2 ?_; (case b2 => have := H.out.2.2.2.2.2; omega); (case d2 => omega); (case c2 => exact hb1.size); intro ao2 cap2 w2 hown2 hgr2; have hb2 := below_onto hb1 hown1 hb1.size hgr2))
  all_goals go_wp2_with fail
  all_goals go_ret
  all_goals
    refine ⟨_, rfl, ?_, hb2⟩
    have hr := Row.of_own hown2
    rwa [List.nil_append, ← List.eraseIdx_eq_take_drop_succ] at hr

end Go.Proofs.Ytbjlpmjalidfkaa
