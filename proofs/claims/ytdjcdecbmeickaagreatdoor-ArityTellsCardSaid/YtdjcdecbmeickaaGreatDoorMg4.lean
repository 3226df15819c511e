import Derived.Maps.OwnSet
import Derived.Maps.OwnOps
import Derived.Maps.Views
import Derived.Shelf.SlMaps.Clone
import Derived.Test.YtdjcdecbmeickaaGreatDoorMg2
import Derived.Test.YtdjcdecbmeickaaGreatDoorMg3
namespace Go.Proofs.YtdjcdecbmeickaaGreatDoor
set_option maxHeartbeats 64000000
set_option maxRecDepth 100000
open Go.RowKit Go.Lib
theorem add_at (g o j : Nat) : (⟨g, o, none⟩ : Addr).add j = ⟨g, o + j, none⟩ := by
  unfold Addr.add
  split <;> simp_all
theorem run_nil_str (ty : TypeId) (v : Value) (base n : Nat) (xs : List Value) (c : Nat) (w : World) (h : w.ownsRow base 9 1 v n xs) :
    (Builtin.append_ #[50, 50] ty #[v, .slice none 0 c]).run Tryz.prog w = .ok v w := by
  have hu : Tryz.prog.underlying 50 = some (.slice 9) := Tryz.underlying50
  rcases h.2 with ⟨rfl, rfl⟩ | ⟨g, cap, cur, rfl, _, _, hcap, _⟩
  · simp [Builtin.append_, run_underlying hu, Tryz.sizeOf9, Builtin.firstCells, Builtin.lenOf, go_sem]
  · simp [Builtin.append_, run_underlying hu, Tryz.sizeOf9, Builtin.firstCells, Builtin.lenOf, go_sem, hcap]
theorem run_onto_str (ty : TypeId) (w : World) (base n : Nat) (v : Value) (xs : List Value) (hown : w.ownsRow base 9 1 v n xs) (K : Nat → Prop) (m : Nat) (ys : List Value) (x : Value) (hx : RowAt w K 9 1 x m ys) (h1 : ∀ u ∈ ys, u.oneCell' = true) (hb : n + m ≤ 100000) (hbase : base ≤ w.heap.size) :
    ∃ ao cap w', (Builtin.append_ #[50, 50] ty #[v, x]).run Tryz.prog w = .ok (.slice ao (n + m) cap) w' ∧ Onto w base 9 1 v (n + m) (xs ++ ys) ao cap w' := by
  obtain ⟨i0, hi, hz0, hz1, hz2⟩ := info_parts Tryz.info_text
  obtain ⟨hl, ⟨rfl, rfl⟩ | ⟨g, o, c, cur, rfl, h2, h3, h4, h5, h6⟩⟩ := id hx
  · have hy : ys = [] := List.length_eq_zero_iff.1 (by simpa using hl)
    subst hy
    obtain ⟨ao, cap, rfl, hlow⟩ := own_shape hown
    exact ⟨ao, cap, w, run_nil_str ty _ base n xs 0 w hown, by simpa using hown, ⟨rfl, rfl, rfl, Nat.le_refl _, fun _ _ _ => rfl⟩, Or.inl rfl⟩
  · obtain ⟨v', w', hr, q2, q3, _, q5⟩ := run_append_own_at (P := Tryz.prog) w base 50 ty 9 i0 (.string ⟨#[]⟩) 1 16 Tryz.underlying50 hi hz0 hz1 hz2 rfl (by decide) v n xs hown ⟨g, o, none⟩ m c ys hl (fun j u hj => by rw [add_at]; exact h6 j u hj) h1 (by unfold maxLen; omega) (by omega) hbase
    obtain ⟨ao, c2, rfl, hlow⟩ := own_shape q2
    exact ⟨ao, c2, w', hr, q2, q3, q5⟩
theorem wp_onto_str {o : Oper} {a : Act} {K : Act → World → Prop} {Q : Exit → Act → World → Prop} (s x : Operand) (ho : o.op = .call { callee := .builtin .append, args := #[s, x], argTypes := #[50, 50] })
    (w : World) (base n : Nat) (v : Value) (xs : List Value) (hs : a.eval s = v) (hown : w.ownsRow base 9 1 v n xs) (K2 : Nat → Prop) (m : Nat) (ys : List Value) (xv : Value) (hx : a.eval x = xv) (hsrc : RowAt w K2 9 1 xv m ys) (h1 : ∀ u ∈ ys, u.oneCell' = true) (hb : n + m ≤ 100000) (hbase : base ≤ w.heap.size)
    (h : ∀ ao cap w', Onto w base 9 1 v (n + m) (xs ++ ys) ao cap w' → K (a.put o.dst (.slice ao (n + m) cap)) w') : o.wp Tryz.prog a w K Q := by
  obtain ⟨ao, cap, w', hr, h2⟩ := run_onto_str o.type w base n v xs hown K2 m ys xv hsrc h1 hb hbase
  unfold Oper.wp execOp
  simp only [ho, resolve, invoke, builtin, Sem.run_bind, Sem.run_pure, Result.andThen_ok, List.map_toArray, List.map_cons, List.map_nil, hs, hx, hr]
  exact h ao cap w' h2
theorem list_onto_str {ops : Array Oper} {rest : List Oper} {o : Oper} {a : Act} {Q : Exit → Act → World → Prop} (hgd : o.guard = none) (s x : Operand) (ho : o.op = .call { callee := .builtin .append, args := #[s, x], argTypes := #[50, 50] })
    (w : World) (base n : Nat) (v : Value) (xs : List Value) (hs : a.eval s = v) (hown : w.ownsRow base 9 1 v n xs) (K2 : Nat → Prop) (m : Nat) (ys : List Value) (xv : Value) (hx : a.eval x = xv) (hsrc : RowAt w K2 9 1 xv m ys) (h1 : ∀ u ∈ ys, u.oneCell' = true) (hb : n + m ≤ 100000) (hbase : base ≤ w.heap.size)
    (h : ∀ ao cap w', Onto w base 9 1 v (n + m) (xs ++ ys) ao cap w' → wpList Tryz.prog ops Q rest (a.put o.dst (.slice ao (n + m) cap)) w') : wpList Tryz.prog ops Q (o :: rest) a w :=
  wpList_plain hgd fun _ hK => wp_onto_str s x ho w base n v xs hs hown K2 m ys xv hx hsrc h1 hb hbase fun ao cap w' h1 => hK _ _ (h ao cap w' h1)
theorem namesV_one {l : List Nm} : ∀ u ∈ namesV l, u.oneCell' = true := by
  intro u hu
  simp only [namesV, List.mem_map] at hu
  obtain ⟨_, _, rfl⟩ := hu
  rfl
theorem sjoin_any (l r : List Nm) (a b : Value) (K K2 : Nat → Prop) (w : World) (hn : l.length + r.length ≤ 100000) (hl : RowAt w K 9 1 a l.length (namesV l)) (hr : RowAt w K2 9 1 b r.length (namesV r)) :
    Calls Tryz.prog 73 #[a, b] w fun e w' => (∃ v, e = .returned v ∧ w'.ownsRow w.heap.size 9 1 v (l.length + r.length) (namesV (l ++ r))) ∧ Below w.heap.size w w' := by
  obtain ⟨aa, ca, rfl⟩ := hl.sl
  obtain ⟨ab, cb, rfl⟩ := hr.sl
  have ba := (Below.refl w.heap.size w).alloc Nr (.cells #[] 9)
  have HA : (w.alloc (.cells #[] 9)).ownsRow w.heap.size 9 1 (.slice (some ⟨w.heap.size, 0, none⟩) 0 0) 0 [] := ⟨by simp, Or.inr ⟨w.heap.size, 0, #[], rfl, Nat.le_refl _, heap_alloc_new _ _, Nat.le_refl _, Nat.zero_le _, rfl, rfl⟩⟩
  have HB : RowAt (w.alloc (.cells #[] 9)) (fun _ => True) 9 1 (.slice aa l.length ca) l.length (namesV l) := hl.move (fun g _ lt => ⟨trivial, ba.block g lt⟩)
  have b1 : ∀ {ao cap w1}, Onto (w.alloc (.cells #[] 9)) w.heap.size 9 1 (.slice (some ⟨w.heap.size, 0, none⟩) 0 0) l.length (namesV l) ao cap w1 → Below w.heap.size w w1 := fun h =>
    ⟨h.2.1.os.trans ba.os, h.2.1.tape.trans ba.tape, h.2.1.output.trans ba.output, Nt ba.size h.2.1.size, fun k hk => (h.2.1.block k (by have := ba.size; omega) (fun e => by have e' : k = w.heap.size := Oi e; omega)).trans (ba.block k hk)⟩
  have HC : ∀ {w1 : World}, Below w.heap.size w w1 → RowAt w1 (fun _ => True) 9 1 (.slice ab r.length cb) r.length (namesV r) := fun h => hr.move (fun g _ lt => ⟨trivial, h.block g lt⟩)
  have HD := Hd (Ai HA HB)
  have HE := Hd ba.size
  clear hl hr HA HB
  go_enter Tryz.func73, Tryz.ntmps73
  go_wp2_with (at_builtin; first
    | (refine list_onto_str rfl _ _ rfl _ w.heap.size 0 (.slice (some ⟨w.heap.size, 0, none⟩) 0 0) [] rfl HD.out.1 (fun _ => True) l.length (namesV l) (.slice aa l.length ca) rfl HD.out.2 namesV_one (by omega) HE.out ?_; intro ao cap w1 O1; rw [Nat.zero_add, List.nil_append] at O1)
    | (refine list_onto_str rfl _ _ rfl _ w.heap.size l.length (.slice ao l.length cap) (namesV l) rfl O1.1 (fun _ => True) r.length (namesV r) (.slice ab r.length cb) rfl (HC (b1 O1)) namesV_one (by omega) (b1 O1).size ?_; intro ao2 cap2 w2 O2))
  refine bodyPost_ret (v := .slice ao2 (l.length + r.length) cap2) (by simp [results, Tryz.results73, go_sem]) rfl ⟨⟨_, rfl, ?_⟩, ?_⟩
  · have h := O2.1
    rwa [show namesV l ++ namesV r = namesV (l ++ r) by simp only [namesV, List.map_append]] at h
  · have h1 := b1 O1
    have hz := HE.out
    refine ⟨O2.2.1.os.trans h1.os, O2.2.1.tape.trans h1.tape, O2.2.1.output.trans h1.output, Nt h1.size O2.2.1.size, fun k hk => (O2.2.1.block k (by have := h1.size; omega) (fun e => ?_)).trans (h1.block k hk)⟩
    rcases O1.2.2 with q | q
    · rw [q] at e
      have e' : k = w.heap.size := Oi e
      omega
    · rw [q] at e
      have e' : k = (w.alloc (.cells #[] 9)).heap.size := Oi e
      omega
theorem run_onto_declR (ty : TypeId) (w : World) (base n : Nat) (v : Value) (xs : List Value) (hown : w.ownsRow base 92 2 v n xs) (K : Nat → Prop) (m : Nat) (ys : List Value) (x : Value) (hx : RowAt w K 92 2 x m ys) (h1 : ∀ u ∈ ys, u.oneCell' = true) (hb : n + m ≤ 100000) (hbase : base ≤ w.heap.size) :
    ∃ ao cap w', (Builtin.append_ #[24, 24] ty #[v, x]).run Tryz.prog w = .ok (.slice ao (n + m) cap) w' ∧ Onto w base 92 2 v (n + m) (xs ++ ys) ao cap w' := by
  obtain ⟨i0, hi, hz0, hz1, hz2⟩ := info_parts Tryz.info_decl
  obtain ⟨hl, ⟨rfl, rfl⟩ | ⟨g, o, c, cur, rfl, h2, h3, h4, h5, h6⟩⟩ := id hx
  · have hy : ys = [] := List.length_eq_zero_iff.1 (by simpa using hl)
    subst hy
    obtain ⟨ao, cap, rfl, hlow⟩ := own_shape hown
    exact ⟨ao, cap, w, run_nil_decl ty _ base n xs 0 w hown, by simpa using hown, ⟨rfl, rfl, rfl, Nat.le_refl _, fun _ _ _ => rfl⟩, Or.inl rfl⟩
  · obtain ⟨v', w', hr, q2, q3, _, q5⟩ := run_append_own_at (P := Tryz.prog) w base 24 ty 92 i0 (.agg #[.string ⟨#[]⟩, .int .i64 0]) 2 24 Tryz.underlying24 hi hz0 hz1 hz2 rfl (by decide) v n xs hown ⟨g, o, none⟩ m c ys hl (fun j u hj => by rw [add_at]; exact h6 j u hj) h1 (by unfold maxLen; omega) (by omega) hbase
    obtain ⟨ao, c2, rfl, hlow⟩ := own_shape q2
    exact ⟨ao, c2, w', hr, q2, q3, q5⟩
theorem wp_onto_declR {o : Oper} {a : Act} {K : Act → World → Prop} {Q : Exit → Act → World → Prop} (s x : Operand) (ho : o.op = .call { callee := .builtin .append, args := #[s, x], argTypes := #[24, 24] })
    (w : World) (base n : Nat) (v : Value) (xs : List Value) (hs : a.eval s = v) (hown : w.ownsRow base 92 2 v n xs) (K2 : Nat → Prop) (m : Nat) (ys : List Value) (xv : Value) (hx : a.eval x = xv) (hsrc : RowAt w K2 92 2 xv m ys) (h1 : ∀ u ∈ ys, u.oneCell' = true) (hb : n + m ≤ 100000) (hbase : base ≤ w.heap.size)
    (h : ∀ ao cap w', Onto w base 92 2 v (n + m) (xs ++ ys) ao cap w' → K (a.put o.dst (.slice ao (n + m) cap)) w') : o.wp Tryz.prog a w K Q := by
  obtain ⟨ao, cap, w', hr, h2⟩ := run_onto_declR o.type w base n v xs hown K2 m ys xv hsrc h1 hb hbase
  unfold Oper.wp execOp
  simp only [ho, resolve, invoke, builtin, Sem.run_bind, Sem.run_pure, Result.andThen_ok, List.map_toArray, List.map_cons, List.map_nil, hs, hx, hr]
  exact h ao cap w' h2
theorem list_onto_declR {ops : Array Oper} {rest : List Oper} {o : Oper} {a : Act} {Q : Exit → Act → World → Prop} (hgd : o.guard = none) (s x : Operand) (ho : o.op = .call { callee := .builtin .append, args := #[s, x], argTypes := #[24, 24] })
    (w : World) (base n : Nat) (v : Value) (xs : List Value) (hs : a.eval s = v) (hown : w.ownsRow base 92 2 v n xs) (K2 : Nat → Prop) (m : Nat) (ys : List Value) (xv : Value) (hx : a.eval x = xv) (hsrc : RowAt w K2 92 2 xv m ys) (h1 : ∀ u ∈ ys, u.oneCell' = true) (hb : n + m ≤ 100000) (hbase : base ≤ w.heap.size)
    (h : ∀ ao cap w', Onto w base 92 2 v (n + m) (xs ++ ys) ao cap w' → wpList Tryz.prog ops Q rest (a.put o.dst (.slice ao (n + m) cap)) w') : wpList Tryz.prog ops Q (o :: rest) a w :=
  wpList_plain hgd fun _ hK => wp_onto_declR s x ho w base n v xs hs hown K2 m ys xv hx hsrc h1 hb hbase fun ao cap w' h1 => hK _ _ (h ao cap w' h1)
theorem scons_any (ds : List (Nm × Int)) (a b : Value) (K : Nat → Prop) (w : World) (hn : 4 + ds.length ≤ 100000) (hl : RowAt w K 92 2 a ds.length (declV ds)) :
    Calls Tryz.prog 17 #[.agg #[a, b]] w fun e w' => (∃ v, e = .returned v ∧ w'.ownsRow w.heap.size 92 2 v (4 + ds.length) (declV (four ++ ds))) ∧ Below w.heap.size w w' := by
  obtain ⟨aa, ca, rfl⟩ := hl.sl
  have ba := (Below.refl w.heap.size w).alloc Nr (.cells #[.slice aa ds.length ca, b] 27)
  have bb := ba.alloc ba.size (.cells (declV four).toArray 92)
  have hz : (w.alloc (.cells #[.slice aa ds.length ca, b] 27)).heap.size = w.heap.size + 1 := Array.size_push ..
  have HA : ((w.alloc (.cells #[.slice aa ds.length ca, b] 27)).alloc (.cells (declV four).toArray 92)).ownsRow w.heap.size 92 2 (.slice (some ⟨w.heap.size + 1, 0, none⟩) 4 4) 4 (declV four) := ⟨rfl, Or.inr ⟨w.heap.size + 1, 4, (declV four).toArray, rfl, by omega, by rw [← hz]; exact heap_alloc_new _ _, Nat.le_refl _, by decide, rfl, rfl⟩⟩
  have HB : RowAt ((w.alloc (.cells #[.slice aa ds.length ca, b] 27)).alloc (.cells (declV four).toArray 92)) (fun _ => True) 92 2 (.slice aa ds.length ca) ds.length (declV ds) := hl.move (fun g _ lt => ⟨trivial, bb.block g lt⟩)
  have HD := Hd (Ai HA (Ai HB bb))
  clear hl HA HB ba bb hz
  go_enter Tryz.func17, Tryz.ntmps17
  go_wp2_with (at_builtin; refine list_onto_declR rfl _ _ rfl _ w.heap.size 4 (.slice (some ⟨w.heap.size + 1, 0, none⟩) 4 4) (declV four) rfl HD.out.1 (fun _ => True) ds.length (declV ds) (.slice aa ds.length ca) rfl HD.out.2.1 (declV_one ds) hn HD.out.2.2.size ?_; intro ao cap w1 O1)
  refine bodyPost_ret (v := .slice ao (4 + ds.length) cap) (by simp [results, Tryz.results17, go_sem]) rfl ⟨⟨_, rfl, ?_⟩, ?_⟩
  · have h := O1.1
    rwa [← declV_app] at h
  · have bb := HD.out.2.2
    exact ⟨O1.2.1.os.trans bb.os, O1.2.1.tape.trans bb.tape, O1.2.1.output.trans bb.output, Nt bb.size O1.2.1.size, fun k hk => (O1.2.1.block k (Nat.lt_of_lt_of_le hk bb.size) (fun e => by have e' : k = w.heap.size + 1 := Oi e; omega)).trans (bb.block k hk)⟩
theorem or_none {a b : Fo} : a.or b = none ↔ a = none ∧ b = none := by
  cases a <;> simp [Option.or]
def Sub (a b : List Nm) : Prop := ∀ x, x ∈ a → x ∈ b
theorem hasF_none {a : List Nm} {n : Nm} : hasF a n = none ↔ n ∈ a := by
  unfold hasF
  by_cases g : n ∈ a
  · rw [if_pos g]; exact ⟨fun _ => g, fun _ => rfl⟩
  · rw [if_neg g]; exact ⟨fun h => (by cases h), fun h => absurd h g⟩
theorem twiceL_none : ∀ (l seen : List Nm), twiceL seen l = none ↔ l.Nodup ∧ ∀ x, x ∈ l → x ∉ seen
  | [], seen => by simp [twiceL]
  | x :: r, seen => by
    unfold twiceL
    by_cases g : x ∈ seen
    · rw [if_pos g]
      exact ⟨fun h => (by cases h), fun h => absurd g (h.2 x (List.mem_cons_self ..))⟩
    · rw [if_neg g, twiceL_none r (seen ++ [x])]
      constructor
      · rintro ⟨h1, h2⟩
        refine ⟨List.nodup_cons.2 ⟨fun hx => h2 x hx (List.mem_append.2 (Or.inr (List.mem_singleton.2 rfl))), h1⟩, fun y hy => ?_⟩
        rcases List.mem_cons.1 hy with rfl | hy
        · exact g
        · exact fun hs => h2 y hy (List.mem_append.2 (Or.inl hs))
      · rintro ⟨h1, h2⟩
        obtain ⟨h3, h4⟩ := List.nodup_cons.1 h1
        refine ⟨h4, fun y hy hs => ?_⟩
        rcases List.mem_append.1 hs with hs | hs
        · exact h2 y (List.mem_cons_of_mem _ hy) hs
        · rw [List.mem_singleton.1 hs] at hy; exact h3 hy
theorem twF_none (l : List Nm) : twF l = none ↔ l.Nodup := by
  unfold twF
  rw [Option.map_eq_none_iff, twiceL_none]
  exact ⟨fun h => h.1, fun h => ⟨h, fun _ _ hs => (by cases hs)⟩⟩
theorem scBs_none {cs sc : List Nm} : ∀ (l : List (Nm × List Nm × Ex)), scBs cs sc l = none ↔ ∀ b, b ∈ l → b.2.1.Nodup ∧ scE cs (sc ++ b.2.1) b.2.2 = none
  | [] => by unfold scBs; simp
  | (n, ps, e) :: r => by
    unfold scBs
    rw [or_none, or_none, twF_none, scBs_none r]
    constructor
    · rintro ⟨h1, h2⟩ b hb
      rcases List.mem_cons.1 hb with rfl | hb
      · exact h1
      · exact h2 b hb
    · intro h
      exact ⟨h _ (List.mem_cons_self ..), fun b hb => h b (List.mem_cons_of_mem _ hb)⟩
theorem scM_none (m : Md) : scM m = none ↔ (conNames m).Nodup ∧ (bNames m.2).Nodup ∧ mainL ∈ bNames m.2 ∧ ∀ b, b ∈ m.2 → b.2.1.Nodup ∧ scE (conNames m) (bNames m.2 ++ b.2.1) b.2.2 = none := by
  unfold scM
  rw [or_none, or_none, or_none, twF_none, twF_none, scBs_none]
  by_cases g : mainL ∈ bNames m.2
  · rw [if_pos g]; simp [g]
  · rw [if_neg g]; simp [g]
def NmOk (x : Nm) : Prop := x ≠ [] ∧ x.length ≤ 100000
def Nms (l : List Nm) : Prop := ∀ x, x ∈ l → NmOk x
mutual
def wfE : Ex → Prop
  | .mk k n _ _ ps ks bs al => (k = 1 → ks = []) ∧ (k ≠ 7 → al = []) ∧ (k = 1 ∨ k = 2 ∨ k = 5 → NmOk n) ∧ Nms ps ∧ wfEs ks ∧ wfBs bs ∧ wfAs al ∧ (k ≠ 6 → bs = []) ∧ (k ≠ 8 → ps = [])
def wfEs : List Ex → Prop
  | [] => True
  | e :: r => wfE e ∧ wfEs r
def wfBs : List (Nm × List Nm × Ex) → Prop
  | [] => True
  | (n, ps, e) :: r => (NmOk n ∧ Nms ps ∧ wfE e) ∧ wfBs r
def wfAs : List (Int × Nm × Bool × Int × List Nm × Ex) → Prop
  | [] => True
  | (k, n, _, _, ns, e) :: r => ((k = 0 ∨ k = 2 → NmOk n) ∧ (Nms ns ∧ (k ≠ 0 → ns = [])) ∧ wfE e) ∧ wfAs r
end
theorem or_nil (a : Fo) : a.or none = a := by cases a <;> rfl
mutual
theorem sdE_eq {cs : List Nm} : ∀ (e : Ex) (sc : List Nm), wfE e → sdE cs sc e = scE cs sc e
  | .mk k n f x ps ks bs al, sc, h => by
    unfold wfE at h
    obtain ⟨h1, h2, -, -, h5, h6, h7, -⟩ := h
    have a0 : ∀ sc, sdAs cs sc [] = none := fun sc => by unfold sdAs; rfl
    have k0 : ∀ sc, sdEs cs sc [] = none := fun sc => by unfold sdEs; rfl
    unfold sdE scE
    by_cases g1 : k = 1
    · rw [if_pos g1, if_pos g1, h1 g1, h2 (by omega), a0, k0]
      simp
    rw [if_neg g1, if_neg g1]
    by_cases g2 : k = 2
    · rw [if_pos g2, if_pos g2, h2 (by omega), a0, or_nil, sdEs_eq ks _ h5]
    rw [if_neg g2, if_neg g2]
    by_cases g3 : k = 6
    · rw [if_pos g3, if_pos g3, h2 (by omega), a0, or_nil, sdBs_eq bs _ h6, sdEs_eq ks _ h5]
    rw [if_neg g3, if_neg g3]
    by_cases g5 : k = 8
    · rw [if_pos g5, if_neg (by omega), if_pos g5, h2 (by omega), a0, or_nil, sdEs_eq ks _ h5]
    rw [if_neg g5]
    by_cases g4 : k = 7
    · rw [if_pos g4, sdEs_eq ks _ h5, sdAs_eq al _ h7]
    · rw [if_neg g4, if_neg g5, h2 g4, a0, or_nil, sdEs_eq ks _ h5]
theorem sdEs_eq {cs : List Nm} : ∀ (l : List Ex) (sc : List Nm), wfEs l → sdEs cs sc l = scEs cs sc l
  | [], _, _ => by unfold sdEs scEs; rfl
  | e :: r, sc, h => by
    unfold wfEs at h
    unfold sdEs scEs
    rw [sdE_eq e sc h.1, sdEs_eq r sc h.2]
theorem sdBs_eq {cs : List Nm} : ∀ (l : List (Nm × List Nm × Ex)) (sc : List Nm), wfBs l → sdBs cs sc l = scBs cs sc l
  | [], _, _ => by unfold sdBs scBs; rfl
  | (n, ps, e) :: r, sc, h => by
    unfold wfBs at h
    unfold sdBs scBs
    rw [sdE_eq e _ h.1.2.2, sdBs_eq r sc h.2]
theorem sdAs_eq {cs : List Nm} : ∀ (l : List (Int × Nm × Bool × Int × List Nm × Ex)) (sc : List Nm), wfAs l → sdAs cs sc l = scAs cs sc l
  | [], _, _ => by unfold sdAs scAs; rfl
  | (k, n, f, x, ns, e) :: r, sc, h => by
    unfold wfAs at h
    unfold sdAs scAs
    rw [sdE_eq e _ h.1.2.2, sdE_eq e _ h.1.2.2, sdE_eq e _ h.1.2.2, sdAs_eq r sc h.2]
end
theorem sdM_eq {m : Md} (h : wfBs m.2) : sdM m = scM m := by
  unfold sdM scM
  rw [sdBs_eq m.2 _ h]
def FoOk (o : Fo) : Prop := ∀ e n, o = some (e, n) → e ≠ 0 ∧ n ≠ []
theorem FoOk.or {a b : Fo} (ha : FoOk a) (hb : FoOk b) : FoOk (a.or b) := by
  cases a with
  | none => simpa using hb
  | some x => intro e n h; exact ha e n (by simpa using h)
theorem hasF_ok {l : List Nm} {n : Nm} (h : n ≠ []) : FoOk (hasF l n) := by
  intro e m he
  unfold hasF at he
  split at he
  · cases he
  · cases he; exact ⟨by decide, h⟩
theorem twiceL_mem : ∀ (l seen : List Nm) (x : Nm), twiceL seen l = some x → x ∈ l
  | [], _, _, h => by cases h
  | y :: r, seen, x, h => by
    unfold twiceL at h
    split at h
    · cases h; exact List.mem_cons_self ..
    · exact List.mem_cons_of_mem _ (twiceL_mem r _ x h)
theorem twF_ok {l : List Nm} (h : Nms l) : FoOk (twF l) := by
  intro e m he
  unfold twF at he
  obtain ⟨x, hx, hy⟩ := Option.map_eq_some_iff.1 he
  cases hy
  exact ⟨by decide, (h _ (twiceL_mem _ _ _ hx)).1⟩
theorem none_ok : FoOk none := fun _ _ h => by cases h
theorem bNames_ok : ∀ {bs : List (Nm × List Nm × Ex)}, wfBs bs → Nms (bNames bs)
  | [], _ => fun _ hx => by cases hx
  | (n, ps, e) :: r, h => fun x hx => by
    unfold wfBs at h
    rcases List.mem_cons.1 hx with rfl | hx
    · exact h.1.1
    · exact bNames_ok h.2 x hx
mutual
theorem scE_ok {cs : List Nm} : ∀ (e : Ex) (sc : List Nm), wfE e → FoOk (scE cs sc e)
  | .mk k n f x ps ks bs al, sc, h => by
    unfold wfE at h
    obtain ⟨h1, h2, h3, h4, h5, h6, h7, -⟩ := h
    unfold scE
    split
    · rename_i g; exact hasF_ok (h3 (Or.inl g)).1
    split
    · rename_i g; exact (hasF_ok (h3 (Or.inr (Or.inl g))).1).or (scEs_ok ks sc h5)
    split
    · exact (twF_ok (bNames_ok h6)).or ((scBs_ok bs _ h6).or (scEs_ok ks _ h5))
    split
    · exact (scEs_ok ks sc h5).or (scAs_ok al sc h7)
    split
    · exact (twF_ok h4).or (scEs_ok ks _ h5)
    · exact scEs_ok ks sc h5
theorem scEs_ok {cs : List Nm} : ∀ (l : List Ex) (sc : List Nm), wfEs l → FoOk (scEs cs sc l)
  | [], _, _ => by unfold scEs; exact none_ok
  | e :: r, sc, h => by
    unfold wfEs at h
    unfold scEs
    exact (scE_ok e sc h.1).or (scEs_ok r sc h.2)
theorem scBs_ok {cs : List Nm} : ∀ (l : List (Nm × List Nm × Ex)) (sc : List Nm), wfBs l → FoOk (scBs cs sc l)
  | [], _, _ => by unfold scBs; exact none_ok
  | (n, ps, e) :: r, sc, h => by
    unfold wfBs at h
    unfold scBs
    exact ((twF_ok h.1.2.1).or (scE_ok e _ h.1.2.2)).or (scBs_ok r sc h.2)
theorem scAs_ok {cs : List Nm} : ∀ (l : List (Int × Nm × Bool × Int × List Nm × Ex)) (sc : List Nm), wfAs l → FoOk (scAs cs sc l)
  | [], _, _ => by unfold scAs; exact none_ok
  | (k, n, f, x, ns, e) :: r, sc, h => by
    unfold wfAs at h
    unfold scAs
    refine FoOk.or ?_ (scAs_ok r sc h.2)
    split
    · rename_i g; exact (hasF_ok (h.1.1 (Or.inl g)).1).or ((twF_ok h.1.2.1.1).or (scE_ok e _ h.1.2.2))
    split
    · exact scE_ok e _ h.1.2.2
    · exact scE_ok e _ h.1.2.2
end
theorem scM_ok {m : Md} (h : wfBs m.2) (hc : ∀ d, d ∈ m.1 → NmOk d.1) : FoOk (scM m) := by
  have hn : Nms (conNames m) := fun x hx => by
    obtain ⟨d, hd, rfl⟩ := List.mem_map.1 hx
    rcases List.mem_append.1 hd with hd | hd
    · simp only [four, List.mem_cons, List.not_mem_nil, or_false] at hd
      rcases hd with rfl | rfl | rfl | rfl <;> exact ⟨by decide, by decide⟩
    · exact hc d hd
  refine (twF_ok hn).or ((twF_ok (bNames_ok h)).or (FoOk.or ?_ (scBs_ok _ _ h)))
  split
  · exact none_ok
  · intro e n he; cases he; exact ⟨by decide, by decide⟩
def Gap (b : UInt8) : Prop := b = 32 ∨ b = 10
theorem find_same {α : Type} {p q : α → Bool} : ∀ (l : List α), (∀ x, x ∈ l → p x = q x) → l.find? p = l.find? q
  | [], _ => rfl
  | a :: l, h => by
    rw [List.find?_cons, List.find?_cons, h a (List.mem_cons_self ..), find_same l fun x hx => h x (List.mem_cons_of_mem _ hx)]
theorem signs_gap : ∀ x, x ∈ signsB → (32 : UInt8) ∉ x.1.data.toList ∧ (10 : UInt8) ∉ x.1.data.toList := by decide
theorem inRun_gap {b : UInt8} (hb : Gap b) : inRun b = false := by
  rcases hb with rfl | rfl <;> decide
theorem run_run (l : List UInt8) : runL (runL l) = runL l := by
  unfold runL
  induction l with
  | nil => rfl
  | cons c l ih =>
    rw [List.takeWhile_cons]
    split
    · rename_i h
      rw [List.takeWhile_cons, if_pos h, ih]
    · rfl
theorem run_mem {l : List UInt8} {x : UInt8} (h : x ∈ runL l) : inRun x = true := by
  unfold runL at h
  induction l with
  | nil => cases h
  | cons c l ih =>
    rw [List.takeWhile_cons] at h
    split at h
    · rename_i g
      rcases List.mem_cons.1 h with rfl | h
      · exact g
      · exact ih h
    · cases h
theorem run_take (l : List UInt8) : l.take (runL l).length = runL l := (List.prefix_iff_eq_take.1 (List.takeWhile_prefix _)).symm
theorem marked_minus (q : List UInt8) : markedL (35 :: 45 :: q) = 35 :: 45 :: runL q := by
  have e : trimPrefix ((35 :: 45 :: q : List UInt8).drop 1) [45] = q := by simp [trimPrefix, hasPrefix]
  unfold markedL
  rw [e]
  have e2 : (35 :: 45 :: q : List UInt8).length - q.length + (runL q).length = (runL q).length + 1 + 1 := by simp only [List.length_cons]; omega
  rw [e2, List.take_succ_cons, List.take_succ_cons, run_take]
theorem marked_plain {m : List UInt8} (h : hasPrefix m [45] = false) : markedL (35 :: m) = 35 :: runL m := by
  have e : trimPrefix ((35 :: m : List UInt8).drop 1) [45] = m := by simp [trimPrefix, h]
  unfold markedL
  rw [e]
  have e2 : (35 :: m : List UInt8).length - m.length + (runL m).length = (runL m).length + 1 := by simp only [List.length_cons]; omega
  rw [e2, List.take_succ_cons, run_take]
theorem minus_split (m : List UInt8) : (∃ q, m = 45 :: q) ∨ hasPrefix m [45] = false := by
  cases m with
  | nil => exact Or.inr (by decide)
  | cons c q =>
    by_cases h : c = 45
    · exact Or.inl ⟨q, by rw [h]⟩
    · refine Or.inr ?_
      unfold hasPrefix
      rw [Bool.eq_false_iff]
      intro g
      exact h (List.cons_prefix_cons.1 (List.isPrefixOf_iff_prefix.1 g)).1.symm
theorem has35 {l : List UInt8} (h : hasPrefix l [35] = true) : ∃ m, l = 35 :: m := by
  unfold hasPrefix at h
  obtain ⟨t, rfl⟩ := List.isPrefixOf_iff_prefix.1 h
  exact ⟨t, rfl⟩
theorem signs_own : ∀ x, x ∈ signsB → signL x.1.data.toList = some x := by decide
theorem sign_pre {t l : List UInt8} (ht : t <+: l) (h : signL l = none) : signL t = none := by
  unfold signL at *
  rw [List.find?_eq_none] at *
  intro x hx g
  refine h x hx ?_
  unfold hasPrefix at *
  exact List.isPrefixOf_iff_prefix.2 ((List.isPrefixOf_iff_prefix.1 g).trans ht)
theorem marked_pre (m : List UInt8) : markedL (35 :: m) <+: 35 :: m ∧ markedL (markedL (35 :: m)) = markedL (35 :: m) := by
  rcases minus_split m with ⟨q, rfl⟩ | h
  · rw [marked_minus, marked_minus, run_run]
    exact ⟨List.cons_prefix_cons.2 ⟨rfl, List.cons_prefix_cons.2 ⟨rfl, List.takeWhile_prefix _⟩⟩, rfl⟩
  · rw [marked_plain h, marked_plain, run_run]
    · exact ⟨List.cons_prefix_cons.2 ⟨rfl, List.takeWhile_prefix _⟩, rfl⟩
    · rcases minus_split (runL m) with ⟨q, e⟩ | g
      · exact absurd (run_mem (l := m) (x := 45) (by rw [e]; exact List.mem_cons_self ..)) (by decide)
      · exact g
theorem marked_gaps {m : List UInt8} {x : UInt8} (h : x ∈ markedL (35 :: m)) : ¬ Gap x := by
  have hr : ∀ q, x ∈ runL q → ¬ Gap x := fun q hx g => by have := run_mem hx; rw [inRun_gap g] at this; cases this
  have h35 : x = 35 → ¬ Gap x := fun e g => by subst e; rcases g with g | g <;> revert g <;> decide
  have h45 : x = 45 → ¬ Gap x := fun e g => by subst e; rcases g with g | g <;> revert g <;> decide
  rcases minus_split m with ⟨q, rfl⟩ | g
  · rw [marked_minus] at h
    rcases List.mem_cons.1 h with h | h
    · exact h35 h
    · rcases List.mem_cons.1 h with h | h
      · exact h45 h
      · exact hr _ h
  · rw [marked_plain g] at h
    rcases List.mem_cons.1 h with h | h
    · exact h35 h
    · exact hr _ h
theorem read_own {l : List UInt8} (hl : l ≠ []) (h : (readL l).2 = 0) : readL (readL l).1.t = ((readL l).1, 0) ∧ (readL l).1.t <+: l ∧ ∀ x, x ∈ (readL l).1.t → ¬ Gap x := by
  cases hs : signL l with
  | some x =>
    have e : readL l = (⟨x.2, x.1.data.toList, false, 0⟩, 0) := by unfold readL; rw [hs]
    have hx : x ∈ signsB := by unfold signL at hs; exact List.mem_of_find?_eq_some hs
    have hp := by unfold signL at hs; exact List.find?_some hs
    rw [e]
    refine ⟨?_, ?_, ?_⟩
    · unfold readL
      simp only
      rw [signs_own x hx]
    · unfold hasPrefix at hp
      exact List.isPrefixOf_iff_prefix.1 hp
    · intro b hb g
      rcases g with rfl | rfl
      · exact (signs_gap x hx).1 hb
      · exact (signs_gap x hx).2 hb
  | none =>
    by_cases g : hasPrefix l [35] = true
    · have e : readL l = numT (markedL l) := by unfold readL; rw [hs]; exact if_pos g
      rw [e] at h ⊢
      rw [numT_ok h]
      obtain ⟨m, rfl⟩ := has35 g
      obtain ⟨hp, hm⟩ := marked_pre m
      refine ⟨?_, hp, fun x hx => marked_gaps hx⟩
      have h35 : hasPrefix (markedL (35 :: m)) [35] = true := by
        rcases minus_split m with ⟨q, rfl⟩ | gm
        · rw [marked_minus]; rfl
        · rw [marked_plain gm]; rfl
      have e2 : readL (markedL (35 :: m)) = numT (markedL (markedL (35 :: m))) := by
        unfold readL
        rw [sign_pre hp hs]
        exact if_pos h35
      rw [e2, hm, ← h]
    · have e : readL l = readR l := by unfold readL; rw [hs]; exact if_neg g
      rw [e] at h ⊢
      have hne : kindOf l ≠ 0 := by
        intro k
        unfold readR at h
        rw [if_pos k] at h
        cases h
      have hrn : runL l ≠ [] := by
        intro k
        cases l with
        | nil => exact hl rfl
        | cons c r => exact hne (kindOf_nil k)
      have hkk : kindOf (runL l) = kindOf l := by
        unfold kindOf
        rw [run_run]
        have : (runL l).take 1 = l.take 1 := by
          cases l with
          | nil => exact absurd rfl hl
          | cons c r =>
            unfold runL at hrn ⊢
            rw [List.takeWhile_cons] at hrn ⊢
            split
            · rfl
            · rename_i k
              rw [if_neg k] at hrn
              exact absurd rfl hrn
        rw [this]
      have ht : (readR l).1.t = runL l := by
        unfold readR at h ⊢
        rw [if_neg hne] at h ⊢
        split at h
        · rename_i g3
          rw [if_pos g3]
          exact numT_ok h
        · rename_i g3
          rw [if_neg g3]
          split at h
          · cases h
          · rename_i g16
            rw [if_neg g16]
      rw [ht]
      refine ⟨?_, List.takeWhile_prefix _, fun x hx gx => by have := run_mem hx; rw [inRun_gap gx] at this; cases this⟩
      have g2 : ¬ hasPrefix (runL l) [35] = true := by
        intro k
        obtain ⟨m, hm⟩ := has35 k
        exact absurd (run_mem (l := l) (x := 35) (by rw [hm]; exact List.mem_cons_self ..)) (by decide)
      have e2 : readL (runL l) = readR (runL l) := by
        unfold readL
        rw [sign_pre (show runL l <+: l from List.takeWhile_prefix _) hs]
        exact if_neg g2
      have e3 : readR (runL l) = readR l := by
        unfold readR
        rw [hkk, run_run]
      rw [e2, e3, ← h]
def Own (y : Tk) : Prop := ∃ c r, y.t = c :: r ∧ c ≠ 10 ∧ ¬ (c = 9 ∨ c = 13 ∨ c = 32) ∧ hasPrefix y.t [45, 45] = false ∧ readL y.t = (y, 0)
theorem fuel : ∀ (f g : Nat) (l : List UInt8) (line : Int) (acc : List (Tk × Int)), l.length < f → l.length < g → lexA f l line acc = lexA g l line acc
  | 0, _, l, _, _, hf, _ => by omega
  | _, 0, l, _, _, _, hg => by omega
  | f + 1, g + 1, [], _, _, _, _ => by unfold lexA; rfl
  | f + 1, g + 1, c :: r, line, acc, hf, hg => by
    simp only [List.length_cons] at hf hg
    unfold lexA
    split
    · exact fuel f g _ _ _ (by omega) (by omega)
    · rename_i h10
      split
      · exact fuel f g _ _ _ (by omega) (by omega)
      · split
        · have hip := index_pos (r := r) h10
          split
          · rfl
          · exact fuel f g _ _ _ (by rw [List.length_drop, List.length_cons]; omega) (by rw [List.length_drop, List.length_cons]; omega)
        · split
          · rename_i hr
            have hle := read_len hr
            split
            · rfl
            · exact fuel f g _ _ _ (by rw [List.length_drop, List.length_cons]; omega) (by rw [List.length_drop, List.length_cons]; omega)
          · rfl
def spaced (T : List (Tk × Int)) : List UInt8 := T.flatMap fun x => x.1.t ++ [32]
theorem lexA_bad : ∀ (f : Nat) (l : List UInt8) (line : Int) (acc : List (Tk × Int)) (e k : Int), lexA f l line acc = .bad e k → e ≠ 0
  | 0, l, line, acc, e, k, h => by unfold lexA at h; cases h
  | f + 1, [], line, acc, e, k, h => by unfold lexA at h; cases h
  | f + 1, c :: r, line, acc, e, k, h => by
    unfold lexA at h
    split at h
    · exact lexA_bad f _ _ _ _ _ h
    · split at h
      · exact lexA_bad f _ _ _ _ _ h
      · split at h
        · split at h
          · cases h
          · exact lexA_bad f _ _ _ _ _ h
        · split at h
          · split at h
            · cases h
              decide
            · exact lexA_bad f _ _ _ _ _ h
          · rename_i g
            cases h
            exact g
theorem lexL_bad {l : List UInt8} {e k : Int} (h : lexL l = .bad e k) : e ≠ 0 := lexA_bad _ _ _ _ _ _ h
def bytesT (T : List (Tk × Int)) : Nat := (T.map fun x => x.1.t.length).sum
theorem own_of {c : UInt8} {r : List UInt8} (h10 : c ≠ 10) (hbl : ¬ (c = 9 ∨ c = 13 ∨ c = 32)) (hp : ¬ hasPrefix (c :: r) [45, 45] = true) (h : (readL (c :: r)).2 = 0) : Own (readL (c :: r)).1 := by
  obtain ⟨h1, h2, -⟩ := read_own (List.cons_ne_nil c r) h
  have hl := read_len h
  cases ht : (readL (c :: r)).1.t with
  | nil => rw [ht] at hl; simp at hl
  | cons d q =>
    obtain ⟨u, hu⟩ := h2
    rw [ht] at hu
    obtain rfl : d = c := by simpa using (List.cons.inj hu).1
    refine ⟨d, q, ht, h10, hbl, ?_, h1⟩
    rw [Bool.eq_false_iff]
    intro g
    refine hp ?_
    unfold hasPrefix at *
    refine List.isPrefixOf_iff_prefix.2 ((List.isPrefixOf_iff_prefix.1 g).trans ⟨u, ?_⟩)
    rw [ht, hu]
theorem lexA_own : ∀ (f : Nat) (l : List UInt8) (line : Int) (acc T : List (Tk × Int)) (B : Nat), (∀ x, x ∈ acc → Own x.1) → acc.length ≤ 4096 → bytesT acc + l.length ≤ B → lexA f l line acc = .good T → (∀ x, x ∈ T → Own x.1) ∧ T.length ≤ 4096 ∧ bytesT T ≤ B
  | 0, l, line, acc, T, B, ha, hn, hB, h => by unfold lexA at h; cases h; exact ⟨ha, hn, by omega⟩
  | f + 1, [], line, acc, T, B, ha, hn, hB, h => by unfold lexA at h; cases h; exact ⟨ha, hn, by simpa using hB⟩
  | f + 1, c :: r, line, acc, T, B, ha, hn, hB, h => by
    simp only [List.length_cons] at hB
    unfold lexA at h
    split at h
    · exact lexA_own f _ _ _ _ _ ha hn (by omega) h
    · rename_i h10
      split at h
      · exact lexA_own f _ _ _ _ _ ha hn (by omega) h
      · rename_i hbl
        split at h
        · split at h
          · cases h; exact ⟨ha, hn, by omega⟩
          · exact lexA_own f _ _ _ _ _ ha hn (by rw [List.length_drop, List.length_cons]; omega) h
        · rename_i hp
          split at h
          · rename_i hr
            split at h
            · cases h
            · have hle := read_len hr
              refine lexA_own f _ _ _ _ _ (fun x hx => ?_) (by rw [List.length_append, List.length_singleton]; omega) ?_ h
              · rcases List.mem_append.1 hx with hx | hx
                · exact ha x hx
                · rw [List.mem_singleton] at hx
                  subst hx
                  exact own_of h10 hbl hp hr
              · have e : bytesT (acc ++ [((readL (c :: r)).1, line)]) = bytesT acc + (readL (c :: r)).1.t.length := by simp [bytesT]
                rw [e, List.length_drop, List.length_cons]
                simp only [List.length_cons] at hle
                omega
          · cases h
theorem lexL_own {l : List UInt8} {T : List (Tk × Int)} (h : lexL l = .good T) : (∀ x, x ∈ T → Own x.1) ∧ T.length ≤ 4096 ∧ bytesT T ≤ l.length :=
  lexA_own _ _ _ _ _ _ (fun x hx => by cases hx) (by simp) (by simp [bytesT]) h
theorem bytes_mem : ∀ {T : List (Tk × Int)} {x : Tk × Int}, x ∈ T → x.1.t.length ≤ bytesT T
  | y :: T, x, h => by
    rcases List.mem_cons.1 h with rfl | h
    · simp [bytesT]
    · have := bytes_mem h
      simp only [bytesT, List.map_cons, List.sum_cons] at *
      omega
def Ntx (r : List Tok) : Prop := ∀ y, y ∈ r → NmOk y.1.t
theorem Ntx.of {r : List Tok} (h : Tvs r) (hb : bytesT r ≤ 100000) : Ntx r := fun y hy => by
  have hm := bytes_mem hy
  refine ⟨?_, by omega⟩
  obtain ⟨c, t, e, -⟩ := h y hy
  rw [e]
  exact List.cons_ne_nil _ _
theorem Ntx.tail {y : Tok} {r : List Tok} (h : Ntx (y :: r)) : Ntx r := fun z hz => h z (List.mem_cons_of_mem _ hz)
def OkP {α : Type} (Q : α → Prop) (o : Out α) : Prop :=
  match o with
  | .ok a _ r => Q a ∧ Ntx r
  | .bad _ _ => True
def OkR {α : Type} (Q : α → Prop) (p : Par α) : Prop := ∀ l r, Ntx r → OkP Q (p l r)
theorem OkP.bind {α β : Type} {Q : α → Prop} {S : β → Prop} {o : Out α} {f : α → Int → List Tok → Out β} (h : OkP Q o) (hf : ∀ a l r, Q a → Ntx r → OkP S (f a l r)) : OkP S (o.bind f) := by
  cases o with
  | ok a l r => exact hf a l r h.1 h.2
  | bad e l => trivial
abbrev Tx (y : Tok) : Prop := NmOk y.1.t
theorem refuse_w {α : Type} (Q : α → Prop) (e : Int) : OkR Q (refuseO e) := by
  intro l r h
  cases r <;> trivial
theorem take_w : OkR Tx takeO := by
  intro l r h
  cases r with
  | nil => trivial
  | cons y r => exact ⟨h y (List.mem_cons_self ..), h.tail⟩
theorem want_w (s : Sh) : OkR Tx (wantO s) := by
  intro l r h
  unfold wantO
  split
  · exact take_w _ _ h
  · exact refuse_w _ _ _ _ h
theorem names_w : ∀ (r : List Tok) (l : Int) (acc : List Nm), Ntx r → Nms acc → Nms (namesO l r acc).1 ∧ Ntx (namesO l r acc).2.2
  | [], _, _, h, ha => ⟨ha, h⟩
  | x :: r, l, acc, h, ha => by
    unfold namesO
    split
    · refine names_w r x.2 _ h.tail fun n hn => ?_
      rcases List.mem_append.1 hn with hn | hn
      · exact ha n hn
      · rw [List.mem_singleton.1 hn]; exact h x (List.mem_cons_self ..)
    · exact ⟨ha, h⟩
theorem nms_nil : Nms [] := fun _ h => by cases h
abbrev wB (b : Bnd) : Prop := NmOk b.1 ∧ Nms b.2.1 ∧ wfE b.2.2
abbrev wA (a : Alt) : Prop := (a.1 = 0 ∨ a.1 = 2 → NmOk a.2.1) ∧ (Nms a.2.2.2.2.1 ∧ (a.1 ≠ 0 → a.2.2.2.2.1 = [])) ∧ wfE a.2.2.2.2.2
theorem wfBs_of : ∀ {l : List Bnd}, (∀ b, b ∈ l → wB b) → wfBs l
  | [], _ => by unfold wfBs; trivial
  | (n, ps, e) :: r, h => by
    unfold wfBs
    exact ⟨h _ (List.mem_cons_self ..), wfBs_of fun b hb => h b (List.mem_cons_of_mem _ hb)⟩
theorem wfAs_of : ∀ {l : List Alt}, (∀ b, b ∈ l → wA b) → wfAs l
  | [], _ => by unfold wfAs; trivial
  | (k, n, f, x, ns, e) :: r, h => by
    unfold wfAs
    exact ⟨h _ (List.mem_cons_self ..), wfAs_of fun b hb => h b (List.mem_cons_of_mem _ hb)⟩
theorem wfEs_of : ∀ {l : List Ex}, (∀ b, b ∈ l → wfE b) → wfEs l
  | [], _ => by unfold wfEs; trivial
  | e :: r, h => by
    unfold wfEs
    exact ⟨h _ (List.mem_cons_self ..), wfEs_of fun b hb => h b (List.mem_cons_of_mem _ hb)⟩
theorem wfE_mk {k : Int} {n : Nm} {f : Bool} {x : Int} {ps : List Nm} {ks : List Ex} {bs : List Bnd} {al : List Alt} (h1 : k = 1 → ks = []) (h2 : k ≠ 7 → al = []) (h3 : k = 1 ∨ k = 2 ∨ k = 5 → NmOk n) (h4 : Nms ps) (h5 : ∀ e, e ∈ ks → wfE e) (h6 : ∀ b, b ∈ bs → wB b) (h7 : ∀ a, a ∈ al → wA a) (h8 : k ≠ 6 → bs = []) (h9 : k ≠ 8 → ps = [] := by exact fun _ => rfl) : wfE (.mk k n f x ps ks bs al) := by
  unfold wfE
  exact ⟨h1, h2, h3, h4, wfEs_of h5, wfBs_of h6, wfAs_of h7, h8, h9⟩
theorem leaf_w {k : Int} {n : Nm} (h : NmOk n) : wfE (.leaf k n) := wfE_mk (fun _ => rfl) (fun _ => rfl) (fun _ => h) nms_nil (fun _ h => by cases h) (fun _ h => by cases h) (fun _ h => by cases h) (fun _ => rfl)
theorem one_w {e : Ex} (h : wfE e) : ∀ x, x ∈ [e] → wfE x := fun x hx => by rw [List.mem_singleton.1 hx]; exact h
theorem bindO_w {ex : Par Ex} (hx : OkR wfE ex) : OkR wB (bindO ex) := by
  intro l r h
  unfold bindO
  refine (want_w _ _ _ h).bind fun a l r e h => ?_
  have hn := names_w r l [] h nms_nil
  refine (want_w _ _ _ hn.2).bind fun b l2 r2 _ h => ?_
  refine (hx _ _ h).bind fun c l3 r3 e3 h => ?_
  exact ⟨⟨e, hn.1, e3⟩, h⟩
theorem moreO_w {α : Type} {Q : α → Prop} {item : Par α} (hx : OkR Q item) : ∀ n (acc : List α), (∀ a, a ∈ acc → Q a) → OkR (fun l => ∀ a, a ∈ l → Q a) (moreO item n acc)
  | 0, acc, ha => fun _ _ h => ⟨ha, h⟩
  | n + 1, acc, ha => by
    intro l r h
    unfold moreO
    split
    · refine (take_w _ _ h).bind fun a l r e h => ?_
      refine (hx _ _ h).bind fun c l3 r3 e3 h => ?_
      refine moreO_w hx n _ (fun b hb => ?_) _ _ h
      rcases List.mem_append.1 hb with hb | hb
      · exact ha b hb
      · rw [List.mem_singleton.1 hb]; exact e3
    · exact ⟨ha, h⟩
theorem someO_w {α : Type} {Q : α → Prop} {item : Par α} (hx : OkR Q item) : OkR (fun l => ∀ a, a ∈ l → Q a) (someO item) := by
  intro l r h
  unfold someO
  refine (hx _ _ h).bind fun c l3 r3 e3 h => ?_
  exact moreO_w hx _ _ (fun b hb => by rw [List.mem_singleton.1 hb]; exact e3) _ _ h
theorem innerO_w {ex : Par Ex} (hx : OkR wfE ex) : OkR wfE (innerO ex) := by
  intro l r h
  unfold innerO
  refine (want_w _ _ _ h).bind fun a l r e h => ?_
  refine (hx _ _ h).bind fun c l3 r3 e3 h => ?_
  refine (want_w _ _ _ h).bind fun a l r e h => ?_
  exact ⟨e3, h⟩
def AtW (r : List Tok) (a : Ex) : Prop := wfE a ∧ (shapeL r = sCon ∨ shapeL r = sBack → ∃ k n, (k = 2 ∨ k = 5) ∧ NmOk n ∧ a = .leaf k n)
theorem atomO_w {ex : Par Ex} (hx : OkR wfE ex) (l : Int) (r : List Tok) (h : Ntx r) : OkP (AtW r) (atomO ex l r) := by
  unfold atomO
  split
  · rename_i g
    exact (take_w _ _ h).bind fun a l r e h => ⟨⟨leaf_w e, fun q => by rw [g] at q; rcases q with q | q <;> cases q⟩, h⟩
  split
  · exact (take_w _ _ h).bind fun a l r e h => ⟨⟨leaf_w e, fun _ => ⟨2, _, Or.inl rfl, e, rfl⟩⟩, h⟩
  split
  · rename_i g
    exact (take_w _ _ h).bind fun a l r e h => ⟨⟨wfE_mk (fun _ => rfl) (fun _ => rfl) (fun q => by rcases q with q | q | q <;> cases q) nms_nil (fun _ h => by cases h) (fun _ h => by cases h) (fun _ h => by cases h) (fun _ => rfl), fun q => by rw [g] at q; rcases q with q | q <;> cases q⟩, h⟩
  split
  · exact (take_w _ _ h).bind fun a l r e h => ⟨⟨leaf_w e, fun _ => ⟨5, _, Or.inr rfl, e, rfl⟩⟩, h⟩
  split
  · rename_i g
    have hi := innerO_w hx l r h
    cases ho : innerO ex l r with
    | bad e l => trivial
    | ok a l2 r2 =>
      rw [ho] at hi
      exact ⟨⟨hi.1, fun q => by rw [g] at q; rcases q with q | q <;> cases q⟩, hi.2⟩
  · exact refuse_w _ _ _ _ h
theorem atomO_w' {ex : Par Ex} (hx : OkR wfE ex) : OkR wfE (atomO ex) := by
  intro l r h
  have ha := atomO_w hx l r h
  cases ho : atomO ex l r with
  | bad e l => trivial
  | ok a l2 r2 =>
    rw [ho] at ha
    exact ⟨ha.1.1, ha.2⟩
theorem atomsO_w {ex : Par Ex} (hx : OkR wfE ex) : ∀ n (acc : List Ex), (∀ a, a ∈ acc → wfE a) → OkR (fun l => ∀ a, a ∈ l → wfE a) (atomsO ex n acc)
  | 0, acc, ha => fun _ _ h => ⟨ha, h⟩
  | n + 1, acc, ha => by
    intro l r h
    unfold atomsO
    split
    · refine (atomO_w' hx _ _ h).bind fun c l3 r3 e3 h => ?_
      refine atomsO_w hx n _ (fun b hb => ?_) _ _ h
      rcases List.mem_append.1 hb with hb | hb
      · exact ha b hb
      · rw [List.mem_singleton.1 hb]; exact e3
    · exact ⟨ha, h⟩
theorem rowO_w {ex : Par Ex} (hx : OkR wfE ex) : OkR wfE (rowO ex) := by
  intro l r h
  unfold rowO
  refine (atomO_w hx _ _ h).bind fun c l3 r3 e3 h3 => ?_
  refine (atomsO_w hx _ [] (fun _ h => by cases h) _ _ h3).bind fun d l4 r4 e4 h4 => ?_
  refine ⟨?_, h4⟩
  unfold rowE
  split
  · rename_i g
    obtain ⟨k, n, hk, hn, rfl⟩ := e3.2 (of_decide_eq_true g)
    exact wfE_mk (fun q => by omega) (fun _ => rfl) (fun _ => hn) nms_nil e4 (fun _ h => by cases h) (fun _ h => by cases h) (fun _ => rfl)
  split
  · exact e3.1
  · refine wfE_mk (fun q => by cases q) (fun _ => rfl) (fun q => by rcases q with q | q | q <;> cases q) nms_nil (fun e he => ?_) (fun _ h => by cases h) (fun _ h => by cases h) (fun _ => rfl)
    rcases List.mem_cons.1 he with rfl | he
    · exact e3.1
    · exact e4 e he
theorem rowsO_w {ex : Par Ex} (hx : OkR wfE ex) : OkR wfE (rowsO ex) := by
  intro l r h
  unfold rowsO
  refine (rowO_w hx _ _ h).bind fun c l3 r3 e3 h => ?_
  split
  · refine (take_w _ _ h).bind fun a l r e h => ?_
    refine (rowO_w hx _ _ h).bind fun d l4 r4 e4 h => ?_
    refine ⟨wfE_mk (fun q => by cases q) (fun _ => rfl) (fun _ => e) nms_nil (fun x hx => ?_) (fun _ h => by cases h) (fun _ h => by cases h) (fun _ => rfl), h⟩
    simp only [List.mem_cons, List.not_mem_nil, or_false] at hx
    rcases hx with rfl | rfl
    · exact e3
    · exact e4
  · exact ⟨e3, h⟩
theorem letO_w {ex : Par Ex} (hx : OkR wfE ex) : OkR wfE (letO ex) := by
  intro l r h
  unfold letO
  refine (want_w _ _ _ h).bind fun a l r e h => ?_
  refine (someO_w (bindO_w hx) _ _ h).bind fun c l3 r3 e3 h => ?_
  refine (want_w _ _ _ h).bind fun a l r e h => ?_
  refine (hx _ _ h).bind fun d l4 r4 e4 h => ?_
  exact ⟨wfE_mk (fun q => by cases q) (fun _ => rfl) (fun q => by rcases q with q | q | q <;> cases q) nms_nil (one_w e4) e3 (fun _ h => by cases h) (fun q => absurd rfl q), h⟩
theorem altO_w {ex : Par Ex} (hx : OkR wfE ex) : OkR wA (altO ex) := by
  intro l r h
  unfold altO
  split
  · refine (take_w _ _ h).bind fun a l r e h => ?_
    have hn := names_w r l [] h nms_nil
    refine (want_w _ _ _ hn.2).bind fun b l2 r2 _ h => ?_
    refine (hx _ _ h).bind fun c l3 r3 e3 h => ?_
    exact ⟨⟨fun _ => e, ⟨hn.1, fun q => absurd rfl q⟩, e3⟩, h⟩
  split
  · refine (take_w _ _ h).bind fun a l r e h => ?_
    refine (want_w _ _ _ h).bind fun b l2 r2 _ h => ?_
    refine (hx _ _ h).bind fun c l3 r3 e3 h => ?_
    exact ⟨⟨fun q => (by rcases q with q | q <;> cases q), ⟨nms_nil, fun _ => rfl⟩, e3⟩, h⟩
  · refine (want_w _ _ _ h).bind fun a l r e h => ?_
    refine (want_w _ _ _ h).bind fun b l2 r2 _ h => ?_
    refine (hx _ _ h).bind fun c l3 r3 e3 h => ?_
    exact ⟨⟨fun _ => e, ⟨nms_nil, fun _ => rfl⟩, e3⟩, h⟩
theorem caseO_w {ex : Par Ex} (hx : OkR wfE ex) : OkR wfE (caseO ex) := by
  intro l r h
  unfold caseO
  refine (want_w _ _ _ h).bind fun a l r e h => ?_
  refine (hx _ _ h).bind fun c l3 r3 e3 h => ?_
  refine (want_w _ _ _ h).bind fun a l r e h => ?_
  refine (want_w _ _ _ h).bind fun a l r e h => ?_
  split
  · exact (want_w _ _ _ h).bind fun a l r e h => ⟨wfE_mk (fun q => by cases q) (fun q => absurd rfl q) (fun q => by rcases q with q | q | q <;> cases q) nms_nil (one_w e3) (fun _ h => by cases h) (fun _ h => by cases h) (fun _ => rfl), h⟩
  · refine (someO_w (altO_w hx) _ _ h).bind fun d l4 r4 e4 h => ?_
    exact (want_w _ _ _ h).bind fun a l r e h => ⟨wfE_mk (fun q => by cases q) (fun q => absurd rfl q) (fun q => by rcases q with q | q | q <;> cases q) nms_nil (one_w e3) (fun _ h => by cases h) e4 (fun _ => rfl), h⟩
theorem lamO_w {ex : Par Ex} (hx : OkR wfE ex) : OkR wfE (lamO ex) := by
  intro l r h
  unfold lamO
  refine (want_w _ _ _ h).bind fun a l r e h => ?_
  have hn := names_w r l [] h nms_nil
  split
  · refine (want_w _ _ _ hn.2).bind fun b l2 r2 _ h => ?_
    refine (hx _ _ h).bind fun c l3 r3 e3 h => ?_
    exact ⟨wfE_mk (fun q => by cases q) (fun _ => rfl) (fun q => by rcases q with q | q | q <;> cases q) hn.1 (one_w e3) (fun _ h => by cases h) (fun _ h => by cases h) (fun _ => rfl) (fun q => absurd rfl q), h⟩
  · exact refuse_w _ _ _ _ h
theorem exprO_w : ∀ n d, OkR wfE (exprO n d)
  | 0, _ => fun _ _ _ => trivial
  | n + 1, d => by
    have hx := exprO_w n (d + 1)
    intro l r h
    unfold exprO
    split
    · split
      · exact refuse_w _ _ _ _ h
      split
      · exact letO_w hx _ _ h
      split
      · exact caseO_w hx _ _ h
      split
      · exact lamO_w hx _ _ h
      · exact rowsO_w hx _ _ h
    · exact refuse_w _ _ _ _ h
theorem declsO_w : ∀ n (acc : List (Nm × Int)), (∀ d, d ∈ acc → NmOk d.1) → OkR (fun l => ∀ d, d ∈ l → NmOk d.1) (declsO n acc)
  | 0, acc, ha => fun _ _ h => ⟨ha, h⟩
  | n + 1, acc, ha => by
    intro l r h
    unfold declsO
    split
    · refine (take_w _ _ h).bind fun a l r e h => ?_
      split
      · have h0 := h
        refine (take_w _ _ h).bind fun b l2 r2 e2 h => ?_
        split
        · exact refuse_w _ _ _ _ h0
        · refine declsO_w n _ (fun d hd => ?_) _ _ h
          rcases List.mem_append.1 hd with hd | hd
          · exact ha d hd
          · rw [List.mem_singleton.1 hd]; exact e
      · exact refuse_w _ _ _ _ h
    · exact ⟨ha, h⟩
def wfM (m : Md) : Prop := (∀ d, d ∈ m.1 → NmOk d.1) ∧ ∀ b, b ∈ m.2 → wB b
theorem moduleO_w : ∀ n cs bs, wfM (cs, bs) → OkR wfM (moduleO n cs bs)
  | 0, _, _, hm => fun _ _ h => ⟨hm, h⟩
  | n + 1, cs, bs, hm => by
    intro l r h
    unfold moduleO
    split
    · exact ⟨hm, h⟩
    split
    · refine (take_w _ _ h).bind fun a l r e h => ?_
      refine (declsO_w _ [] (fun _ h => by cases h) _ _ h).bind fun d l2 r2 e2 h => ?_
      refine (want_w _ _ _ h).bind fun b l3 r3 _ h => ?_
      have hm2 : wfM (cs ++ d, bs) := ⟨fun x hx => by
        rcases List.mem_append.1 hx with hx | hx
        · exact hm.1 x hx
        · exact e2 x hx, hm.2⟩
      exact moduleO_w n _ _ hm2 _ _ h
    · refine (bindO_w (exprO_w _ _) _ _ h).bind fun d l2 r2 e2 h => ?_
      refine (want_w _ _ _ h).bind fun b l3 r3 _ h => ?_
      have hm2 : wfM (cs, bs ++ [d]) := ⟨hm.1, fun x hx => by
        rcases List.mem_append.1 hx with hx | hx
        · exact hm.2 x hx
        · rw [List.mem_singleton.1 hx]; exact e2⟩
      exact moduleO_w n _ _ hm2 _ _ h
theorem parse_wf {T : List Tok} (hv : Tvs T) (hb : bytesT T ≤ 100000) {m : Md} {l : Int} {r : List Tok} (h : parseO T = .ok m l r) : wfM m := by
  have h0 : wfM ([], []) := ⟨fun _ h => (by cases h), fun _ h => (by cases h)⟩
  have hw := moduleO_w (T.length + 1) [] [] h0 1 T (Ntx.of hv hb)
  rw [show moduleO (T.length + 1) [] [] 1 T = parseO T from rfl, h] at hw
  exact hw.1
theorem parse_scope {T : List Tok} (hv : Tvs T) (hb : bytesT T ≤ 100000) {m : Md} {l : Int} {r : List Tok} (h : parseO T = .ok m l r) : sdM m = scM m ∧ FoOk (scM m) := by
  obtain ⟨h1, h2⟩ := parse_wf hv hb h
  exact ⟨sdM_eq (wfBs_of h2), scM_ok (wfBs_of h2) h1⟩
mutual
def wtE : Ex → Nat
  | .mk k _ _ _ ps ks bs al => (if k = 1 then 1 else 0) + ps.length + wtEs ks + wtBs bs + wtAs al
def wtEs : List Ex → Nat
  | [] => 0
  | e :: r => wtE e + wtEs r
def wtBs : List (Nm × List Nm × Ex) → Nat
  | [] => 0
  | (_, ps, e) :: r => (2 + ps.length + wtE e) + wtBs r
def wtAs : List (Int × Nm × Bool × Int × List Nm × Ex) → Nat
  | [] => 0
  | (_, _, _, _, ns, e) :: r => (1 + ns.length + wtE e) + wtAs r
end
abbrev nB (b : Bnd) : Nat := 1 + b.2.1.length + wtE b.2.2
abbrev nB2 (b : Bnd) : Nat := 2 + b.2.1.length + wtE b.2.2
abbrev nA (a : Alt) : Nat := 1 + a.2.2.2.2.1.length + wtE a.2.2.2.2.2
def sumN {α : Type} (f : α → Nat) : List α → Nat
  | [] => 0
  | a :: r => f a + sumN f r
theorem sumN_app {α : Type} (f : α → Nat) : ∀ (a b : List α), sumN f (a ++ b) = sumN f a + sumN f b
  | [], b => by simp [sumN]
  | x :: a, b => by simp only [List.cons_append, sumN, sumN_app f a b]; omega
theorem sumN_mem {α : Type} (f : α → Nat) : ∀ {l : List α} {x : α}, x ∈ l → f x ≤ sumN f l
  | y :: r, x, h => by
    rcases List.mem_cons.1 h with rfl | h
    · simp only [sumN]; omega
    · have := sumN_mem f h
      simp only [sumN]; omega
theorem sumN_len {α : Type} (f : α → Nat) (h : ∀ a, 1 ≤ f a) : ∀ (l : List α), l.length ≤ sumN f l
  | [] => Nat.zero_le _
  | x :: r => by
    have := sumN_len f h r
    have := h x
    simp only [sumN, List.length_cons]; omega
theorem sumN_nB2 : ∀ (l : List Bnd), sumN nB2 l = l.length + sumN nB l
  | [] => rfl
  | b :: r => by
    have h := sumN_nB2 r
    simp only [sumN, List.length_cons, h, nB, nB2]
    omega
theorem wtEs_sum : ∀ (l : List Ex), wtEs l = sumN wtE l
  | [] => by unfold wtEs sumN; rfl
  | e :: r => by unfold wtEs sumN; rw [wtEs_sum r]
theorem wtBs_sum : ∀ (l : List Bnd), wtBs l = sumN nB2 l
  | [] => by unfold wtBs sumN; rfl
  | (n, ps, e) :: r => by unfold wtBs sumN; rw [wtBs_sum r]
theorem wtAs_sum : ∀ (l : List Alt), wtAs l = sumN nA l
  | [] => by unfold wtAs sumN; rfl
  | (k, n, f, x, ns, e) :: r => by unfold wtAs sumN; rw [wtAs_sum r]
theorem wtE_mk (k : Int) (n : Nm) (f : Bool) (x : Int) (ps : List Nm) (ks : List Ex) (bs : List Bnd) (al : List Alt) : wtE (.mk k n f x ps ks bs al) = (if k = 1 then 1 else 0) + ps.length + sumN wtE ks + sumN nB2 bs + sumN nA al := by
  conv => lhs; unfold wtE
  rw [wtEs_sum, wtBs_sum, wtAs_sum]
def Cw {α : Type} (f : α → Nat) (m : Nat) : Out α → Prop
  | .ok a _ r => f a + r.length ≤ m
  | .bad _ _ => True
theorem Cw.bind {α β : Type} {f : α → Nat} {g : β → Nat} {m m' : Nat} {o : Out α} {k : α → Int → List Tok → Out β} (h : Cw f m o) (hk : ∀ a l r, f a + r.length ≤ m → Cw g m' (k a l r)) : Cw g m' (o.bind k) := by
  cases o with
  | ok a l r => exact hk a l r h
  | bad e l => trivial
theorem refuse_c {α : Type} (f : α → Nat) (m : Nat) (e l : Int) (r : List Tok) : Cw f m (refuseO e l r) := by cases r <;> trivial
theorem take_c (l : Int) (r : List Tok) : Cw (fun _ => 1) r.length (takeO l r) := by
  cases r with
  | nil => trivial
  | cons y r => show 1 + r.length ≤ r.length + 1; omega
theorem want_c (s : Sh) (l : Int) (r : List Tok) : Cw (fun _ => 1) r.length (wantO s l r) := by
  unfold wantO
  split
  · exact take_c _ _
  · exact refuse_c _ _ _ _ _
theorem names_c : ∀ (r : List Tok) (l : Int) (acc : List Nm), (namesO l r acc).1.length + (namesO l r acc).2.2.length ≤ acc.length + r.length
  | [], _, _ => Nat.le_refl _
  | x :: r, l, acc => by
    unfold namesO
    split
    · have := names_c r x.2 (acc ++ [x.1.t])
      rw [List.length_append] at this
      simp only [List.length_cons, List.length_nil] at this ⊢
      omega
    · exact Nat.le_refl _
abbrev CwP {α : Type} (f : α → Nat) (p : Par α) : Prop := ∀ l r, Cw f r.length (p l r)
theorem bindO_c {ex : Par Ex} (hx : CwP wtE ex) : CwP nB2 (bindO ex) := by
  intro l r
  unfold bindO
  refine (want_c _ _ _).bind fun a l1 r1 h1 => ?_
  have hn := names_c r1 l1 []
  refine (want_c _ _ _).bind fun b l2 r2 h2 => ?_
  refine (hx _ _).bind fun c l3 r3 h3 => ?_
  show 2 + (namesO l1 r1 []).1.length + wtE c + r3.length ≤ r.length
  simp only [List.length_nil] at hn
  omega
theorem moreO_c {α : Type} {f : α → Nat} {item : Par α} (hx : CwP f item) : ∀ n (acc : List α) (l : Int) (r : List Tok), Cw (sumN f) (sumN f acc + r.length) (moreO item n acc l r)
  | 0, acc, l, r => by unfold moreO; exact Nat.le_refl _
  | n + 1, acc, l, r => by
    unfold moreO
    split
    · refine (take_c _ _).bind fun a l1 r1 h1 => ?_
      refine (hx _ _).bind fun c l2 r2 h2 => ?_
      have h := moreO_c hx n (acc ++ [c]) l2 r2
      have e : sumN f (acc ++ [c]) = sumN f acc + f c := by rw [sumN_app]; simp [sumN]
      rw [e] at h
      cases ho : moreO item n (acc ++ [c]) l2 r2 with
      | bad e l => trivial
      | ok a l3 r3 =>
        rw [ho] at h
        show sumN f a + r3.length ≤ sumN f acc + r.length
        have h : sumN f a + r3.length ≤ sumN f acc + f c + r2.length := h
        omega
    · exact Nat.le_refl _
theorem someO_c {α : Type} {f : α → Nat} {item : Par α} (hx : CwP f item) : CwP (sumN f) (someO item) := by
  intro l r
  unfold someO
  refine (hx _ _).bind fun c l1 r1 h1 => ?_
  have h := moreO_c hx (r1.length + 1) [c] l1 r1
  have e : sumN f [c] = f c := by simp [sumN]
  rw [e] at h
  cases ho : moreO item (r1.length + 1) [c] l1 r1 with
  | bad e l => trivial
  | ok a l3 r3 =>
    rw [ho] at h
    have h : sumN f a + r3.length ≤ f c + r1.length := h
    show sumN f a + r3.length ≤ r.length
    omega
theorem innerO_c {ex : Par Ex} (hx : CwP wtE ex) : CwP wtE (innerO ex) := by
  intro l r
  unfold innerO
  refine (want_c _ _ _).bind fun a l1 r1 h1 => ?_
  refine (hx _ _).bind fun c l2 r2 h2 => ?_
  refine (want_c _ _ _).bind fun a l3 r3 h3 => ?_
  show wtE c + r3.length ≤ r.length
  omega
theorem leaf_wt (k : Int) (n : Nm) : wtE (.leaf k n) ≤ 1 := by
  show wtE (.mk k n false 0 [] [] [] []) ≤ 1
  rw [wtE_mk]
  simp only [sumN, List.length_nil]
  split <;> omega
theorem num_wt (f : Bool) (x : Int) : wtE (.num f x) ≤ 1 := by
  show wtE (.mk 3 [] f x [] [] [] []) ≤ 1
  rw [wtE_mk]
  simp only [sumN, List.length_nil]
  split <;> omega
theorem atomO_c {ex : Par Ex} (hx : CwP wtE ex) : CwP wtE (atomO ex) := by
  intro l r
  have hl : ∀ k, Cw wtE r.length ((takeO l r).bind fun t l r => .ok (.leaf k t.1.t) l r) := fun k => (take_c _ _).bind fun a l1 r1 h1 => by
    have := leaf_wt k a.1.t
    show wtE (.leaf k a.1.t) + r1.length ≤ r.length
    omega
  unfold atomO
  split
  · exact hl 1
  split
  · exact hl 2
  split
  · exact (take_c _ _).bind fun a l1 r1 h1 => by
      have := num_wt a.1.f a.1.x
      show wtE (.num a.1.f a.1.x) + r1.length ≤ r.length
      omega
  split
  · exact hl 5
  split
  · exact innerO_c hx l r
  · exact refuse_c _ _ _ _ _
theorem atomsO_c {ex : Par Ex} (hx : CwP wtE ex) : ∀ n (acc : List Ex) (l : Int) (r : List Tok), Cw (sumN wtE) (sumN wtE acc + r.length) (atomsO ex n acc l r)
  | 0, acc, l, r => by unfold atomsO; exact Nat.le_refl _
  | n + 1, acc, l, r => by
    unfold atomsO
    split
    · refine (atomO_c hx _ _).bind fun c l2 r2 h2 => ?_
      have h := atomsO_c hx n (acc ++ [c]) l2 r2
      have e : sumN wtE (acc ++ [c]) = sumN wtE acc + wtE c := by rw [sumN_app]; simp [sumN]
      rw [e] at h
      cases ho : atomsO ex n (acc ++ [c]) l2 r2 with
      | bad e l => trivial
      | ok a l3 r3 =>
        rw [ho] at h
        have h : sumN wtE a + r3.length ≤ sumN wtE acc + wtE c + r2.length := h
        show sumN wtE a + r3.length ≤ sumN wtE acc + r.length
        omega
    · exact Nat.le_refl _
theorem withKids_wt (a : Ex) (ks : List Ex) : wtE (a.withKids ks) ≤ wtE a + sumN wtE ks := by
  obtain ⟨k, n, f, x, ps, k0, bs, al⟩ := a
  show wtE (.mk k n f x ps ks bs al) ≤ _
  rw [wtE_mk, wtE_mk]
  omega
theorem rowE_wt (b : Bool) (a : Ex) (ks : List Ex) : wtE (rowE b a ks) ≤ wtE a + sumN wtE ks := by
  unfold rowE
  split
  · exact withKids_wt a ks
  split
  · omega
  · rw [wtE_mk]
    simp only [sumN, List.length_nil]
    split <;> omega
theorem rowO_c {ex : Par Ex} (hx : CwP wtE ex) : CwP wtE (rowO ex) := by
  intro l r
  unfold rowO
  refine (atomO_c hx _ _).bind fun c l1 r1 h1 => ?_
  refine (atomsO_c hx _ [] _ _).bind fun d l2 r2 h2 => ?_
  have := rowE_wt (decide (shapeL r = sCon ∨ shapeL r = sBack)) c d
  show wtE (rowE _ c d) + r2.length ≤ r.length
  simp only [sumN] at h2
  omega
theorem rowsO_c {ex : Par Ex} (hx : CwP wtE ex) : CwP wtE (rowsO ex) := by
  intro l r
  unfold rowsO
  refine (rowO_c hx _ _).bind fun c l1 r1 h1 => ?_
  split
  · refine (take_c _ _).bind fun a l2 r2 h2 => ?_
    refine (rowO_c hx _ _).bind fun d l3 r3 h3 => ?_
    show wtE (.mk 5 a.1.t false 0 [] [c, d] [] []) + r3.length ≤ r.length
    rw [wtE_mk]
    simp only [sumN, List.length_nil]
    rw [if_neg (by omega)]
    omega
  · exact h1
theorem letO_c {ex : Par Ex} (hx : CwP wtE ex) : CwP wtE (letO ex) := by
  intro l r
  unfold letO
  refine (want_c _ _ _).bind fun a l1 r1 h1 => ?_
  refine (someO_c (bindO_c hx) _ _).bind fun c l2 r2 h2 => ?_
  refine (want_c _ _ _).bind fun b l3 r3 h3 => ?_
  refine (hx _ _).bind fun d l4 r4 h4 => ?_
  show wtE (.mk 6 [] false 0 [] [d] c []) + r4.length ≤ r.length
  rw [wtE_mk]
  simp only [sumN, List.length_nil]
  rw [if_neg (by omega)]
  omega
theorem altO_c {ex : Par Ex} (hx : CwP wtE ex) : CwP nA (altO ex) := by
  intro l r
  unfold altO
  split
  · refine (take_c _ _).bind fun a l1 r1 h1 => ?_
    have hn := names_c r1 l1 []
    refine (want_c _ _ _).bind fun b l2 r2 h2 => ?_
    refine (hx _ _).bind fun c l3 r3 h3 => ?_
    show 1 + (namesO l1 r1 []).1.length + wtE c + r3.length ≤ r.length
    simp only [List.length_nil] at hn
    omega
  split
  · refine (take_c _ _).bind fun a l1 r1 h1 => ?_
    refine (want_c _ _ _).bind fun b l2 r2 h2 => ?_
    refine (hx _ _).bind fun c l3 r3 h3 => ?_
    show 1 + 0 + wtE c + r3.length ≤ r.length
    omega
  · refine (want_c _ _ _).bind fun a l1 r1 h1 => ?_
    refine (want_c _ _ _).bind fun b l2 r2 h2 => ?_
    refine (hx _ _).bind fun c l3 r3 h3 => ?_
    show 1 + 0 + wtE c + r3.length ≤ r.length
    omega
theorem caseO_c {ex : Par Ex} (hx : CwP wtE ex) : CwP wtE (caseO ex) := by
  intro l r
  unfold caseO
  refine (want_c _ _ _).bind fun a l1 r1 h1 => ?_
  refine (hx _ _).bind fun c l2 r2 h2 => ?_
  refine (want_c _ _ _).bind fun a l3 r3 h3 => ?_
  refine (want_c _ _ _).bind fun a l4 r4 h4 => ?_
  split
  · refine (want_c _ _ _).bind fun a l5 r5 h5 => ?_
    show wtE (.mk 7 [] false 0 [] [c] [] []) + r5.length ≤ r.length
    rw [wtE_mk]
    simp only [sumN, List.length_nil]
    rw [if_neg (by omega)]
    omega
  · refine (someO_c (altO_c hx) _ _).bind fun d l5 r5 h5 => ?_
    refine (want_c _ _ _).bind fun a l6 r6 h6 => ?_
    show wtE (.mk 7 [] false 0 [] [c] [] d) + r6.length ≤ r.length
    rw [wtE_mk]
    simp only [sumN, List.length_nil]
    rw [if_neg (by omega)]
    omega
theorem lamO_c {ex : Par Ex} (hx : CwP wtE ex) : CwP wtE (lamO ex) := by
  intro l r
  unfold lamO
  refine (want_c _ _ _).bind fun a l1 r1 h1 => ?_
  have hn := names_c r1 l1 []
  split
  · refine (want_c _ _ _).bind fun b l2 r2 h2 => ?_
    refine (hx _ _).bind fun c l3 r3 h3 => ?_
    show wtE (.mk 8 [] false 0 (namesO l1 r1 []).1 [c] [] []) + r3.length ≤ r.length
    rw [wtE_mk]
    simp only [sumN, List.length_nil] at hn ⊢
    rw [if_neg (by omega)]
    omega
  · exact refuse_c _ _ _ _ _
theorem exprO_c : ∀ n d, CwP wtE (exprO n d)
  | 0, _ => fun _ _ => trivial
  | n + 1, d => by
    have hx := exprO_c n (d + 1)
    intro l r
    unfold exprO
    split
    · split
      · exact refuse_c _ _ _ _ _
      split
      · exact letO_c hx _ _
      split
      · exact caseO_c hx _ _
      split
      · exact lamO_c hx _ _
      · exact rowsO_c hx _ _
    · exact refuse_c _ _ _ _ _
theorem declsO_c : ∀ n (acc : List (Nm × Int)) (l : Int) (r : List Tok), Cw List.length (acc.length + r.length) (declsO n acc l r)
  | 0, acc, l, r => by unfold declsO; exact Nat.le_refl _
  | n + 1, acc, l, r => by
    unfold declsO
    split
    · refine (take_c _ _).bind fun a l1 r1 h1 => ?_
      split
      · refine (take_c _ _).bind fun b l2 r2 h2 => ?_
        split
        · exact refuse_c _ _ _ _ _
        · have h := declsO_c n (acc ++ [(a.1.t, b.1.x)]) l2 r2
          cases ho : declsO n (acc ++ [(a.1.t, b.1.x)]) l2 r2 with
          | bad e l => trivial
          | ok a3 l3 r3 =>
            rw [ho] at h
            have h : a3.length + r3.length ≤ (acc ++ [(a.1.t, b.1.x)]).length + r2.length := h
            rw [List.length_append] at h
            simp only [List.length_cons, List.length_nil] at h
            show a3.length + r3.length ≤ acc.length + r.length
            omega
      · exact refuse_c _ _ _ _ _
    · exact Nat.le_refl _
def wtM (m : Md) : Nat := m.1.length + sumN nB2 m.2
theorem moduleO_c : ∀ n cs bs (l : Int) (r : List Tok), Cw wtM (wtM (cs, bs) + r.length) (moduleO n cs bs l r)
  | 0, cs, bs, l, r => by unfold moduleO; exact Nat.le_refl _
  | n + 1, cs, bs, l, r => by
    unfold moduleO
    split
    · exact Nat.le_refl _
    split
    · refine (take_c _ _).bind fun a l1 r1 h1 => ?_
      refine (declsO_c _ [] _ _).bind fun d l2 r2 h2 => ?_
      refine (want_c _ _ _).bind fun b l3 r3 h3 => ?_
      have h := moduleO_c n (cs ++ d) bs l3 r3
      cases ho : moduleO n (cs ++ d) bs l3 r3 with
      | bad e l => trivial
      | ok m l4 r4 =>
        rw [ho] at h
        have h : wtM m + r4.length ≤ ((cs ++ d).length + sumN nB2 bs) + r3.length := h
        rw [List.length_append] at h
        simp only [List.length_nil] at h2
        show wtM m + r4.length ≤ (cs.length + sumN nB2 bs) + r.length
        omega
    · refine (bindO_c (exprO_c _ _) _ _).bind fun d l2 r2 h2 => ?_
      refine (want_c _ _ _).bind fun b l3 r3 h3 => ?_
      have h := moduleO_c n cs (bs ++ [d]) l3 r3
      cases ho : moduleO n cs (bs ++ [d]) l3 r3 with
      | bad e l => trivial
      | ok m l4 r4 =>
        rw [ho] at h
        have e : sumN nB2 (bs ++ [d]) = sumN nB2 bs + nB2 d := by rw [sumN_app]; simp [sumN]
        have h : wtM m + r4.length ≤ (cs.length + sumN nB2 (bs ++ [d])) + r3.length := h
        rw [e] at h
        show wtM m + r4.length ≤ (cs.length + sumN nB2 bs) + r.length
        omega
theorem parse_wt {T : List Tok} {m : Md} {l : Int} {r : List Tok} (h : parseO T = .ok m l r) : wtM m ≤ T.length := by
  have hw := moduleO_c (T.length + 1) [] [] 1 T
  rw [show moduleO (T.length + 1) [] [] 1 T = parseO T from rfl, h] at hw
  have hw : wtM m + r.length ≤ (0 + 0) + T.length := hw
  omega
def NSet (w : World) (b n : Nat) (dom : List Nm) : Prop :=
  ∃ D : DataW Unit, w.ownsMap Tryz.prog 9 (plainElem Tryz.prog 4) b n D ∧ ∀ x, D.atKey (.string x) (.lit (.bool false)) = .lit (.bool (decide (x ∈ dom)))
theorem nset_made (w : World) : NSet (w.alloc (.map #[] 0)) w.heap.size 0 [] := by
  refine ⟨_, World.ownsMap_made w _ _ _, fun x => ?_⟩
  simp
  rfl
theorem NSet.same {w w' : World} {b n : Nat} {dom : List Nm} (h : NSet w b n dom) (hk : w'.heap[b]? = w.heap[b]?) : NSet w' b n dom := by
  obtain ⟨D, ⟨es, c, hb, r⟩, h2⟩ := h
  exact ⟨D, ⟨es, c, hk.trans hb, r⟩, h2⟩
theorem NSet.lt {w : World} {b n : Nat} {dom : List Nm} (h : NSet w b n dom) : b < w.heap.size := by
  obtain ⟨D, h1, h2⟩ := h
  exact h1.lt
theorem NSet.later {w w' : World} {b n : Nat} {dom : List Nm} (h : NSet w b n dom) (hb : Below w.heap.size w w') : NSet w' b n dom := h.same (hb.block b h.lt)
theorem NSet.eq {w : World} {b n : Nat} {dom dom' : List Nm} (h : NSet w b n dom) (he : SetEq dom dom') : NSet w b n dom' := by
  obtain ⟨D, h1, h2⟩ := h
  exact ⟨D, h1, fun x => by rw [h2]; simp only [he x]⟩
theorem nzero_bool (w : World) : (zeroValue 4).run Tryz.prog w = .ok (.bool false) w := rfl
theorem nplain_bool_inv {P : Program} {e : TypeId} (he : P.underlying e = some .bool) {v : Value} {z : DataW Unit × List MemPlace} (h : plainElem P e v = some z) : ∃ a, v = .bool a ∧ z = (.lit (.bool a), []) := by
  unfold plainElem at h
  rw [he] at h
  cases v <;> simp at h
  subst h
  exact ⟨_, rfl, rfl⟩
theorem nkey_of (x : Nm) (hs : x.length ≤ 100000) : keyOf Tryz.prog 9 (.string (tx x)) = some (.string x) := by
  have h := WideMaps.keyOf_string_mk (P := Tryz.prog) Tryz.underlying9 (s := tx x) (by
    have : (tx x).size = x.length := by simp [tx, ByteArray.size]
    rw [this]; unfold maxLen; omega)
  rwa [tx_list] at h
theorem NSet.look {w : World} {b n : Nat} {dom : List Nm} (h : NSet w b n dom) (x : Nm) (hx : x.length ≤ 100000) :
    (Instr.lookup 121 (.map (some b)) (.string (tx x)) false).run Tryz.prog w = .ok (.bool (decide (x ∈ dom))) w := by
  obtain ⟨D, h1, h2⟩ := h
  obtain ⟨v, ps, hr, hv⟩ := h1.lookup (Maps.string_keyed Tryz.underlying9) Tryz.underlying121 (nzero_bool _) (plainElem_bool Tryz.underlying4 false) (nkey_of x hx)
  obtain ⟨a, rfl, ha⟩ := nplain_bool_inv Tryz.underlying4 hv
  rw [h2] at ha
  simp only [Prod.mk.injEq, DataW.lit.injEq, Lit.bool.injEq] at ha
  rw [← ha.1] at hr
  exact hr
theorem wp_nput {ops : Array Oper} {rest : List Oper} {o : Oper} {a : Act} {Q : Exit → Act → World → Prop} (w : World) (hg : o.guard = none) (m x v : Operand) (hop : o.op = Op.mapUpdate 121 m x v)
    (b n : Nat) (dom : List Nm) (hm : a.eval m = .map (some b)) (h : NSet w b n dom) (hn : n < 1000000) (k : Nm) (hx : a.eval x = .string (tx k)) (hv : a.eval v = .bool true) (hk : k.length ≤ 100000)
    (hK : ∀ w', NSet w' b (n + 1) (dom ++ [k]) → w.grownBy w' (some b) → wpList Tryz.prog ops Q rest (a.put o.dst undef) w') : wpList Tryz.prog ops Q (o :: rest) a w := by
  obtain ⟨D, h1, h2⟩ := h
  refine wpList_mapUpdate_own w hg m x v _ hop 9 4 (Maps.string_keyed Tryz.underlying9) Tryz.underlying121 _ b n D hm h1 (by unfold maxLen; omega) _ _ (.string k) hx hv (nkey_of k hk) (.lit (.bool true)) [] (plainElem_bool Tryz.underlying4 true) ?_
  intro w' h1' hg'
  refine hK w' ⟨_, h1', fun y => ?_⟩ hg'
  have hT := h1.tidy (Maps.string_keyed Tryz.underlying9)
  by_cases e : y = k
  · subst e
    rw [Maps.atKey_put_same hT.isMap (by trivial)]
    simp
  · rw [Maps.atKey_put_other (by simpa using e), h2]
    simp [e]
theorem clone_set (b n : Nat) (dom : List Nm) (w : World) (h : NSet w b n dom) : Calls Tryz.prog 84 #[.map (some b)] w fun e w' => e = .returned (.map (some w.heap.size)) ∧ NSet w' w.heap.size n dom ∧ Below w.heap.size w w' := by
  have hlt := h.lt
  obtain ⟨D, ⟨es, clock, hb, F, hs, hD⟩, h2⟩ := h
  have hq := fun w => run_eql_map_nil_sl (P := Tryz.prog) w 121 _ _ (some b) Tryz.underlying121
  have hB : Below w.heap.size w (w.alloc (.map es clock)) := (Below.refl _ w).alloc Nr (.map es clock)
  have HE := Hd (show NSet (w.alloc (.map es clock)) w.heap.size n dom ∧ Below w.heap.size w (w.alloc (.map es clock)) from ⟨⟨D, ⟨es, clock, (MapKept.heap_alloc w _).1, F, hs, hD⟩, h2⟩, hB⟩)
  clear F hs hD h2 hB
  go_enter Tryz.func84, Tryz.ntmps84
  go_wp2_with fail
  rw [run_callFunc_extern Tryz.func93 (by kernel_rfl) (by kernel_rfl) (by kernel_rfl) (e := Extern.MapsClone.clone) (by kernel_rfl), run_maps_clone_sl w 121 hb]
  simp only [Result.andThen]
  rw [Oper.upon_value]
  go_wp2_with fail
  rw [run_typeAssert_map_sl _ 121 20 _ _ _ Tryz.underlying121]
  simp only [Result.andThen]
  rw [Oper.upon_value]
  go_wp2_with fail
  go_ret
  exact ⟨rfl, HE.out.1, HE.out.2⟩
def vErr : Fo → Value
  | none => .nilIface
  | some (e, n) => .iface 76 (.agg #[.int .i64 e, .string (tx n)])
theorem repeated_any (w : World) : Calls Tryz.prog 83 #[] w fun e w' => e = .returned (.func (.func 92) #[] #[.pointer (some ⟨w.heap.size + 1, 0, none⟩)]) ∧ w' = ((w.alloc (.map #[] 0)).alloc (.cells #[.map (some w.heap.size)] 121)) := by
  have hmm := @run_makeMap Tryz.prog
  go_enter Tryz.func83, Tryz.ntmps83
  go_wp2_with fail
  go_ret
  exact ⟨rfl, rfl⟩
theorem rep_seen (k m n : Nat) (seen : List Nm) (x : Nm) (hx : x.length ≤ 100000) (w : World) (hk : w.cell? ⟨k, 0, none⟩ = some (.map (some m))) (hs : NSet w m n seen) (hin : x ∈ seen) : Calls Tryz.prog 92 #[.string (tx x), .pointer (some ⟨k, 0, none⟩)] w fun e w' => e = .returned (vErr (some (5, x))) ∧ Below w.heap.size w w' := by
  have hl := hs.look x hx
  rw [decide_eq_true hin] at hl
  go_enter Tryz.func92, Tryz.ntmps92
  go_wp2_with fail
  go_ret
  exact ⟨rfl, Below.refl _ _⟩
theorem rep_new (k m n : Nat) (hn : n < 1000000) (seen : List Nm) (x : Nm) (hx : x.length ≤ 100000) (w : World) (hk : w.cell? ⟨k, 0, none⟩ = some (.map (some m))) (hs : NSet w m n seen) (hin : x ∉ seen) : Calls Tryz.prog 92 #[.string (tx x), .pointer (some ⟨k, 0, none⟩)] w fun e w' => e = .returned (vErr none) ∧ NSet w' m (n + 1) (seen ++ [x]) ∧ w.grownBy w' (some m) := by
  have hl := hs.look x hx
  rw [decide_eq_false hin] at hl
  go_enter Tryz.func92, Tryz.ntmps92
  go_wp2_with (refine wp_nput _ rfl _ _ _ rfl m n seen rfl hs hn x rfl rfl hx ?_; intro w1 h1 g1)
  go_ret
  exact ⟨rfl, h1, g1⟩
theorem twiceL_pre (x : Nm) (b : List Nm) : ∀ (l seen : List Nm), twiceL seen l = some x → twiceL seen (l ++ b) = some x
  | [], _, h => by cases h
  | y :: r, seen, h => by
    show (if y ∈ seen then some y else twiceL (seen ++ [y]) (r ++ b)) = some x
    have h' : (if y ∈ seen then some y else twiceL (seen ++ [y]) r) = some x := h
    by_cases g : y ∈ seen
    · rw [if_pos g] at h' ⊢; exact h'
    · rw [if_neg g] at h' ⊢; exact twiceL_pre x b r _ h'
theorem twF_hit {a : List Nm} (b : List Nm) {x : Nm} (h : twF a = none) (hx : x ∈ a) : twF (a ++ x :: b) = some (5, x) := by
  have h1 : twF (a ++ [x]) = some (5, x) := by rw [twF_snoc, h, if_pos hx]; rfl
  unfold twF at h1 ⊢
  obtain ⟨y, h2, h3⟩ := Option.map_eq_some_iff.1 h1
  have h4 := twiceL_pre y b _ _ h2
  rw [List.append_assoc] at h4
  rw [show ([x] ++ b) = x :: b from rfl] at h4
  rw [h4]
  exact congrArg some h3
theorem first_rep (l : List Nm) (hn : l.length ≤ 100000) (hl : ∀ x, x ∈ l → x.length ≤ 100000) (k m : Nat) (a : Option Addr) (c : Nat) (K : Nat → Prop) (hK : ∀ g, K g → g ≠ m) (hkm : k ≠ m) (w : World) (hr : RowAt w K 9 1 (.slice a l.length c) l.length (namesV l)) (hk : w.cell? ⟨k, 0, none⟩ = some (.map (some m))) (hs : NSet w m 0 []) :
    Calls Tryz.prog 82 #[.slice a l.length c, .func (.func 92) #[] #[.pointer (some ⟨k, 0, none⟩)]] w fun e w' => e = .returned (vErr (twF l)) ∧ w.grownBy w' (some m) := by
  have HO := Hd hr
  have HS := Hd hs
  have HL := Hd hl
  have hmx := hr.cap
  unfold maxLen at hmx
  have hbox := hk
  clear hr hs hl hk
  go_enter Tryz.func82, Tryz.ntmps82
  go_wp2_with fail
  go_loopw [10] (fun s wr => ∃ j : Nat, j ≤ l.length ∧ s = .int .i64 j ∧ NSet wr m j (l.take j) ∧ w.grownBy wr (some m) ∧ twF (l.take j) = none) (fun s _ => l.length - (RowKit.intOf s).toNat)
  case atStart => exact ⟨0, Nat.zero_le _, rfl, by rw [List.take_zero]; exact HS.out, grown_of Br, by rw [List.take_zero]; rfl⟩
  case round =>
    obtain ⟨j, hj, rfl, hs1, hg, htw⟩ := hrel
    have HR := Hd (Ai hs1 (Ai hg htw))
    have HO2 := Hd (HO.out.past hg hK)
    have hb1 := hg.cell hbox (by simpa using hkm)
    clear hs1 hg htw
    by_cases gj : j < l.length
    · have gj' : (j : Int) < (l.length : Int) := by omega
      obtain ⟨g1, o1, ea1, k1, m1', -, ht1⟩ := HO2.out.at (by omega)
      subst ea1
      have p0 := ht1 j _ (namesV_get gj)
      have HT := Hd (show l.take (j + 1) = l.take j ++ [l[j]] from List.take_succ_eq_append_getElem gj)
      have hlx := HL.out l[j] (List.getElem_mem gj)
      have HD := Hd (show l = l.take j ++ l[j] :: l.drop (j + 1) by rw [← List.drop_eq_getElem_cons gj, List.take_append_drop])
      clear ht1
      generalize l[j] = tk at *
      have ej : IntKind.i64.wrap ((j : Int) + 1) = (j : Int) + 1 := by rw [IntKind.wrap_i64]; omega
      have b0 : (0 : Int) ≤ (j : Int) := by omega
      have eg := enters_of Tryz.func92 (by kernel_rfl) rfl
      by_cases g : tk ∈ l.take j
      · have HC := Hd (rep_seen k m j (l.take j) tk hlx wr hb1 HR.out.1 g)
        go_wp2_with fail
        refine HC.out.mono ?_
        rintro e w1 ⟨rfl, hb⟩
        have HB := Hd hb
        clear hb
        unfold vErr
        go_wp2_with fail
        go_ret
        have h := HD.out
        rw [h, twF_hit _ HR.out.2.2 g]
        exact ⟨rfl, Gt HR.out.2.1 (grown_of HB.out)⟩
      · have HC := Hd (rep_new k m j (by omega) (l.take j) tk hlx wr hb1 HR.out.1 g)
        go_wp2_with fail
        refine HC.out.mono ?_
        rintro e w1 ⟨rfl, hs2, hg2⟩
        have HB := Hd (Ai hs2 hg2)
        clear hs2 hg2
        unfold vErr
        go_wp2_with fail
        refine ⟨⟨j + 1, by omega, by go_num, by rw [HT.out]; exact HB.out.1, Gt HR.out.2.1 HB.out.2, ?_⟩, by simp [RowKit.intOf]; omega⟩
        rw [HT.out, twF_snoc, HR.out.2.2, if_neg g]
        rfl
    · obtain rfl : j = l.length := by omega
      go_wp2_with fail
      go_ret
      have h := HR.out.2.2
      rw [List.take_length] at h
      rw [h]
      exact ⟨rfl, HR.out.2.1⟩
end Go.Proofs.YtdjcdecbmeickaaGreatDoor
