/- A ring of the program's and the document's, in the midst of a law; a map of ints beside them, made and gone through. (Both, Half and the rows' permutations are said here once more, as PlaysW and CycleW say them: neither of those is imported.) -/
import Derived.Test.YtbjlpmjalidfkaaRjH
import Derived.Maps.RangeWalk
namespace Go.Proofs.Ytbjlpmjalidfkaa
open Go.RowKit Go.Shelf

/-- In the midst of a law: the program's ring, and the document's, have the same rows. -/
structure Both (w : World) (s : Spot) (q : Nat) (R : Rows) (W : World) : Prop where
  ring : Ring s R W
  ref : Ref W q s.n R
  below : Below w.heap.size w W
  r0 : w.heap.size ≤ s.r
  p0 : w.heap.size ≤ s.p
  d0 : w.heap.size ≤ s.d
  rq : s.r < q
  pq : s.p < q
  dq : s.d < q
theorem Both.later {w W W' : World} {s : Spot} {q : Nat} {R : Rows} (h : Both w s q R W) (hb : Below W.heap.size W W') : Both w s q R W' :=
  ⟨h.ring.later hb, h.ref.later hb, onB' h.below hb, h.r0, h.p0, h.d0, h.rq, h.pq, h.dq⟩
theorem Both.fit {w W : World} {s : Spot} {q : Nat} {R : Rows} (h : Both w s q R W) : Fit s.n R.all ∧ s.n ≤ 65536 ∧ (∀ x, x ∈ R.all → 1 ≤ x) ∧ (∀ x, x ∈ R.all → 1 ≤ x ∧ x ≤ 65536) := by
  obtain ⟨C, F, D, hL, hI⟩ := h.ring
  have hn := hL.nb
  refine ⟨hI.fit, hn, fun x hx => (hI.fit.rng x hx).1, fun x hx => ?_⟩
  have := hI.fit.rng x hx
  omega

theorem Both.turn {w W W' : World} {s : Spot} {q : Nat} {R : Rows} (h : Both w s q R W) (hR : Ring s R W') (ht : Turn s W W') : Both w s q R W' :=
  ⟨hR, h.ref.turn ht h.rq h.pq h.dq, h.below.trans (ht.below h.r0 h.p0 h.d0 h.below.size), h.r0, h.p0, h.d0, h.rq, h.pq, h.dq⟩

theorem both_of {w W W' : World} {s : Spot} {q : Nat} {R R' : Rows} (h : Ring s R' W ∧ Ref W q s.n R ∧ Below w.heap.size w W ∧ s.r < q ∧ s.p < q ∧ s.d < q ∧ w.heap.size ≤ s.r ∧ w.heap.size ≤ s.p ∧ w.heap.size ≤ s.d) (hQ : Ref W' q s.n R') (ho : One q W W') : Both w s q R' W' := by
  obtain ⟨h1, h2, h3, h4, h5, h6, h7, h8, h9⟩ := h
  exact ⟨h1.one h2 (by omega) (by omega) ho, hQ, h3.trans (ho.below (by omega) h3.size), h7, h8, h9, h4, h5, h6⟩

/-- The program's ring has been asked, the document's not yet. -/
def Half (w : World) (s : Spot) (q : Nat) (R R' : Rows) (W : World) : Prop :=
  Ring s R' W ∧ Ref W q s.n R ∧ Below w.heap.size w W ∧ s.r < q ∧ s.p < q ∧ s.d < q ∧ w.heap.size ≤ s.r ∧ w.heap.size ≤ s.p ∧ w.heap.size ≤ s.d
theorem Both.half {w W W' : World} {s : Spot} {q : Nat} {R R' : Rows} (h : Both w s q R W) (hR : Ring s R' W') (ht : Turn s W W') : Half w s q R R' W' :=
  ⟨hR, h.ref.turn ht h.rq h.pq h.dq, h.below.trans (ht.below h.r0 h.p0 h.d0 h.below.size), h.rq, h.pq, h.dq, h.r0, h.p0, h.d0⟩
theorem Half.later {w W W' : World} {s : Spot} {q : Nat} {R R' : Rows} (h : Half w s q R R' W) (hb : Below W.heap.size W W') : Half w s q R R' W' :=
  ⟨h.1.later hb, h.2.1.later hb, onB' h.2.2.1 hb, h.2.2.2⟩

theorem CMap.isMap {w : World} {b n : Nat} {f : Int → Int} {dom : List Int} (h : CMap w b n f dom) : ∃ es c, w.heap[b]? = some (.map es c) := by
  obtain ⟨D, ⟨es, c, hb, _⟩, _⟩ := h
  exact ⟨es, c, hb⟩
theorem cell_map {w : World} {b : Nat} {es : Array MapEntry} {c : Nat} (h : w.heap[b]? = some (.map es c)) (j : Nat) : w.cell? ⟨b, j, none⟩ = none := by simp [World.cell?, h]
/-- A map of the call's own has turned, nothing else. -/
theorem Both.mapped {w W W' : World} {s : Spot} {q kb n : Nat} {R : Rows} {f : Int → Int} {dom : List Int} (h : Both w s q R W) (hM : CMap W kb n f dom) (hg : W.grownBy W' (some kb)) (hkb : q < kb) : Both w s q R W' := by
  obtain ⟨es, c, hm⟩ := hM.isMap
  have hne : ∀ (b : Nat) (x : Value), W.cell? ⟨b, 0, none⟩ = some x → b ≠ kb := fun b x hx e => by
    rw [e, cell_map hm] at hx
    cases hx
  have hk : ∀ b, b < W.heap.size → b ≠ kb → W'.heap[b]? = W.heap[b]? := fun b h1 h2 => hg.block b h1 (by simpa using h2)
  have := h.rq
  have := h.r0
  refine ⟨?_, h.ref.same hg.size fun b _ h2 h3 => hk b h2 ?_, h.below.trans ⟨hg.os, hg.tape, hg.output, hg.size, fun b hb => hk b (Nat.lt_of_lt_of_le hb h.below.size) (by omega)⟩, h.r0, h.p0, h.d0, h.rq, h.pq, h.dq⟩
  · obtain ⟨C, F, D, hL, hI⟩ := h.ring
    have := h.pq
    have := h.dq
    obtain ⟨u1, u2, u3, u4, u5, u6, u7⟩ := hL.under
    refine ⟨C, F, D, hL.same hg.size fun b hb => ?_, hI⟩
    rcases hb with rfl | rfl | rfl | rfl | rfl | rfl | rfl
    · exact hk _ u1 (by omega)
    · exact hk _ u2 (by omega)
    · exact hk _ u3 (by omega)
    · exact hk _ u4 (hne _ _ hL.ba1)
    · exact hk _ u5 (hne _ _ hL.bn1)
    · exact hk _ u6 (hne _ _ hL.ba2)
    · exact hk _ u7 (hne _ _ hL.bn2)
  · rintro rfl
    obtain ⟨o, h4, h5⟩ := h3
    rw [hm] at h4
    cases h4
    cases h5

theorem Half.mapped {w W W' : World} {s : Spot} {q kb n : Nat} {R R' : Rows} {f : Int → Int} {dom : List Int} (h : Half w s q R R' W) (hM : CMap W kb n f dom) (hg : W.grownBy W' (some kb)) (hkb : q < kb) : Half w s q R R' W' := by
  obtain ⟨es, c, hm⟩ := hM.isMap
  have hne : ∀ (b : Nat) (x : Value), W.cell? ⟨b, 0, none⟩ = some x → b ≠ kb := fun b x hx e => by
    rw [e, cell_map hm] at hx
    cases hx
  have hk : ∀ b, b < W.heap.size → b ≠ kb → W'.heap[b]? = W.heap[b]? := fun b g1 g2 => hg.block b g1 (by simpa using g2)
  obtain ⟨h1, h2, h3, h4, h5, h6, h7, h8, h9⟩ := h
  refine ⟨?_, h2.same hg.size fun b _ g2 g3 => hk b g2 ?_, h3.trans ⟨hg.os, hg.tape, hg.output, hg.size, fun b hb => hk b (Nat.lt_of_lt_of_le hb h3.size) (by omega)⟩, h4, h5, h6, h7, h8, h9⟩
  · obtain ⟨C, F, D, hL, hI⟩ := h1
    obtain ⟨u1, u2, u3, u4, u5, u6, u7⟩ := hL.under
    refine ⟨C, F, D, hL.same hg.size fun b hb => ?_, hI⟩
    rcases hb with rfl | rfl | rfl | rfl | rfl | rfl | rfl
    · exact hk _ u1 (by omega)
    · exact hk _ u2 (by omega)
    · exact hk _ u3 (by omega)
    · exact hk _ u4 (hne _ _ hL.ba1)
    · exact hk _ u5 (hne _ _ hL.bn1)
    · exact hk _ u6 (hne _ _ hL.ba2)
    · exact hk _ u7 (hne _ _ hL.bn2)
  · rintro rfl
    obtain ⟨o, g4, g5⟩ := g3
    rw [hm] at g4
    cases g4
    cases g5

/-- One at each key that is there. -/
def ind (dom : List Int) : Int → Int := fun x => if x ∈ dom then 1 else 0
theorem ind_put {dom : List Int} {c : Int} (h : c ∉ dom) : fput (ind dom) c 1 = ind (c :: dom) ∧ dput dom c = c :: dom ∧ ind dom c = 0 := by
  refine ⟨?_, by simp [dput, h], by simp [ind, h]⟩
  funext x
  unfold fput ind
  by_cases e : x = c <;> simp [e]

theorem wf_small {c : Int} (h0 : 1 ≤ c) (h1 : c ≤ 65536) : (Lit.int .i64 c).wf = true := by
  have hmin : IntKind.i64.min = -9223372036854775808 := rfl
  have hmax : IntKind.i64.max = 9223372036854775807 := rfl
  simp only [Lit.wf, Bool.and_eq_true, decide_eq_true_eq]
  omega
theorem shade_perm {R : Rows} {c : Int} (hc : c ∈ R.frm) : (R.shade c).all.Perm R.all := by
  refine List.perm_iff_count.2 fun a => ?_
  have := (List.perm_cons_erase hc).count_eq a
  unfold Rows.all Rows.shade
  simp only [List.count_append, List.count_cons, List.count_nil] at *
  omega
theorem shade_dom {R : Rows} {c : Int} {dom : List Int} (h : dom.Perm (R.grey ++ R.black)) : (c :: dom).Perm ((R.shade c).grey ++ (R.shade c).black) := by
  refine List.perm_iff_count.2 fun a => ?_
  have := h.count_eq a
  unfold Rows.shade
  simp only [List.count_append, List.count_cons, List.count_nil] at *
  omega
theorem alloc_perm {R : Rows} {c : Int} {l : List Int} (hc : R.white = c :: l) : R.alloc.all.Perm R.all := by
  refine List.perm_iff_count.2 fun a => ?_
  unfold Rows.all Rows.alloc
  rw [hc]
  simp only [List.tail_cons, List.take_succ_cons, List.take_zero, List.count_append, List.count_cons, List.count_nil]
  omega
theorem alloc_dom {R : Rows} {c : Int} {l dom : List Int} (hc : R.white = c :: l) (h : dom.Perm (R.grey ++ R.black)) : (c :: dom).Perm (R.alloc.grey ++ R.alloc.black) := by
  refine List.perm_iff_count.2 fun a => ?_
  have := h.count_eq a
  unfold Rows.alloc
  rw [hc]
  simp only [List.take_succ_cons, List.take_zero, List.count_append, List.count_cons, List.count_nil] at *
  omega

theorem done_perm {R : Rows} {c : Int} {l : List Int} (hc : R.grey = l ++ [c]) : R.done.all.Perm R.all ∧ (R.grey ++ R.black).Perm (R.done.grey ++ R.done.black) := by
  have e1 : R.grey.dropLast = l := by rw [hc]; simp
  have e2 : R.grey.drop (R.grey.length - 1) = [c] := by rw [hc]; simp
  refine ⟨List.perm_iff_count.2 fun a => ?_, List.perm_iff_count.2 fun a => ?_⟩
  all_goals
    simp only [Rows.all, Rows.done]
    rw [e1, e2, hc]
    simp only [List.count_append, List.count_cons, List.count_nil]
    omega
theorem fin_perm {R : Rows} : R.fin.all.Perm R.all ∧ (R.grey ++ R.black).Perm (R.fin.grey ++ R.fin.black) := by
  refine ⟨List.perm_iff_count.2 fun a => ?_, List.Perm.refl _⟩
  simp only [Rows.all, Rows.fin, List.count_append, List.count_nil]
  omega


/-- A loop over a map of ints is under way. -/
def CRange (w : World) (b r n : Nat) (f : Int → Int) (dom : List Int) : Prop :=
  ∃ (D : DataW Unit) (left : Lit → Bool) (cnt : Nat), w.ranges Try.prog 3 (plainElem Try.prog 3) b r n D left cnt ∧ (∀ x, D.atKey (.int .i64 x) (.lit (.int .i64 0)) = .lit (.int .i64 (f x))) ∧ (∀ x, Maps.has D (.int .i64 x) = decide (x ∈ dom))

theorem wp_crange {ops : Array Oper} {rest : List Oper} {o : Oper} {a : Act} {Q : Exit → Act → World → Prop} (w : World) (hg : o.guard = none) (m : Operand) (hop : o.op = Op.range 29 m) (b n : Nat) (f : Int → Int) (dom : List Int) (hm : a.eval m = .map (some b)) (h : CMap w b n f dom)
    (hK : ∀ w', CRange w' b w.heap.size n f dom → Below w.heap.size w w' → w'.heap.size = w.heap.size + 1 → wpList Try.prog ops Q rest (a.put o.dst (.pointer (some ⟨w.heap.size, 0, none⟩))) w') : wpList Try.prog ops Q (o :: rest) a w := by
  obtain ⟨D, h1, h2, h3, h4⟩ := h
  refine wpList_range_own w hg m _ hop 3 3 (Maps.int_keyed Try.underlying3) Try.underlying29 _ b n D hm h1 ?_
  intro w' hr hgw hs
  exact hK w' ⟨D, _, _, hr, h2, h3⟩ ⟨hgw.os, hgw.tape, hgw.output, hgw.size, fun j hj => hgw.block j hj (by simp)⟩ hs

theorem wp_cnext {ops : Array Oper} {rest : List Oper} {o : Oper} {a : Act} {Q : Exit → Act → World → Prop} (w : World) (hg : o.guard = none) (it : Operand) (hop : o.op = Op.next it false) (b r n : Nat) (f : Int → Int) (dom : List Int) (hit : a.eval it = .pointer (some ⟨r, 0, none⟩)) (h : CRange w b r n f dom)
    (hDone : w.rangeLeft b r = 0 → wpList Try.prog ops Q rest (a.put o.dst (.tuple #[.bool false])) w)
    (hMore : ∀ (x : Int) (w' : World), (Lit.int .i64 x).wf = true → (Lit.int .i64 (f x)).wf = true → x ∈ dom → CRange w' b r n f dom → w'.rangeLeft b r < w.rangeLeft b r → w.grownBy w' (some r) → w'.heap.size = w.heap.size → (Instr.entry (.pointer (some ⟨r, 0, none⟩))).run Try.prog w' = .ok (.tuple #[.int .i64 x, .int .i64 (f x)]) w' → wpList Try.prog ops Q rest (a.put o.dst (.tuple #[.bool true, .int .i64 x, .int .i64 (f x)])) w') : wpList Try.prog ops Q (o :: rest) a w := by
  obtain ⟨D, left, cnt, hr, h2, h3⟩ := h
  refine wpList_next_ranges_ii w hg it hop 3 3 .i64 .i64 (Maps.int_keyed Try.underlying3) Try.underlying3 Try.underlying3 b r n D left cnt hit hr (fun h0 _ => hDone (hr.left_eq.trans h0)) ?_
  intro x c w' cnt' hwx hwc hlx hat hrg hlt hgr hsz hen
  have hc : f x = c := by
    have e := (h2 x).symm.trans (hat _)
    injection e with e
    injection e with _ e
  subst hc
  have hd := Maps.has_true_of_atKey hat
  rw [h3] at hd
  exact hMore x w' hwx hwc (of_decide_eq_true hd) ⟨D, _, _, hrg, h2, h3⟩ (by rw [hrg.left_eq, hr.left_eq]; exact hlt) hgr hsz hen
theorem CRange.map {w : World} {b r n : Nat} {f : Int → Int} {dom : List Int} (h : CRange w b r n f dom) : r < w.heap.size ∧ r ≠ b := by
  obtain ⟨D, left, cnt, hr, -⟩ := h
  exact ⟨hr.lt, hr.ne⟩

theorem ind_congr {a b : List Int} (h : ∀ x, x ∈ a ↔ x ∈ b) : ind a = ind b := by
  funext x
  unfold ind
  by_cases e : x ∈ a
  · rw [if_pos e, if_pos ((h x).1 e)]
  · rw [if_neg e, if_neg fun g => e ((h x).2 g)]
theorem ind_cons (a : List Int) (c : Int) : ind (c :: a) = fput (ind a) c 1 := by
  funext x
  unfold ind fput
  by_cases e : x = c <;> simp [e]
theorem ind_less {a b : List Int} {c : Int} (h : ∀ x, x ∈ b ↔ x ∈ a ∧ x ≠ c) : ind b = fput (ind a) c 0 := by
  funext x
  unfold ind fput
  by_cases e : x = c
  · rw [if_pos e, if_neg fun g => ((h x).1 g).2 e]
  · rw [if_neg e]
    show (if x ∈ b then (1 : Int) else 0) = if x ∈ a then 1 else 0
    by_cases g : x ∈ a
    · rw [if_pos g, if_pos ((h x).2 ⟨g, e⟩)]
    · rw [if_neg g, if_neg fun k => g ((h x).1 k).1]

/-- Which cells are there behind a call. -/
theorem after_perm (n : Nat) (K N : Int) (R : Rows) (h0 : K ≠ 0) (h1 : 1 ≤ K ∧ K ≤ 6) : (after n K N R).all.Perm R.all := by
  unfold after
  rw [if_neg h0]
  split
  · split
    · exact List.Perm.refl _
    · rename_i g
      exact shade_perm (shaded_mem g)
  split
  · exact List.Perm.refl _
  split
  · split
    · exact List.Perm.refl _
    · rename_i g
      exact (done_perm (List.dropLast_concat_getLast g).symm).1
  split
  · split
    · rename_i g
      unfold Rows.all Rows.begin
      rw [g.1, g.2]
      refine List.perm_iff_count.2 fun a => ?_
      simp only [List.count_append, List.count_nil]
      omega
    · exact List.Perm.refl _
  split
  · split
    · exact fin_perm.1
    · exact List.Perm.refl _
  split
  · exact List.Perm.refl _
  · rename_i g
    obtain ⟨c, l, hcl⟩ := List.exists_cons_of_ne_nil g
    rw [if_pos (by omega)]
    exact alloc_perm hcl
theorem after_drop (n : Nat) (K N : Int) (R : Rows) (c : Int) (l : List Int) (h1 : 6 < K ∨ K < 0) (hcl : R.white = c :: l) (hnd : R.all.Nodup) : ∀ x, x ∈ (after n K N R).all ↔ x ∈ R.all ∧ x ≠ c := by
  have e : after n K N R = R.drop := by
    unfold after
    rw [if_neg (by omega), if_neg (by omega), if_neg (by omega), if_neg (by omega), if_neg (by omega), if_neg (by omega), if_neg (by rw [hcl]; exact List.cons_ne_nil _ _), if_neg (by omega)]
  rw [e]
  have ea : R.all = c :: R.drop.all := by unfold Rows.all Rows.drop; rw [hcl]; rfl
  rw [ea] at hnd ⊢
  intro x
  have := (List.nodup_cons.1 hnd).1
  refine ⟨fun h => ⟨List.mem_cons_of_mem _ h, fun g => this (g ▸ h)⟩, fun h => ?_⟩
  rcases List.mem_cons.1 h.1 with g | g
  · exact absurd g h.2
  · exact g

theorem ind_nil : ind [] = fun _ => 0 := by
  funext x
  simp [ind]
theorem after_refused (n : Nat) (K N : Int) (R : Rows) (h : tellE n K N R ≠ 0) : after n K N R = R := by
  unfold tellE at h
  unfold after
  by_cases k0 : K = 0
  · rw [if_pos k0] at h ⊢
    by_cases g : 1 ≤ N ∧ N + 3 ≤ n
    · exact absurd (if_pos g) h
    · exact if_neg g
  rw [if_neg k0] at h ⊢
  by_cases k2 : K = 2
  · rw [if_pos k2] at h ⊢
    by_cases g : R.frm = []
    · exact if_pos g
    · exact absurd (if_neg g) h
  rw [if_neg k2] at h ⊢
  by_cases k3 : K = 3
  · exact if_pos k3
  rw [if_neg k3] at h ⊢
  by_cases k4 : K = 4
  · rw [if_pos k4] at h ⊢
    by_cases g : R.grey = []
    · exact if_pos g
    · exact absurd (if_neg g) h
  rw [if_neg k4] at h ⊢
  by_cases k5 : K = 5
  · rw [if_pos k5] at h ⊢
    by_cases g : R.frm = [] ∧ R.grey = []
    · exact absurd (if_pos g) h
    · exact if_neg g
  rw [if_neg k5] at h ⊢
  by_cases k6 : K = 6
  · rw [if_pos k6] at h ⊢
    by_cases g : R.grey = []
    · exact absurd (if_pos g) h
    · exact if_neg g
  rw [if_neg k6] at h ⊢
  by_cases g : R.white = []
  · exact if_pos g
  · exact absurd (if_neg g) h

/-- Which cells are there behind a call, by what it told. -/
inductive Came (K N tc te : Int) (L L' : List Int) : Prop
  | grown (h0 : te = 0) (h1 : K = 0) (h2 : 1 ≤ N ∧ N ≤ 65536) (h3 : ind L N = 0) (h4 : ind L' = fput (ind L) N 1)
  | fell (h0 : te = 0) (h1 : 6 < K ∨ K < 0) (h2 : 1 ≤ tc ∧ tc ≤ 65536) (h3 : ind L tc = 1) (h4 : ind L' = fput (ind L) tc 0)
  | not (h0 : te ≠ 0) (h4 : ind L' = ind L)
  | stays (h0 : te = 0) (h1 : 1 ≤ K ∧ K ≤ 6) (h4 : ind L' = ind L)
theorem came_any (n : Nat) (K N : Int) (R : Rows) (hn : n ≤ 65536) (hd : R.all.Nodup) (hr : ∀ x, x ∈ R.all → 1 ≤ x ∧ x ≤ 65536) (hf : K = 0 → Rng n N → Fit n (N :: R.all)) : Came K N (tellC K R) (tellE n K N R) R.all (after n K N R).all := by
  by_cases ht : tellE n K N R = 0
  · by_cases k0 : K = 0
    · have hg : 1 ≤ N ∧ N + 3 ≤ n := by
        unfold tellE at ht
        rw [if_pos k0] at ht
        by_cases g : 1 ≤ N ∧ N + 3 ≤ n
        · exact g
        · rw [if_neg g] at ht
          cases ht
      have hm := (hf k0 hg).not_mem
      refine .grown ht k0 ⟨hg.1, by omega⟩ (if_neg hm) ?_
      have e : after n K N R = R.grow N := by
        unfold after
        rw [if_pos k0, if_pos hg]
      rw [e]
      exact ind_cons R.all N
    · by_cases k6 : 1 ≤ K ∧ K ≤ 6
      · exact .stays ht k6 (ind_congr fun x => (after_perm n K N R k0 k6).mem_iff)
      · have hK : 6 < K ∨ K < 0 := by omega
        have hw : R.white ≠ [] := fun g => by
          unfold tellE at ht
          rw [if_neg (by omega), if_neg (by omega), if_neg (by omega), if_neg (by omega), if_neg (by omega), if_neg (by omega), if_pos g] at ht
          cases ht
        obtain ⟨c, l, hcl⟩ := List.exists_cons_of_ne_nil hw
        have ec : tellC K R = c := by
          unfold tellC
          rw [if_neg (by omega), if_neg (by omega), hcl]
          rfl
        have hc : c ∈ R.all := List.mem_append_left _ (by rw [hcl]; exact List.mem_cons_self ..)
        rw [ec]
        exact .fell ht hK (hr c hc) (if_pos hc) (ind_less (after_drop n K N R c l hK hcl hd))
  · refine .not ht ?_
    rw [after_refused n K N R ht]

end Go.Proofs.Ytbjlpmjalidfkaa
