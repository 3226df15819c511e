/- The document's ring: any call that another one serves. -/
import Derived.Test.YtbjlpmjalidfkaaRiT
namespace Go.Proofs.Ytbjlpmjalidfkaa
open Go.RowKit Go.Shelf

theorem mem_all {R : Rows} {k : Nat} (hk : k < 4) {x : Int} (h : x ∈ R.row k) : x ∈ R.all := by
  unfold Rows.all
  obtain rfl | rfl | rfl | rfl : k = 0 ∨ k = 1 ∨ k = 2 ∨ k = 3 := by omega
  all_goals simp only [Rows.row] at h
  all_goals simp [h]

/-- The answer's place is none of the rows': there stands 0. -/
theorem Ref.tell {W : World} {q n rb : Nat} {R : Rows} (h : Ref W q n R) (hz : W.cell? ⟨rb, 0, none⟩ = some (.int .i64 0)) (hqr : q ≠ rb) (hp : ∀ x, x ∈ R.all → x ≠ 0) (c : Int) (b : Bool) (e : Int) : Ref (tolds W rb c b e) q n R := by
  obtain ⟨v, hO⟩ := h.op
  have hk : ∀ k, k ≠ rb → (tolds W rb c b e).heap[k]? = W.heap[k]? := fun k hk => by
    unfold tolds
    exact (Below.heap_setCell _ _ _ _ hk).trans ((Below.heap_setCell _ _ _ _ hk).trans (Below.heap_setCell _ _ _ _ hk))
  have hs : (tolds W rb c b e).heap.size = W.heap.size := by simp [tolds, World.setCell]
  have o : ∀ (j : Nat) (z : Value), W.cell? ⟨q, j, none⟩ = some z → (tolds W rb c b e).cell? ⟨q, j, none⟩ = some z := fun j z hz => (World.cell?_of_block (w := W) (hk q hqr)).trans hz
  refine Op.ref (v := v) ⟨fun k g => o _ _ (hO.cell k g), o _ _ hO.words, fun j => (World.frozen?_of_block (w := W) (hk q hqr)).trans (hO.fz j), fun k g => ?_, by rw [hs]; exact hO.lq⟩
  obtain ⟨ao, sp, e1, hc⟩ := hO.row k g
  refine ⟨ao, sp, e1, fun h0 => ?_⟩
  obtain ⟨a, e2, g1, g2, g3⟩ := hc h0
  have hne : a ≠ rb := by
    rintro rfl
    have h1 := g3 0 _ (List.getElem?_eq_getElem h0)
    rw [hz] at h1
    refine hp _ (mem_all g (List.getElem_mem h0)) ?_
    simpa using h1.symm
  exact ⟨a, e2, g1, by rw [hs]; exact g2, fun i x hx => (World.cell?_of_block (w := W) (hk a hne)).trans (g3 i x hx)⟩

/-- What a call is told, and what is there behind it: the program's, and the document's. -/
def tellC (K : Int) (R : Rows) : Int :=
  if K = 0 ∨ K = 2 ∨ K = 4 ∨ K = 5 ∨ K = 6 then 0 else if K = 3 then R.grey.getLast?.getD 0 else R.white.head?.getD 0
def tellB (K : Int) (R : Rows) : Bool := if K = 3 then !R.grey.isEmpty else false
def tellE (n : Nat) (K N : Int) (R : Rows) : Int :=
  if K = 0 then (if 1 ≤ N ∧ N + 3 ≤ n then 0 else 1)
  else if K = 2 then (if R.frm = [] then 20 else 0)
  else if K = 3 then 0
  else if K = 4 then (if R.grey = [] then 18 else 0)
  else if K = 5 then (if R.frm = [] ∧ R.grey = [] then 0 else 18)
  else if K = 6 then (if R.grey = [] then 0 else 18)
  else (if R.white = [] then 2 else 0)
def after (n : Nat) (K N : Int) (R : Rows) : Rows :=
  if K = 0 then (if 1 ≤ N ∧ N + 3 ≤ n then R.grow N else R)
  else if K = 2 then (if R.frm = [] then R else R.shade (shadedAt N R))
  else if K = 3 then R
  else if K = 4 then (if R.grey = [] then R else R.done)
  else if K = 5 then (if R.frm = [] ∧ R.grey = [] then R.begin else R)
  else if K = 6 then (if R.grey = [] then R.fin else R)
  else (if R.white = [] then R else if K = 1 then R.alloc else R.drop)

theorem shade_mem {R : Rows} {c x : Int} (hc : c ∈ R.frm) (h : x ∈ (R.shade c).all) : x ∈ R.all := by
  unfold Rows.all Rows.shade at *
  simp only [List.mem_append, List.mem_singleton] at h ⊢
  rcases h with h | h | (h | h) | h
  · exact Or.inl h
  · exact Or.inr (Or.inl (List.mem_of_mem_erase h))
  · exact Or.inr (Or.inr (Or.inl h))
  · exact Or.inr (Or.inl (h ▸ hc))
  · exact Or.inr (Or.inr (Or.inr h))
theorem done_mem {R : Rows} {x : Int} (h : x ∈ R.done.all) : x ∈ R.all := by
  unfold Rows.all Rows.done at *
  simp only [List.mem_append] at h ⊢
  rcases h with h | h | h | h | h
  · exact Or.inl h
  · exact Or.inr (Or.inl h)
  · exact Or.inr (Or.inr (Or.inl (List.dropLast_subset _ h)))
  · exact Or.inr (Or.inr (Or.inl (List.mem_of_mem_drop h)))
  · exact Or.inr (Or.inr (Or.inr h))

/-- The answer of another call is handed on. -/
theorem hand_on {w w3 : World} {q n : Nat} {R R' : Rows} {v : Nat → Value} {K N : Int} (hO : Op w q n R v) (hR : Ref w3 q n R') (ho : One q (twoBoxes w K N) w3) (hp : ∀ x, x ∈ R'.all → x ≠ 0) (c : Int) (b : Bool) (e : Int) :
    (w3.cell? ⟨w.heap.size + 1, 0, none⟩ = some (.int .i64 0) ∧ w3.cell? ⟨w.heap.size + 1, 1, none⟩ = some (.bool false) ∧ w3.cell? ⟨w.heap.size + 1, 2, none⟩ = some (.int .i64 0) ∧ (∀ j, w3.frozen? ⟨w.heap.size + 1, j, none⟩ = false)) ∧
      (tolds w3 (w.heap.size + 1) c b e).cell? ⟨w.heap.size + 1, 0, none⟩ = some (.int .i64 c) ∧ (tolds w3 (w.heap.size + 1) c b e).cell? ⟨w.heap.size + 1, 1, none⟩ = some (.bool b) ∧ (tolds w3 (w.heap.size + 1) c b e).cell? ⟨w.heap.size + 1, 2, none⟩ = some (.int .i64 e) ∧
      Ref (tolds w3 (w.heap.size + 1) c b e) q n R' ∧ One q w (tolds w3 (w.heap.size + 1) c b e) := by
  have hst := two_st hO K N
  have lq := hO.lq
  have hl := hst.lrb
  have hb : w3.heap[w.heap.size + 1]? = (twoBoxes w K N).heap[w.heap.size + 1]? := ho.block _ hl (by omega)
  have o : ∀ j x, (twoBoxes w K N).cell? ⟨w.heap.size + 1, j, none⟩ = some x → w3.cell? ⟨w.heap.size + 1, j, none⟩ = some x := fun j x hx => (World.cell?_of_block (w := twoBoxes w K N) hb).trans hx
  have r0 := o _ _ hst.r0
  have r1 := o _ _ hst.r1
  have r2 := o _ _ hst.r2
  refine ⟨⟨r0, r1, r2, fun j => (World.frozen?_of_block (w := twoBoxes w K N) hb).trans (hst.rz j)⟩, ?_, ?_, ?_, hR.tell r0 (by omega) hp c b e, ?_⟩
  · unfold tolds
    exact (World.cell?_setCell_other _ _ _ _ (by simp)).trans ((World.cell?_setCell_other _ _ _ _ (by simp)).trans (World.cell?_setCell_same _ _ _ r0))
  · unfold tolds
    exact (World.cell?_setCell_other _ _ _ _ (by simp)).trans (World.cell?_setCell_same _ _ _ ((World.cell?_setCell_other _ _ _ _ (by simp)).trans r1))
  · unfold tolds
    exact World.cell?_setCell_same _ _ _ ((World.cell?_setCell_other _ _ _ _ (by simp)).trans ((World.cell?_setCell_other _ _ _ _ (by simp)).trans r2))
  · have h1 := (One.of_below (q := q) (two_below w K N)).trans ho
    have hk : ∀ k, k ≠ w.heap.size + 1 → (tolds w3 (w.heap.size + 1) c b e).heap[k]? = w3.heap[k]? := fun k hk => by
      unfold tolds
      exact (Below.heap_setCell _ _ _ _ hk).trans ((Below.heap_setCell _ _ _ _ hk).trans (Below.heap_setCell _ _ _ _ hk))
    exact ⟨h1.os, h1.tape, h1.output, by simpa [tolds, World.setCell] using h1.size, fun k g1 g2 => (hk k (by omega)).trans (h1.block k g1 g2)⟩

/-- What a call of the document's is said to do. -/
def DoSaid (q n : Nat) (K N : Int) (R : Rows) (w : World) : Prop :=
  Calls Try.prog 12 #[.pointer (some ⟨q, 0, none⟩), .agg #[.int .i64 K, .int .i64 N]] w fun e w' => e = .returned (told (tellC K R) (tellB K R) (tellE n K N R)) ∧ Ref w' q n (after n K N R) ∧ One q w w'

set_option maxHeartbeats 4000000 in
theorem rdo_grow (w : World) (q n : Nat) (R : Rows) (hR : Ref w q n R) (N : Int) (hp : ∀ x, x ∈ R.all → 1 ≤ x) (hn : n ≤ 65536) (hs : R.all.length ≤ 1000) : DoSaid q n 0 N R w := by
  obtain ⟨v, hO⟩ := hR.op
  have hsub : Calls Try.prog 48 #[.pointer (some ⟨q, 0, none⟩), .int .i64 N] (twoBoxes w 0 N) fun e w' => e = .returned (told (tellC 0 R) (tellB 0 R) (tellE n 0 N R)) ∧ Ref w' q n (after n 0 N R) ∧ One q (twoBoxes w 0 N) w' := by
    have h1 := hR.later (two_below w 0 N)
    unfold tellC tellB tellE after
    by_cases g : 1 ≤ N ∧ N + 3 ≤ n
    · simp only [if_pos g]
      exact rgrow_in _ q n R h1 N g hn hs
    · simp only [if_neg g]
      exact rgrow_out _ q n R h1 N g hn
  have hpa : ∀ x, x ∈ (after n 0 N R).all → x ≠ 0 := fun x hx => by
    unfold after at hx
    by_cases g : 1 ≤ N ∧ N + 3 ≤ n
    · simp only [if_pos g] at hx
      rcases List.mem_cons.1 (show x ∈ N :: R.all from hx) with rfl | h
      · omega
      · have := hp x h; omega
    · simp only [if_neg g] at hx
      have := hp x hx
      omega
  unfold DoSaid
  generalize tellC 0 R = c at *
  generalize tellB 0 R = b at *
  generalize tellE n 0 N R = e at *
  generalize after n 0 N R = R' at *
  have HSUB := Lib.hid hsub
  have HO := Lib.hid hO
  have HP := Lib.hid hpa
  clear hsub hO hR hp hpa
  unfold twoBoxes at HSUB
  go_enter Try.func12, Try.ntmps12
  go_wp2_with fail
  refine HSUB.out.mono ?_
  rintro _ w3 ⟨rfl, hR3, ho⟩
  obtain ⟨⟨r0, r1, r2, rz⟩, t0, t1, t2, hd⟩ := hand_on HO.out hR3 ho HP.out c b e
  have z0 := rz 0
  have z1 := rz 1
  have z2 := rz 2
  have HD := Lib.hid hd
  clear hR3 ho hd rz HSUB
  unfold told
  go_wp2_with fail
  unfold tolds at HD t0 t1 t2
  exact bodyPost_ret (v := .agg #[.int .i64 c, .bool b, .int .i64 e]) (by simp [results, Try.results12, go_sem, t0, t1, t2]) rfl ⟨rfl, HD.out⟩

set_option maxHeartbeats 4000000 in
theorem rdo_grey_2 (w : World) (q n : Nat) (R : Rows) (hR : Ref w q n R) (N : Int) (hp : ∀ x, x ∈ R.all → 1 ≤ x) (hs : R.all.length ≤ 1000) : DoSaid q n 2 N R w := by
  obtain ⟨v, hO⟩ := hR.op
  have hsub : Calls Try.prog 49 #[.pointer (some ⟨q, 0, none⟩), .agg #[.int .i64 2, .int .i64 N]] (twoBoxes w 2 N) fun e w' => e = .returned (told (tellC 2 R) (tellB 2 R) (tellE n 2 N R)) ∧ Ref w' q n (after n 2 N R) ∧ One q (twoBoxes w 2 N) w' := by
    have h1 := hR.later (two_below w 2 N)
    unfold tellC tellB tellE after
    simp only [show ¬ (2 : Int) = 0 by decide, show ¬ (2 : Int) = 3 by decide, show ¬ (2 : Int) = 4 by decide, if_false, if_true, false_or, true_or]
    by_cases g : R.frm = []
    · simp only [if_pos g]
      exact rshade_none _ q n R h1 N g hs
    · simp only [if_neg g]
      exact rshade_some _ q n R h1 N _ rfl (by have := hp _ (List.mem_append_right _ (List.mem_append_left _ (shaded_mem (N := N) g))); omega) g hs
  have hpa : ∀ x, x ∈ (after n 2 N R).all → x ≠ 0 := fun x hx => by
    unfold after at hx
    simp only [show ¬ (2 : Int) = 0 by decide, show ¬ (2 : Int) = 3 by decide, show ¬ (2 : Int) = 4 by decide, if_false, if_true] at hx
    by_cases g : R.frm = []
    · simp only [if_pos g] at hx
      have := hp x hx; omega
    · simp only [if_neg g] at hx
      have := hp x (shade_mem (shaded_mem g) hx); omega
  unfold DoSaid
  generalize tellC 2 R = c at *
  generalize tellB 2 R = b at *
  generalize tellE n 2 N R = e at *
  generalize after n 2 N R = R' at *
  have HSUB := Lib.hid hsub
  have HO := Lib.hid hO
  have HP := Lib.hid hpa
  clear hsub hO hR hp hpa
  unfold twoBoxes at HSUB
  go_enter Try.func12, Try.ntmps12
  go_wp2_with fail
  refine HSUB.out.mono ?_
  rintro _ w3 ⟨rfl, hR3, ho⟩
  obtain ⟨⟨r0, r1, r2, rz⟩, t0, t1, t2, hd⟩ := hand_on HO.out hR3 ho HP.out c b e
  have z0 := rz 0
  have z1 := rz 1
  have z2 := rz 2
  have HD := Lib.hid hd
  clear hR3 ho hd rz HSUB
  unfold told
  go_wp2_with fail
  unfold tolds at HD t0 t1 t2
  exact bodyPost_ret (v := .agg #[.int .i64 c, .bool b, .int .i64 e]) (by simp [results, Try.results12, go_sem, t0, t1, t2]) rfl ⟨rfl, HD.out⟩

set_option maxHeartbeats 4000000 in
theorem rdo_grey_3 (w : World) (q n : Nat) (R : Rows) (hR : Ref w q n R) (N : Int) (hp : ∀ x, x ∈ R.all → 1 ≤ x) (hs : R.all.length ≤ 1000) : DoSaid q n 3 N R w := by
  obtain ⟨v, hO⟩ := hR.op
  have hsub : Calls Try.prog 49 #[.pointer (some ⟨q, 0, none⟩), .agg #[.int .i64 3, .int .i64 N]] (twoBoxes w 3 N) fun e w' => e = .returned (told (tellC 3 R) (tellB 3 R) (tellE n 3 N R)) ∧ Ref w' q n (after n 3 N R) ∧ One q (twoBoxes w 3 N) w' := by
    have h1 := hR.later (two_below w 3 N)
    unfold tellC tellB tellE after
    simp only [show ¬ (3 : Int) = 0 by decide, show ¬ (3 : Int) = 2 by decide, show ¬ (3 : Int) = 4 by decide, if_false, if_true, false_or]
    exact rnext_any _ q n R h1 N hs
  have hpa : ∀ x, x ∈ (after n 3 N R).all → x ≠ 0 := fun x hx => by
    unfold after at hx
    simp only [show ¬ (3 : Int) = 0 by decide, show ¬ (3 : Int) = 2 by decide, show ¬ (3 : Int) = 4 by decide, if_false, if_true] at hx
    have := hp x hx; omega
  unfold DoSaid
  generalize tellC 3 R = c at *
  generalize tellB 3 R = b at *
  generalize tellE n 3 N R = e at *
  generalize after n 3 N R = R' at *
  have HSUB := Lib.hid hsub
  have HO := Lib.hid hO
  have HP := Lib.hid hpa
  clear hsub hO hR hp hpa
  unfold twoBoxes at HSUB
  go_enter Try.func12, Try.ntmps12
  go_wp2_with fail
  refine HSUB.out.mono ?_
  rintro _ w3 ⟨rfl, hR3, ho⟩
  obtain ⟨⟨r0, r1, r2, rz⟩, t0, t1, t2, hd⟩ := hand_on HO.out hR3 ho HP.out c b e
  have z0 := rz 0
  have z1 := rz 1
  have z2 := rz 2
  have HD := Lib.hid hd
  clear hR3 ho hd rz HSUB
  unfold told
  go_wp2_with fail
  unfold tolds at HD t0 t1 t2
  exact bodyPost_ret (v := .agg #[.int .i64 c, .bool b, .int .i64 e]) (by simp [results, Try.results12, go_sem, t0, t1, t2]) rfl ⟨rfl, HD.out⟩

set_option maxHeartbeats 4000000 in
theorem rdo_grey_4 (w : World) (q n : Nat) (R : Rows) (hR : Ref w q n R) (N : Int) (hp : ∀ x, x ∈ R.all → 1 ≤ x) (hs : R.all.length ≤ 1000) : DoSaid q n 4 N R w := by
  obtain ⟨v, hO⟩ := hR.op
  have hsub : Calls Try.prog 49 #[.pointer (some ⟨q, 0, none⟩), .agg #[.int .i64 4, .int .i64 N]] (twoBoxes w 4 N) fun e w' => e = .returned (told (tellC 4 R) (tellB 4 R) (tellE n 4 N R)) ∧ Ref w' q n (after n 4 N R) ∧ One q (twoBoxes w 4 N) w' := by
    have h1 := hR.later (two_below w 4 N)
    unfold tellC tellB tellE after
    simp only [show ¬ (4 : Int) = 0 by decide, show ¬ (4 : Int) = 2 by decide, show ¬ (4 : Int) = 3 by decide, if_false, if_true, false_or, true_or]
    by_cases g : R.grey = []
    · simp only [if_pos g]
      exact rdone_none _ q n R h1 N g
    · simp only [if_neg g]
      exact rdone_some _ q n R h1 N _ _ (List.dropLast_concat_getLast g).symm hs
  have hpa : ∀ x, x ∈ (after n 4 N R).all → x ≠ 0 := fun x hx => by
    unfold after at hx
    simp only [show ¬ (4 : Int) = 0 by decide, show ¬ (4 : Int) = 2 by decide, show ¬ (4 : Int) = 3 by decide, if_false, if_true] at hx
    by_cases g : R.grey = []
    · simp only [if_pos g] at hx
      have := hp x hx; omega
    · simp only [if_neg g] at hx
      have := hp x (done_mem hx); omega
  unfold DoSaid
  generalize tellC 4 R = c at *
  generalize tellB 4 R = b at *
  generalize tellE n 4 N R = e at *
  generalize after n 4 N R = R' at *
  have HSUB := Lib.hid hsub
  have HO := Lib.hid hO
  have HP := Lib.hid hpa
  clear hsub hO hR hp hpa
  unfold twoBoxes at HSUB
  go_enter Try.func12, Try.ntmps12
  go_wp2_with fail
  refine HSUB.out.mono ?_
  rintro _ w3 ⟨rfl, hR3, ho⟩
  obtain ⟨⟨r0, r1, r2, rz⟩, t0, t1, t2, hd⟩ := hand_on HO.out hR3 ho HP.out c b e
  have z0 := rz 0
  have z1 := rz 1
  have z2 := rz 2
  have HD := Lib.hid hd
  clear hR3 ho hd rz HSUB
  unfold told
  go_wp2_with fail
  unfold tolds at HD t0 t1 t2
  exact bodyPost_ret (v := .agg #[.int .i64 c, .bool b, .int .i64 e]) (by simp [results, Try.results12, go_sem, t0, t1, t2]) rfl ⟨rfl, HD.out⟩

end Go.Proofs.Ytbjlpmjalidfkaa
