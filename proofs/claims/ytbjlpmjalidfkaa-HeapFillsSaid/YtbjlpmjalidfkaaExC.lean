/- slices.Insert of one run into a row of runs: at the end; in place; into a new row. -/
import Derived.Test.YtbjlpmjalidfkaaExB
namespace Go.Proofs.Ytbjlpmjalidfkaa.Ex
open Go.RowKit Go.Sort

/-- What Insert leaves: the runs, in the old row or in a new one; no other block has turned. -/
def Laid (w : World) (g n : Nat) (M : List (Int × Int)) (e : Ending) (w' : World) : Prop :=
  ∃ g' cap', e = .returned (.slice (some ⟨g', 0, none⟩) (n + 1) cap') ∧ Own 145 w' g' cap' M ∧ w.grownBy w' (some g) ∧ (g' = g ∨ w.heap.size ≤ g')

theorem new_pair {w : World} {vb : Nat} {a k : Int} (hv : w.heap[vb]? = some (.cells #[.int .i64 a, .int .i64 k] 145 (0, 0))) : ∀ j u, [Value.int .i64 a, .int .i64 k][j]? = some u → w.cell? ((⟨vb, 0, none⟩ : Addr).add j) = some u :=
  fun j u hu => World.news_of_block hv j u hu

theorem laid_end {w w1 : World} {g g' cap cap' : Nat} {A : List (Int × Int)} {a k : Int} (hown : w1.ownsRow 0 145 2 (.slice (some ⟨g', 0, none⟩) (A.length + 1) cap') (A.length + 1) (flat A ++ [.int .i64 a, .int .i64 k]))
    (hgr : w.grownBy w1 (Value.ownBlock (.slice (some ⟨g, 0, none⟩) A.length cap))) (hat : Value.ownBlock (.slice (some ⟨g, 0, none⟩) A.length cap) = some g' ∨ g' = w.heap.size) :
    Laid w g A.length (A ++ [(a, k)]) (.returned (.slice (some ⟨g', 0, none⟩) (A.length + 1) cap')) w1 := by
  refine ⟨g', cap', rfl, ?_, hgr, ?_⟩
  · unfold Own
    rw [List.length_append, flat_append]
    exact hown
  · rcases hat with h | h
    · simp [Value.ownBlock] at h
      exact Or.inl h.symm
    · exact Or.inr (Nat.le_of_eq h.symm)

set_option maxHeartbeats 4000000 in
set_option maxRecDepth 100000 in
/-- At the end. -/
theorem insert_end (w : World) (g cap n vb : Nat) (A : List (Int × Int)) (a k : Int) (hO : Own 145 w g cap A) (hA : A.length = n) (hn : n ≤ 100000)
    (hv : w.heap[vb]? = some (.cells #[.int .i64 a, .int .i64 k] 145 (0, 0))) :
    Calls Try.prog 96 #[.slice (some ⟨g, 0, none⟩) n cap, .int .i64 n, .slice (some ⟨vb, 0, none⟩) 1 1] w (Laid w g n (A ++ [(a, k)])) := by
  obtain ⟨i0, hi0, hz0, hzs, hzb⟩ := info_parts Try.info_pair
  obtain ⟨S, hg, hs, hnc, hm⟩ := hO.heap
  subst hA
  unfold maxLen at hm
  have HO := Lib.hid hO
  have HV := Lib.hid (new_pair hv)
  clear hO hv hg hs S
  go_enter Try.func96, Try.ntmps96
  go_wp2_with (at_builtin; refine wpList_append_lies _ rfl _ _ 146 rfl 0 145 i0 (.agg #[.int .i64 0, .int .i64 0]) 2 16 Try.underlying146 hi0 hz0 hzs hzb rfl (by decide) _ A.length (flat A) rfl HO.out ⟨vb, 0, none⟩ 1 1 [Value.int .i64 a, .int .i64 k] rfl rfl HV.out (by intro u hu; simp at hu; rcases hu with rfl | rfl <;> rfl) (by decide) (by unfold maxLen; omega) (by omega) (Nat.zero_le _) w.heap.size rfl ?_; intro g' cap' w1 hown hgr hat hlt)
  all_goals go_ret
  all_goals exact laid_end hown hgr hat

theorem list3 {α : Type} (A B C : List α) (i : Nat) (h : A.length = i) : (A ++ B ++ C).take i = A := by
  rw [List.append_assoc, List.take_append_of_le_length (by omega), List.take_of_length_le (by omega)]
theorem drop2 {α : Type} (A C : List α) (i k : Nat) (h : A.length = i) : (A ++ C).drop (i + k) = C.drop k := by
  rw [List.drop_append, List.drop_eq_nil_of_le (by omega), List.nil_append, show i + k - A.length = k by omega]

set_option maxHeartbeats 4000000 in
set_option maxRecDepth 100000 in
/-- In place: there is room behind the runs. -/
theorem insert_room (w : World) (g cap i n vb : Nat) (A B : List (Int × Int)) (a k : Int) (hO : Own 145 w g cap (A ++ B)) (hA : A.length = i) (hB : B.length = n - i) (hi : i < n) (hroom : n < cap) (hn : n ≤ 100000)
    (hv : w.heap[vb]? = some (.cells #[.int .i64 a, .int .i64 k] 145 (0, 0))) (hvg : vb ≠ g) :
    Calls Try.prog 96 #[.slice (some ⟨g, 0, none⟩) n cap, .int .i64 i, .slice (some ⟨vb, 0, none⟩) 1 1] w (Laid w g n (A ++ (a, k) :: B)) := by
  obtain ⟨i0, hi0, hz0, hzs, hzb⟩ := info_parts Try.info_pair
  obtain ⟨S, hg, hs, hnc, hm⟩ := hO.heap
  have fA := flat_length A
  have fB := flat_length B
  rw [hA] at fA
  rw [hB] at fB
  have hl : (A ++ B).length = n := by simp; omega
  rw [hl] at hnc
  unfold maxLen at hm
  rw [flat_append] at hg hs
  have hsl : (flat A ++ flat B ++ S).length = cap * 2 := hs
  have hSl : S.length = (cap - n) * 2 := by simp [fA, fB] at hsl; omega
  generalize hcur : (flat A ++ flat B ++ S).toArray = cur at hg
  have hcl : cur.toList = flat A ++ flat B ++ S := by rw [← hcur]
  have hcs : cur.size = cap * 2 := by rw [← hsl, ← hcur]; simp
  have hsz : (Try.prog.info? 145).map (·.size) = some 2 := by rw [hi0]; simp [hzs]
  have hgd : w.drew.heap[g]? = some (.cells cur 145 (0, 0)) := hg
  -- the first copy: the runs from i on, one further
  obtain ⟨W1, hW1⟩ : ∃ W1, W1 = w.drew.setRow g (cur.toList.take ((i + 1) * 2) ++ flat B ++ cur.toList.drop ((i + 1) * 2 + (flat B).length)).toArray := ⟨_, rfl⟩
  have hsrc : ∀ j u, (flat B)[j]? = some u → w.drew.cell? ((⟨g, i * 2, none⟩ : Addr).add j) = some u := fun j u hj => by
    have hjl := (List.getElem?_eq_some_iff.1 hj).1
    rw [Addr.add_lit, show w.drew.cell? ⟨g, i * 2 + j, none⟩ = w.cell? ⟨g, i * 2 + j, none⟩ from rfl, cell_of_row w g _ cur _ _ hg, ← Array.getElem?_toList, hcl, List.append_assoc, List.getElem?_append_right (by omega), fA, Nat.add_sub_cancel_left, List.getElem?_append_left hjl]
    exact hj
  have hcp1 : ∀ dc sc ty, (Builtin.copy_ #[146, 146] ty #[.slice (some ⟨g, (i + 1) * 2, none⟩) (n - i) dc, .slice (some ⟨g, i * 2, none⟩) (n + 1 - i) sc]).run Try.prog w.drew = .ok (goInt ((n - i : Nat) : Int)) W1 := fun dc sc ty => by
    rw [hW1]
    exact run_copy_pairs (P := Try.prog) w.drew 146 146 ty 145 g ((i + 1) * 2) (n - i) dc ⟨g, i * 2, none⟩ (n + 1 - i) sc (n - i) cur _ (flat B) Try.underlying146 hsz hgd (by simp only [Nat.min_def]; split <;> omega) fB hsrc (by rw [fB, hcs]; omega) (flat_one B)
  have g1 : W1.heap[g]? = some (.cells (cur.toList.take ((i + 1) * 2) ++ flat B ++ cur.toList.drop ((i + 1) * 2 + (flat B).length)).toArray 145 (0, 0)) := by rw [hW1]; exact setRow_heap w.drew g cur _ _ _ hgd
  have hv1 : W1.heap[vb]? = some (.cells #[.int .i64 a, .int .i64 k] 145 (0, 0)) := by rw [hW1]; exact (setRow_other w.drew g vb _ hvg).trans hv
  -- the row behind it
  obtain ⟨R, hR⟩ : ∃ R, cur.toList.take ((i + 1) * 2) ++ flat B ++ cur.toList.drop ((i + 1) * 2 + (flat B).length) = flat A ++ (R ++ flat B ++ cur.toList.drop ((i + 1) * 2 + (flat B).length)) ∧ R.length = 2 := by
    refine ⟨(flat B ++ S).take 2, ?_, by simp [fB, hSl]; omega⟩
    have e : cur.toList.take ((i + 1) * 2) = flat A ++ (flat B ++ S).take 2 := by
      rw [hcl, List.append_assoc, List.take_append, fA, List.take_of_length_le (by omega), show (i + 1) * 2 - i * 2 = 2 by omega]
    rw [e]
    simp
  obtain ⟨hR, hRl⟩ := hR
  rw [hR] at g1
  have hZl0 : (cur.toList.take ((i + 1) * 2) ++ flat B ++ cur.toList.drop ((i + 1) * 2 + (flat B).length)).length = cap * 2 := by simp [fB, hcs]; omega
  generalize cur.toList.drop ((i + 1) * 2 + (flat B).length) = Z at g1 hR hW1 hZl0
  have hZl : (flat A ++ (R ++ flat B ++ Z)).length = cap * 2 := by rw [← hR]; exact hZl0
  obtain ⟨W2, hW2⟩ : ∃ W2, W2 = W1.setRow g (flat (A ++ (a, k) :: B) ++ Z).toArray := ⟨_, rfl⟩
  have hcp2 : ∀ dc ty, (Builtin.copy_ #[146, 146] ty #[.slice (some ⟨g, i * 2, none⟩) (n + 1 - i) dc, .slice (some ⟨vb, 0, none⟩) 1 1]).run Try.prog W1 = .ok (goInt 1) W2 := fun dc ty => by
    have h := run_copy_pairs (P := Try.prog) W1 146 146 ty 145 g (i * 2) (n + 1 - i) dc ⟨vb, 0, none⟩ 1 1 1 _ _ [Value.int .i64 a, .int .i64 k] Try.underlying146 hsz g1 (by simp only [Nat.min_def]; split <;> omega) rfl (new_pair hv1) (by simp only [List.size_toArray, hZl, List.length_cons, List.length_nil]; omega) (by intro u hu; simp at hu; rcases hu with rfl | rfl <;> rfl)
    rw [h, hW2]
    congr 3
    rw [show (flat A ++ (R ++ flat B ++ Z)).toArray.toList = flat A ++ (R ++ flat B ++ Z) from rfl, List.take_append_of_le_length (by omega), List.take_of_length_le (by omega), drop2 _ _ _ _ fA, List.append_assoc R, show [Value.int IntKind.i64 a, Value.int IntKind.i64 k].length = 2 from rfl, ← hRl, List.drop_left, flat_append]
    simp [flat]
  have hEnd : Laid w g n (A ++ (a, k) :: B) (.returned (.slice (some ⟨g, 0, none⟩) (n + 1) cap)) W2 := by
    refine ⟨g, cap, rfl, Own.mk (by rw [hW2]; exact setRow_heap W1 g _ _ _ _ g1) ?_ (by unfold maxLen; omega), ?_, Or.inl rfl⟩
    · rw [flat_append]
      simp [fA, fB, flat] at hZl ⊢
      omega
    · rw [hW2, hW1]
      exact ⟨rfl, rfl, rfl, by simp [World.setRow], fun k _ hk => (setRow_other _ g k _ (fun e => hk (by simp [e]))).trans (setRow_other w.drew g k _ (fun e => hk (by simp [e])))⟩
  have hgl : g < w.heap.size := hO.lt
  have hov : ∀ lb cb, (callFunc 109 #[.slice (some ⟨vb, 0, none⟩) 1 1, .slice (some ⟨g, (i + 1) * 2, none⟩) lb cb]).run Try.prog w = .ok (.value (.bool false)) w := fun lb cb => by
    rw [run_callFunc_extern Try.func109 (by kernel_rfl) (by kernel_rfl) (by kernel_rfl) (e := Extern.SlicesOverlaps.overlaps #[146, 146] #[4]) (by kernel_rfl),
      Lib.run_overlaps_apart w 146 4 145 Try.underlying146 2 Try.sizeOf145 ⟨vb, 0, none⟩ ⟨g, (i + 1) * 2, none⟩ 1 1 lb cb hvg 145 145 2 (cap * 2) (by simp [World.shape?, hv]) (by simp [World.shape?, hg, hcs]) (by omega) (frozen_of_row w vb 0 _ _ hv) (frozen_of_row w vb 2 _ _ hv)]
    rfl
  have HE := Lib.hid hEnd
  have HO := Lib.hid hov
  have H1 := Lib.hid hcp1
  have H2 := Lib.hid hcp2
  have hz2 : ¬ ((i : Int) = (n : Int)) := by omega
  have hw1 : IntKind.i64.wrap ((i : Int) + 1) = (i : Int) + 1 := by rw [IntKind.wrap_i64]; omega
  have hb1 : (0 : Int) ≤ (i : Int) + 1 := by omega
  have hin : i ≤ n := by omega
  have htn : ((i : Int) + 1).toNat = i + 1 := by omega
  have hb2 : ¬ (cap = i + 1) := by omega
  have hb3 : (i : Int) ≤ (n : Int) + 1 := by omega
  have hb4 : ¬ (cap = i) := by omega
  clear hEnd hov hcp1 hcp2 hZl hZl0 hR hRl g1 hv1 hsrc hW1 hW2 hgd hsz hcs hcl hcur hSl hsl hg hs hl fA fB hA hB hv hO
  replace HO := HO.out
  go_enter Try.func96, Try.ntmps96
  go_wp2_with (simp only [HO])
  replace H1 := H1.out
  go_region_law (fail)
  clear H1
  replace H2 := H2.out
  go_wp2_with fail
  go_ret
  exact HE.out

set_option maxHeartbeats 4000000 in
set_option maxRecDepth 100000 in
/-- Into a new row: there is no room. -/
theorem insert_grow (w : World) (g cap i n vb : Nat) (A B : List (Int × Int)) (a k : Int) (hO : Own 145 w g cap (A ++ B)) (hA : A.length = i) (hB : B.length = n - i) (hi : i < n) (hroom : cap < n + 1) (hn : n ≤ 100000)
    (hv : w.heap[vb]? = some (.cells #[.int .i64 a, .int .i64 k] 145 (0, 0))) :
    Calls Try.prog 96 #[.slice (some ⟨g, 0, none⟩) n cap, .int .i64 i, .slice (some ⟨vb, 0, none⟩) 1 1] w (Laid w g n (A ++ (a, k) :: B)) := by
  obtain ⟨i0, hi0, hz0, hzs, hzb⟩ := info_parts Try.info_pair
  obtain ⟨S, hg, hs, hnc, hm⟩ := hO.heap
  have fA := flat_length A
  have fB := flat_length B
  rw [hA] at fA
  rw [hB] at fB
  have hl : (A ++ B).length = n := by simp; omega
  rw [hl] at hnc
  unfold maxLen at hm
  rw [flat_append] at hg hs
  have hsl : (flat A ++ flat B ++ S).length = cap * 2 := hs
  generalize hcur : (flat A ++ flat B ++ S).toArray = cur at hg
  have hcl : cur.toList = flat A ++ flat B ++ S := by rw [← hcur]
  have hsz : (Try.prog.info? 145).map (·.size) = some 2 := by rw [hi0]; simp [hzs]
  have hgl : g < w.heap.size := hO.lt
  have hvl : vb < w.heap.size := by
    rcases Nat.lt_or_ge vb w.heap.size with h' | h'
    · exact h'
    · rw [Array.getElem?_eq_none h'] at hv; cases hv
  -- the new row
  obtain ⟨G, hG⟩ : ∃ G, G = grownCap w (n + 1) cap 145 := ⟨_, rfl⟩
  have hGn : n + 1 ≤ G := by rw [hG]; exact grownCap_ge w _ _ _
  have hGm : G ≤ maxLen := by rw [hG]; exact grownCap_le_maxLen w (n + 1) cap 145 (by unfold maxLen; omega)
  obtain ⟨Z0, hZ0⟩ : ∃ Z0 : List Value, Z0 = (Builtin.zeroCells (Value.agg #[.int .i64 0, .int .i64 0]).cells (n + 1 - i)).toList ++ (Builtin.zeroCells (Value.agg #[.int .i64 0, .int .i64 0]).cells (G - (n + 1))).toList := ⟨_, rfl⟩
  have hZl : Z0.length = (G - i) * 2 := by
    rw [hZ0, List.length_append, Array.length_toList, Array.length_toList, size_zeroCells, size_zeroCells, show (Value.agg #[.int .i64 0, .int .i64 0]).cells.size = 2 from rfl]
    omega
  obtain ⟨W1, hW1⟩ : ∃ W1, W1 = w.drew.alloc (.cells (flat A ++ Z0).toArray 145) := ⟨_, rfl⟩
  have hkk : (n : Int) + 1 - (i : Int) = ((n + 1 - i : Nat) : Int) := by omega
  have hik : i + (n + 1 - i) = n + 1 := by omega
  have hold : (Builtin.firstCells i0.size i (.slice (some ⟨g, 0, none⟩) i cap)).run Try.prog w.drew = .ok (flat A).toArray w.drew := by
    rw [hzs]
    exact run_firstCells_some w.drew 2 i ⟨g, 0, none⟩ i cap (flat A) fA (fun j v hj => by
      have hjl := (List.getElem?_eq_some_iff.1 hj).1
      rw [Addr.add_lit, Nat.zero_add, show w.drew.cell? ⟨g, j, none⟩ = w.cell? ⟨g, j, none⟩ from rfl, cell_of_row w g _ cur _ _ hg, ← Array.getElem?_toList, hcl, List.append_assoc, List.getElem?_append_left hjl]
      exact hj)
  have hrz : ∀ ty, (Builtin.append_ #[146, 3] ty #[.slice (some ⟨g, 0, none⟩) i cap, .int .i64 ((n : Int) + 1 - (i : Int))]).run Try.prog w = .ok (.slice (some ⟨w.heap.size, 0, none⟩) (n + 1) G) W1 := fun ty => by
    have h := Lib.run_append_grow_zeros w 146 3 ty 145 i0 _ .i64 .i64 Try.underlying146 Try.underlying3 hi0 hz0 (some ⟨g, 0, none⟩) i cap (flat A) hold (n + 1 - i) (by omega) (by omega) (by omega) (by omega) (by rw [hzb]; omega) (by rw [hzb, hik]; exact growslice_fits hroom (by omega))
    rw [hik, ← hG] at h
    rw [hkk, h, hW1, hZ0]
    congr 3
    simp
  have g1 : W1.heap[w.heap.size]? = some (.cells (flat A ++ Z0).toArray 145 (0, 0)) := by rw [hW1]; exact heap_alloc_new w.drew _
  have ho1 : ∀ b, b < w.heap.size → W1.heap[b]? = w.heap[b]? := fun b hb => by rw [hW1]; exact heap_alloc_old w.drew _ hb
  have hv1 : W1.heap[vb]? = some (.cells #[.int .i64 a, .int .i64 k] 145 (0, 0)) := (ho1 vb hvl).trans hv
  -- the run that is put in
  have hcp2 : ∀ dc ty, (Builtin.copy_ #[146, 146] ty #[.slice (some ⟨w.heap.size, i * 2, none⟩) (n + 1 - i) dc, .slice (some ⟨vb, 0, none⟩) 1 1]).run Try.prog W1 = .ok (goInt 1) (W1.setRow w.heap.size (flat A ++ ([Value.int .i64 a, .int .i64 k] ++ Z0.drop 2)).toArray) := fun dc ty => by
    have h := run_copy_pairs (P := Try.prog) W1 146 146 ty 145 w.heap.size (i * 2) (n + 1 - i) dc ⟨vb, 0, none⟩ 1 1 1 _ _ [Value.int .i64 a, .int .i64 k] Try.underlying146 hsz g1 (by simp only [Nat.min_def]; split <;> omega) rfl (new_pair hv1) (by simp only [List.size_toArray, List.length_append, hZl, fA, List.length_cons, List.length_nil]; omega) (by intro u hu; simp at hu; rcases hu with rfl | rfl <;> rfl)
    rw [h]
    congr 3
    rw [show (flat A ++ Z0).toArray.toList = flat A ++ Z0 from rfl, List.take_append_of_le_length (by omega), List.take_of_length_le (by omega), drop2 _ _ _ _ fA, List.append_assoc]
    rfl
  obtain ⟨W2, hW2⟩ : ∃ W2, W2 = W1.setRow w.heap.size (flat A ++ ([Value.int .i64 a, .int .i64 k] ++ Z0.drop 2)).toArray := ⟨_, rfl⟩
  rw [← hW2] at hcp2
  have g2 : W2.heap[w.heap.size]? = some (.cells (flat A ++ ([Value.int .i64 a, .int .i64 k] ++ Z0.drop 2)).toArray 145 (0, 0)) := by rw [hW2]; exact setRow_heap W1 _ _ _ _ _ g1
  have ho2 : ∀ b, b < w.heap.size → W2.heap[b]? = w.heap[b]? := fun b hb => by rw [hW2]; exact (setRow_other W1 _ b _ (by omega)).trans (ho1 b hb)
  -- what stood behind it
  have hsrc : ∀ j u, (flat B)[j]? = some u → W2.drew.cell? ((⟨g, i * 2, none⟩ : Addr).add j) = some u := fun j u hj => by
    have hjl := (List.getElem?_eq_some_iff.1 hj).1
    rw [Addr.add_lit, show W2.drew.cell? ⟨g, i * 2 + j, none⟩ = W2.cell? ⟨g, i * 2 + j, none⟩ from rfl, cell_of_row W2 g _ cur _ _ ((ho2 g hgl).trans hg), ← Array.getElem?_toList, hcl, List.append_assoc, List.getElem?_append_right (by omega), fA, Nat.add_sub_cancel_left, List.getElem?_append_left hjl]
    exact hj
  have hcp3 : ∀ dc sc ty, (Builtin.copy_ #[146, 146] ty #[.slice (some ⟨w.heap.size, (i + 1) * 2, none⟩) (n - i) dc, .slice (some ⟨g, i * 2, none⟩) (n - i) sc]).run Try.prog W2.drew = .ok (goInt ((n - i : Nat) : Int)) (W2.drew.setRow w.heap.size (flat (A ++ (a, k) :: B) ++ Z0.drop (2 + (n - i) * 2)).toArray) := fun dc sc ty => by
    have h := run_copy_pairs (P := Try.prog) W2.drew 146 146 ty 145 w.heap.size ((i + 1) * 2) (n - i) dc ⟨g, i * 2, none⟩ (n - i) sc (n - i) _ _ (flat B) Try.underlying146 hsz g2 (Nat.min_self _) fB hsrc (by simp only [List.size_toArray, List.length_append, List.length_drop, hZl, fA, fB, List.length_cons, List.length_nil]; omega) (flat_one B)
    rw [h]
    congr 3
    rw [show (flat A ++ ([Value.int IntKind.i64 a, Value.int .i64 k] ++ Z0.drop 2)).toArray.toList = (flat A ++ [Value.int IntKind.i64 a, Value.int .i64 k]) ++ Z0.drop 2 by simp]
    rw [List.take_append_of_le_length (by simp [fA]; omega), List.take_of_length_le (by simp [fA]; omega), drop2 _ _ ((i + 1) * 2) _ (by simp [fA]; omega), List.drop_drop, fB, flat_append]
    simp [flat]
  obtain ⟨W3, hW3⟩ : ∃ W3, W3 = W2.drew.setRow w.heap.size (flat (A ++ (a, k) :: B) ++ Z0.drop (2 + (n - i) * 2)).toArray := ⟨_, rfl⟩
  rw [← hW3] at hcp3
  have hEnd : Laid w g n (A ++ (a, k) :: B) (.returned (.slice (some ⟨w.heap.size, 0, none⟩) (n + 1) G)) W3 := by
    refine ⟨w.heap.size, G, rfl, Own.mk (by rw [hW3]; exact setRow_heap W2.drew _ _ _ _ _ g2) ?_ hGm, ?_, Or.inr (Nat.le_refl _)⟩
    · rw [flat_append]
      simp [fA, fB, flat, hZl]
      omega
    · refine ⟨by rw [hW3, hW2, hW1]; rfl, by rw [hW3, hW2, hW1]; rfl, by rw [hW3, hW2, hW1]; rfl, by rw [hW3, hW2, hW1]; simp [World.setRow], fun b hb _ => ?_⟩
      rw [hW3]
      exact (setRow_other W2.drew _ b _ (by omega)).trans (ho2 b hb)
  have HE := Lib.hid hEnd
  have HR := Lib.hid hrz
  have hz2 : ¬ ((i : Int) = (n : Int)) := by omega
  have hz3 : (cap : Int) < (n : Int) + 1 := by omega
  have hw1 : IntKind.i64.wrap ((i : Int) + 1) = (i : Int) + 1 := by rw [IntKind.wrap_i64]; omega
  have hb1 : (0 : Int) ≤ (i : Int) + 1 := by omega
  have hin : i ≤ n := by omega
  have htn : ((i : Int) + 1).toNat = i + 1 := by omega
  have hGi : ¬ (G = i) := by omega
  have hGim : ¬ (G = i + 1) := by omega
  have hci : ¬ (cap = i) := by omega
  have hG63 : G ≤ 9223372036854775807 := by unfold maxLen at hGm; omega
  clear hrz hEnd hkk hik hold hZl hsrc ho1 ho2 g1 g2 hv1 hW1 hW2 hW3 hZ0 hcl hcur hsl hg hs hl fA fB hA hB hv hO hGm hG hsz
  generalize w.heap.size = H at HR hcp2 hcp3 HE hgl hvl
  go_enter Try.func96, Try.ntmps96
  go_wp2_with (at_builtin; refine Lib.wpList_append_run _ rfl _ _ 146 3 rfl _ _ rfl rfl _ _ (HR.out _) ?_)
  go_region_law (fail)
  go_wp2_with fail
  go_ret
  exact HE.out

/-- slices.Insert of one run. -/
theorem insert_any (w : World) (g cap i n vb : Nat) (A B : List (Int × Int)) (a k : Int) (hO : Own 145 w g cap (A ++ B)) (hA : A.length = i) (hB : B.length = n - i) (hi : i ≤ n) (hn : n ≤ 100000)
    (hv : w.heap[vb]? = some (.cells #[.int .i64 a, .int .i64 k] 145 (0, 0))) (hvg : vb ≠ g) :
    Calls Try.prog 96 #[.slice (some ⟨g, 0, none⟩) n cap, .int .i64 i, .slice (some ⟨vb, 0, none⟩) 1 1] w (Laid w g n (A ++ (a, k) :: B)) := by
  by_cases he : i = n
  · subst he
    obtain rfl : B = [] := List.eq_nil_of_length_eq_zero (by omega)
    rw [List.append_nil] at hO
    exact insert_end w g cap i vb A a k hO hA hn hv
  · by_cases hr : n < cap
    · exact insert_room w g cap i n vb A B a k hO hA hB (by omega) hr hn hv hvg
    · exact insert_grow w g cap i n vb A B a k hO hA hB (by omega) (by omega) hn hv

end Go.Proofs.Ytbjlpmjalidfkaa.Ex
