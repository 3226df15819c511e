/- Rows that are gathered, one behind the other; the ring's List. -/
import Derived.Test.YtbjlpmjalidfkaaRiI
import Derived.RangeFuncBox
import Derived.Maps.AppendAt
namespace Go.Proofs.Ytbjlpmjalidfkaa
open Go.RowKit Go.Shelf

attribute [local go_sem] Oper.semAt_some

/-- A SLICE OF ints, as it is read: its block lies between two bounds. -/
def Row (W : World) (lo hi : Nat) (v : Value) (l : List Int) : Prop :=
  ∃ ao cap, v = .slice ao l.length (l.length + cap) ∧ (0 < l.length → ∃ g, ao = some ⟨g, 0, none⟩ ∧ lo ≤ g ∧ g < hi ∧ ∀ i x, l[i]? = some x → W.cell? ⟨g, i, none⟩ = some (.int .i64 x))

theorem Row.same {W W' : World} {lo hi : Nat} {v : Value} {l : List Int} (h : Row W lo hi v l) (hk : ∀ b o, lo ≤ b → b < hi → W.heap[b]? = some o → o.isCells = true → W'.heap[b]? = some o) : Row W' lo hi v l := by
  obtain ⟨ao, cap, rfl, hc⟩ := h
  refine ⟨ao, cap, rfl, fun h0 => ?_⟩
  obtain ⟨g, e, h1, h2, h3⟩ := hc h0
  refine ⟨g, e, h1, h2, fun i x hx => ?_⟩
  obtain ⟨o, ho, hoc⟩ := cells_of_cell (h3 i x hx)
  exact (World.cell?_of_block (w := W) ((hk g o h1 h2 ho hoc).trans ho.symm)).trans (h3 i x hx)
theorem Row.below {W W' : World} {lo hi B : Nat} {v : Value} {l : List Int} (h : Row W lo hi v l) (hb : Below B W W') (hB : hi ≤ B) : Row W' lo hi v l :=
  h.same fun b o _ h2 ho _ => (hb.block b (by omega)).trans ho
theorem Row.mono {W : World} {lo hi lo' hi' : Nat} {v : Value} {l : List Int} (h : Row W lo hi v l) (h1 : lo' ≤ lo) (h2 : hi ≤ hi') : Row W lo' hi' v l := by
  obtain ⟨ao, cap, rfl, hc⟩ := h
  refine ⟨ao, cap, rfl, fun h0 => ?_⟩
  obtain ⟨g, e, a1, a2, a3⟩ := hc h0
  exact ⟨g, e, by omega, by omega, a3⟩
theorem Row.of_own {W : World} {lo : Nat} {v : Value} {l : List Int} {n : Nat} (h : W.ownsRow lo 3 1 v n (l.map (.int .i64))) : Row W lo W.heap.size v l := by
  have hn : l.length = n := by simpa using h.1
  rcases h.2 with ⟨rfl, h0⟩ | ⟨g, cap, cur, rfl, hg, hb, hcap, _⟩
  · exact ⟨none, 0, by rw [hn, h0], fun h => by omega⟩
  · refine ⟨some ⟨g, 0, none⟩, cap - n, by rw [hn, Nat.add_sub_cancel' hcap], fun _ => ⟨g, rfl, hg, (Array.getElem?_eq_some_iff.1 hb).1, fun i x hx => ?_⟩⟩
    have := h.cells rfl i (.int .i64 x) (by simp [hx])
    rw [Addr.add_lit] at this
    simpa using this

/-- Rows that are gathered: those up to one colour are whole; that one's grows; the others are nil. -/
structure Gath (lo B c M : Nat) (v : Nat → Value) (l : Nat → List Int) (W : World) : Prop where
  cell : ∀ k, k < 4 → W.cell? ⟨B, k, none⟩ = some (v k)
  fz : ∀ k, W.frozen? ⟨B, k, none⟩ = false
  old : ∀ k, k < c → Row W (B + 1) M (v k) (l k)
  cur : W.ownsRow M 3 1 (v c) (l c).length ((l c).map (.int .i64))
  new : ∀ k, c < k → v k = .slice none 0 0 ∧ l k = []
  lB : lo ≤ B
  BM : B < M
  MW : M ≤ W.heap.size

section
variable {lo B c M : Nat} {v : Nat → Value} {l : Nat → List Int} {W W' : World}

theorem Gath.same (h : Gath lo B c M v l W) (hs : W.heap.size ≤ W'.heap.size) (hk : ∀ b o, lo ≤ b → W.heap[b]? = some o → o.isCells = true → W'.heap[b]? = some o) : Gath lo B c M v l W' := by
  obtain ⟨o, ho, hoc⟩ := cells_of_cell (h.cell 0 (by decide))
  have hB : W'.heap[B]? = W.heap[B]? := (hk B o h.lB ho hoc).trans ho.symm
  refine ⟨fun k hk' => (World.cell?_of_block (w := W) hB).trans (h.cell k hk'), fun k => (World.frozen?_of_block (w := W) hB).trans (h.fz k), fun k hk' => (h.old k hk').same fun b o h1 _ h3 h4 => hk b o (by have := h.lB; omega) h3 h4, ?_, h.new, h.lB, h.BM, Nat.le_trans h.MW hs⟩
  refine ⟨h.cur.1, ?_⟩
  rcases h.cur.2 with h1 | ⟨g, cap, cur, e, hg, hb, hr⟩
  · exact Or.inl h1
  · exact Or.inr ⟨g, cap, cur, e, hg, hk g _ (by have := h.lB; have := h.BM; omega) hb rfl, hr⟩

/-- Another colour's turn. -/
theorem Gath.turn (h : Gath lo B c M v l W) {d : Nat} (hd : c < d) : Gath lo B d W.heap.size v l W := by
  refine ⟨h.cell, h.fz, fun k hk => ?_, ?_, fun k hk => h.new k (by omega), h.lB, Nat.lt_of_lt_of_le h.BM h.MW, Nat.le_refl _⟩
  · rcases Nat.lt_trichotomy k c with h1 | h1 | h1
    · exact (h.old k h1).mono (Nat.le_refl _) h.MW
    · subst h1
      exact (Row.of_own h.cur).mono (by have := h.BM; omega) (Nat.le_refl _)
    · obtain ⟨e1, e2⟩ := h.new k h1
      rw [e1, e2]
      exact ⟨none, 0, rfl, fun h => absurd h (by simp)⟩
  · obtain ⟨e1, e2⟩ := h.new d hd
    rw [e1, e2]
    exact World.ownsRow_nil _ _ _ _

theorem Gath.to (h : Gath lo B c M v l W) {d : Nat} (hd : c ≤ d) : ∃ M', M ≤ M' ∧ Gath lo B d M' v l W := by
  rcases Nat.lt_or_eq_of_le hd with h1 | h1
  · exact ⟨_, h.MW, h.turn h1⟩
  · subst h1
    exact ⟨M, Nat.le_refl _, h⟩

theorem Gath.all (h : Gath lo B c M v l W) (k : Nat) : Row W (B + 1) W.heap.size (v k) (l k) := by
  rcases Nat.lt_trichotomy k c with h1 | h1 | h1
  · exact (h.old k h1).mono (Nat.le_refl _) h.MW
  · subst h1
    exact (Row.of_own h.cur).mono (by have := h.BM; omega) (Nat.le_refl _)
  · obtain ⟨e1, e2⟩ := h.new k h1
    rw [e1, e2]
    exact ⟨none, 0, rfl, fun h => absurd h (by simp)⟩

/-- One more of that colour, behind an append and a store. -/
theorem Gath.put (h : Gath lo B c M v l W) (hc : c < 4) {x : Int} {tmp : Obj} {v' : Value} {w1 : World} {n : Nat} (hown : w1.ownsRow M 3 1 v' n ((l c).map (.int .i64) ++ [.int .i64 x])) (hgr : (W.alloc tmp).grownBy w1 (v c).ownBlock) :
    Gath lo B c M (fun k => if k = c then v' else v k) (fun k => if k = c then l k ++ [x] else l k) (w1.setCell ⟨B, c, none⟩ v') ∧ KeepsOthers W (w1.setCell ⟨B, c, none⟩ v') ∧ Below lo W (w1.setCell ⟨B, c, none⟩ v') ∧ (∀ k, k < 4 → w1.cell? ⟨B, k, none⟩ = some (v k)) ∧ (∀ k, w1.frozen? ⟨B, k, none⟩ = false) ∧ (∀ b, b < M → b ≠ B → (w1.setCell ⟨B, c, none⟩ v').heap[b]? = W.heap[b]?) := by
  have hMW := h.MW
  have hBM := h.BM
  have hlB := h.lB
  have hs := hgr.size
  simp only [World.size_alloc] at hs
  have hrow : ∀ j, (v c).ownBlock = some j → M ≤ j := fun j e => (h.cur.lt j e).1
  have keep : ∀ b, b < M → w1.heap[b]? = W.heap[b]? := fun b hb => by
    refine (hgr.block b (by simp; omega) fun e => ?_).trans (Below.heap_alloc _ _ _ (by omega))
    have := hrow b e.symm
    omega
  have hB1 : w1.heap[B]? = W.heap[B]? := keep B hBM
  have hc1 : ∀ k, k < 4 → w1.cell? ⟨B, k, none⟩ = some (v k) := fun k hk => (World.cell?_of_block (w := W) hB1).trans (h.cell k hk)
  have hf1 : ∀ k, w1.frozen? ⟨B, k, none⟩ = false := fun k => (World.frozen?_of_block (w := W) hB1).trans (h.fz k)
  refine ⟨⟨fun k hk => ?_, fun k => (World.frozen?_setCell _ _ _ _).trans (hf1 k), fun k hk => ?_, ?_, fun k hk => ?_, h.lB, h.BM, by simp [World.setCell]; omega⟩, ?_, ?_, hc1, hf1, fun b h1 h2 => (Below.heap_setCell _ _ _ _ h2).trans (keep b h1)⟩
  · by_cases e : k = c
    · subst e
      simp only [if_true]
      exact World.cell?_setCell_same _ _ _ (hc1 k hk)
    · simp only [e, if_false]
      exact (World.cell?_setCell_other _ _ _ _ (by simp)).trans (hc1 k hk)
  · have e : ¬ k = c := by omega
    simp only [e, if_false]
    refine (h.old k hk).same fun b o h1 h2 h3 _ => ?_
    exact (Below.heap_setCell _ _ _ _ (by simp only; omega)).trans ((keep b h2).trans h3)
  · simp only [if_true]
    have hl : n = ((l c) ++ [x]).length := by
      have := hown.1
      simp at this ⊢
      omega
    have he : (l c ++ [x]).map (Value.int .i64) = (l c).map (.int .i64) ++ [.int .i64 x] := by simp
    rw [he, ← hl]
    refine ⟨hown.1, ?_⟩
    rcases hown.2 with h1 | ⟨g, cap, cur, e, hg, hb, hr⟩
    · exact Or.inl h1
    · exact Or.inr ⟨g, cap, cur, e, hg, (Below.heap_setCell _ _ _ _ (by simp only; omega)).trans hb, hr⟩
  · have e : ¬ k = c := by omega
    simp only [e, if_false]
    exact h.new k hk
  · refine ((KeepsOthers.alloc W tmp).trans (KeepsOthers.of_grownBy hgr fun j o ej hj => ?_)).trans (KeepsOthers.setCell _ _ _)
    rcases (h.cur.alloc tmp).2 with ⟨e, _⟩ | ⟨g, cap, cur, e, _, hgb, _⟩
    · rw [e] at ej
      simp [Value.ownBlock] at ej
    · rw [e] at ej
      obtain rfl : g = j := by simpa [Value.ownBlock] using ej
      rw [hgb] at hj
      cases hj
      rfl
  · refine (((Below.refl lo W).alloc (by omega) tmp).grown hgr (by simp; omega) fun j ej => ?_).setCell (by simp only; omega) v'
    have := hrow j ej
    omega
end

theorem Try.info_int : (Try.prog.info? 3).map (fun i => (i.zero, i.size, i.bytes)) = some (some (.int .i64 0), 1, 8) := by kernel_rfl

/-- Of pairs, the cells of one row. -/
def pick (k : Nat) (pre : List (Int × Int)) : List Int := (pre.filter fun x => decide (x.1 = (k : Int))).map Prod.snd
theorem pick_hit {k : Nat} {pre : List (Int × Int)} {x : Int × Int} (h : x.1 = k) : pick k (pre ++ [x]) = pick k pre ++ [x.2] := by simp [pick, h]
theorem pick_miss {k : Nat} {pre : List (Int × Int)} {x : Int × Int} (h : ¬ x.1 = k) : pick k (pre ++ [x]) = pick k pre := by simp [pick, h]
theorem pick_tag (k : Nat) (i : Int) (l : List Int) : pick k (tag i l) = if i = (k : Int) then l else [] := by
  unfold pick tag
  rw [List.filter_map]
  by_cases e : i = (k : Int)
  · subst e
    simp [List.map_map, Function.comp_def]
  · simp [e]
theorem pick_append (k : Nat) (a b : List (Int × Int)) : pick k (a ++ b) = pick k a ++ pick k b := by simp [pick]
theorem pick_pairs (R : Rows) (k : Nat) (h : k < 4) : pick k R.pairs = R.row k := by
  show pick k (tag 0 R.white ++ (tag 1 R.frm ++ (tag 2 R.grey ++ tag 3 R.black))) = _
  rw [pick_append, pick_append, pick_append, pick_tag, pick_tag, pick_tag, pick_tag]
  obtain rfl | rfl | rfl | rfl : k = 0 ∨ k = 1 ∨ k = 2 ∨ k = 3 := by omega
  all_goals simp [Rows.row]

/-- The colours rise. -/
theorem pairs_rise (R : Rows) : R.pairs.Pairwise fun a b => a.1 ≤ b.1 := by
  have hl : ∀ (i : Int) (l : List Int), (tag i l).Pairwise fun a b => a.1 ≤ b.1 := fun i l => by
    unfold tag
    rw [List.pairwise_map]
    exact List.pairwise_of_forall (fun _ _ => Int.le_refl _)
  have hm : ∀ {i : Int} {l : List Int} {x : Int × Int}, x ∈ tag i l → x.1 = i := fun h => by
    obtain ⟨c, _, rfl⟩ := List.mem_map.1 h
    rfl
  show List.Pairwise _ (tag 0 R.white ++ (tag 1 R.frm ++ (tag 2 R.grey ++ tag 3 R.black)))
  rw [List.pairwise_append, List.pairwise_append, List.pairwise_append]
  refine ⟨hl _ _, ⟨hl _ _, ⟨hl _ _, hl _ _, ?_⟩, ?_⟩, ?_⟩
  · intro a ha b hb
    rw [hm ha, hm hb]
    decide
  · intro a ha b hb
    rcases List.mem_append.1 hb with hb | hb <;> rw [hm ha, hm hb] <;> decide
  · intro a ha b hb
    rcases List.mem_append.1 hb with hb | hb
    · rw [hm ha, hm hb]; decide
    · rcases List.mem_append.1 hb with hb | hb <;> rw [hm ha, hm hb] <;> decide
theorem pairs_colour (R : Rows) {x : Int × Int} (h : x ∈ R.pairs) : ∃ k : Nat, k < 4 ∧ x.1 = k := by
  have hm : ∀ {i : Int} {l : List Int}, x ∈ tag i l → x.1 = i := fun h => by
    obtain ⟨c, _, rfl⟩ := List.mem_map.1 h
    rfl
  unfold Rows.pairs Rows.on at h
  simp only [List.mem_append] at h
  rcases h with h | h | h | h
  · exact ⟨0, by decide, hm h⟩
  · exact ⟨1, by decide, hm h⟩
  · exact ⟨2, by decide, hm h⟩
  · exact ⟨3, by decide, hm h⟩

section
variable {s : Spot} {C F D : Nat → Int} {W W' : World}
/-- A ring lies on where its blocks do. -/
theorem Lies.same (h : Lies s C F D W) (hs : W.heap.size ≤ W'.heap.size) (hk : ∀ b, b = s.r ∨ b = s.p ∨ b = s.d ∨ b = s.a1 ∨ b = s.n1 ∨ b = s.a2 ∨ b = s.n2 → W'.heap[b]? = W.heap[b]?) : Lies s C F D W' := by
  have c : ∀ (b j : Nat) (x : Value), (b = s.r ∨ b = s.p ∨ b = s.d ∨ b = s.a1 ∨ b = s.n1 ∨ b = s.a2 ∨ b = s.n2) → W.cell? ⟨b, j, none⟩ = some x → W'.cell? ⟨b, j, none⟩ = some x := fun b j x hb hx => (World.cell?_of_block (w := W) (hk b hb)).trans hx
  obtain ⟨u, hu⟩ := h.words
  exact ⟨c _ _ _ (by simp) h.arena, c _ _ _ (by simp) h.nof, c _ _ _ (by simp) h.nset, c _ _ _ (by simp) h.lof, c _ _ _ (by simp) h.lset, fun k hk' => c _ _ _ (by simp) (h.count k hk'), fun k hk' => c _ _ _ (by simp) (h.first k hk'),
    fun j => (World.frozen?_of_block (w := W) (hk s.r (by simp))).trans (h.fz j), c _ _ _ (by simp) h.ba1, c _ _ _ (by simp) h.bn1, c _ _ _ (by simp) h.ba2, c _ _ _ (by simp) h.bn2,
    ⟨u, hu.move (hk s.p (by simp)) (hk s.d (by simp)) hs⟩, h.nb, h.rp, h.rd, h.a1', h.n1', h.a2', h.n2'⟩
/-- All that a ring leans on lies below. -/
def Spot.under (s : Spot) (B : Nat) : Prop := s.r < B ∧ s.p < B ∧ s.d < B ∧ s.a1 < B ∧ s.n1 < B ∧ s.a2 < B ∧ s.n2 < B
theorem Lies.under (h : Lies s C F D W) : s.under W.heap.size :=
  ⟨h.lr, h.lp, h.ld, World.block_lt_of_cell? _ _ h.ba1, World.block_lt_of_cell? _ _ h.bn1, World.block_lt_of_cell? _ _ h.ba2, World.block_lt_of_cell? _ _ h.bn2⟩
theorem Lies.below (h : Lies s C F D W) {B : Nat} (hu : s.under B) (hb : Below B W W') : Lies s C F D W' := by
  obtain ⟨h1, h2, h3, h4, h5, h6, h7⟩ := hu
  refine h.same hb.size fun b e => hb.block b ?_
  rcases e with rfl | rfl | rfl | rfl | rfl | rfl | rfl <;> assumption
end

end Go.Proofs.Ytbjlpmjalidfkaa
