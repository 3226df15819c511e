import Derived.Deep.AppendLies
import Derived.Deep.RegionLaw
import Derived.Test.YthliahaopelooaaMg2
import Derived.Test.YthliahaopelooaaMg8
/- One more in a list of the law's world. -/
namespace Go.Proofs.Ythliahaopelooaa
open Go.RowKit
section
variable {Kx : Nat → Prop} {S : LSp} {m : LM} {u : Int} {x : HSpot} {T : Nat → Nat} {D : Nat → Int} {R : Nat → Rows} {top : Int} {L : List (Int × Int)} {G : Nat → Nat} {vk vw vm vs : Value} {W W1 W2 : World}
/-- keys. -/
theorem Lx.push_keys (h : Lx Kx S m u x T D R top L G vk vw vm vs W) (hb : Below W.heap.size W W1) {g cap : Nat} {c : Int} (o1 : W2.ownsRow 0 3 1 (.slice (some ⟨g, 0, none⟩) (m.keys.length + 1) cap) (m.keys.length + 1) ((m.keys.map (.int .i64)) ++ [.int .i64 c])) (o2 : W1.grownBy W2 vk.ownBlock) (o3 : vk.ownBlock = some g ∨ g = W1.heap.size) :
    Lm Kx S { m with keys := m.keys ++ [c] } u (W2.setCell ⟨S.wb, 3, none⟩ (.slice (some ⟨g, 0, none⟩) (m.keys.length + 1) cap)) ∧ Kp Kx W (W2.setCell ⟨S.wb, 3, none⟩ (.slice (some ⟨g, 0, none⟩) (m.keys.length + 1) cap)) := by
  have hg : ((.slice (some ⟨g, 0, none⟩) (m.keys.length + 1) cap) : Value).ownBlock = some g := rfl
  have lg := (o1.lt g hg).2
  have s1 := hb.size
  have s2 := o2.size
  have gcase : G g = 6 ∨ W.heap.size ≤ g := by
    rcases o3 with e | e
    · exact Or.inl (h.ll.gk g e)
    · exact Or.inr (by omega)
  have ne : ∀ b, b < W.heap.size → G b ≠ 6 → b ≠ g := fun b hl hb e => by
    subst e
    rcases gcase with e | e <;> omega
  have hk : ∀ b, b < W.heap.size → G b ≠ 6 → b ≠ S.wb → (W2.setCell ⟨S.wb, 3, none⟩ (.slice (some ⟨g, 0, none⟩) (m.keys.length + 1) cap)).heap[b]? = W.heap[b]? := fun b hl h6 h1 =>
    (Below.heap_setCell _ _ _ _ h1).trans ((o2.block b (by omega) (fun e => h6 (h.ll.gk b e.symm))).trans (hb.block b hl))
  have sz : (W2.setCell ⟨S.wb, 3, none⟩ (.slice (some ⟨g, 0, none⟩) (m.keys.length + 1) cap)).heap.size = W2.heap.size := by simp [World.setCell]
  have lwb := (h.gt S.wb (by rw [h.ll.g1]; decide))
  have hwb : ∀ (j : Nat) (v' : Value), j ≠ 3 → W.cell? ⟨S.wb, j, none⟩ = some v' → (W2.setCell ⟨S.wb, 3, none⟩ (.slice (some ⟨g, 0, none⟩) (m.keys.length + 1) cap)).cell? ⟨S.wb, j, none⟩ = some v' := fun j v' hj hv => by
    refine (World.cell?_setCell_other _ _ _ _ (fun e => hj (by cases e; rfl))).trans ?_
    exact (World.cell?_of_block (w := W1) (o2.block S.wb (by omega) (fun e => by have := h.ll.gk _ e.symm; have := h.ll.g1; omega))).trans (later' hb hv)
  have hwf : ∀ j, W2.frozen? ⟨S.wb, j, none⟩ = W.frozen? ⟨S.wb, j, none⟩ := fun j =>
    (World.frozen?_of_block (w := W1) (o2.block S.wb (by omega) (fun e => by have := h.ll.gk _ e.symm; have := h.ll.g1; omega))).trans (World.frozen?_of_block (w := W) (hb.block _ lwb.2.1))
  have hw2 : W2.cell? ⟨S.wb, 3, none⟩ = some vk := (World.cell?_of_block (w := W1) (o2.block S.wb (by omega) (fun e => by have := h.ll.gk _ e.symm; have := h.ll.g1; omega))).trans (later' hb h.ll.a1.k)
  have tg : T g = 1000 := by
    rcases gcase with e | e
    · exact (h.gt g (by omega)).2.2
    · exact h.hi g e
  have hheap : ∀ b, b < W.heap.size → T b ≠ 1000 → (W2.setCell ⟨S.wb, 3, none⟩ (.slice (some ⟨g, 0, none⟩) (m.keys.length + 1) cap)).heap[b]? = W.heap[b]? := fun b hl ht => hk b hl (fun e => ht (h.gt b (by omega)).2.2) (fun e => ht (by rw [e]; exact lwb.2.2))
  obtain ⟨cb, cp, gg, htg, -⟩ := h.ha.1.rest
  have hl : HLies x T D R top m.par L (W2.setCell ⟨S.wb, 3, none⟩ (.slice (some ⟨g, 0, none⟩) (m.keys.length + 1) cap)) := h.ha.1.butw hheap (by omega)
  have hA : At (W2.setCell ⟨S.wb, 3, none⟩ (.slice (some ⟨g, 0, none⟩) (m.keys.length + 1) cap)) x.p x.d x.n D u := h.ha.2.move (hheap _ h.ha.2.lp (by rw [htg.p]; omega)) (hheap _ h.ha.2.ld (by rw [htg.d]; omega)) (by omega)
  have gw : ∀ b, G b ≠ 0 → G b ≠ 1 → G b ≠ 6 → (W2.setCell ⟨S.wb, 3, none⟩ (.slice (some ⟨g, 0, none⟩) (m.keys.length + 1) cap)).heap[b]? = W.heap[b]? := fun b h0 h1 h6 => hk b (h.gt b h0).2.1 h6 (fun e => h1 (by rw [e]; exact h.ll.g1))
  have gk : ∀ b t, G b = t → t ≠ 0 → t ≠ 1 → t ≠ 6 → (W2.setCell ⟨S.wb, 3, none⟩ (.slice (some ⟨g, 0, none⟩) (m.keys.length + 1) cap)).heap[b]? = W.heap[b]? := fun b t hb h0 h1 h6 => gw b (by omega) (by omega) (by omega)
  have G' : ∀ b t, G b = t → t ≠ 0 → t ≠ 6 → (if b = g then 6 else G b) = t := fun b t hb h0 h6 => by rw [if_neg (ne b (h.gt b (by omega)).2.1 (by omega))]; exact hb
  have own : (W2.setCell ⟨S.wb, 3, none⟩ (.slice (some ⟨g, 0, none⟩) (m.keys.length + 1) cap)).heap[g]? = W2.heap[g]? := Below.heap_setCell _ _ _ _ (show g ≠ S.wb from fun e => by
    rw [e] at gcase
    have := h.ll.g1
    have := lwb.2.1
    rcases gcase with e2 | e2 <;> omega)
  have a3 := h.ll.a3.same (gk _ 3 h.ll.g3 (by decide) (by decide) (by decide))
  refine ⟨⟨x, T, D, R, top, L, fun b => if b = g then 6 else G b, (.slice (some ⟨g, 0, none⟩) (m.keys.length + 1) cap), vw, vm, vs, h.xh, ⟨hl, hA⟩, h.hp, ⟨G' _ 1 h.ll.g1 (by decide) (by decide), G' _ 2 h.ll.g2 (by decide) (by decide), G' _ 3 h.ll.g3 (by decide) (by decide), G' _ 4 h.ll.g4 (by decide) (by decide), G' _ 5 h.ll.g5 (by decide) (by decide), ?_, (World.cell?_of_block (w := W) (gk _ 2 h.ll.g2 (by decide) (by decide) (by decide))).trans h.ll.a2, ⟨a3.h, a3.s, a3.fi, a3.a, a3.nx, a3.qu, a3.la, a3.cn, a3.fz⟩, h.ll.a4.same (gk _ 4 h.ll.g4 (by decide) (by decide) (by decide)), ?_, ?_, ?_, ?_, ?_, ?_, ?_, ?_, ?_⟩, fun b hb => by have := h.bs b hb; omega, fun b hb => h.hi b (by omega), h.lo, fun b hb => ?_⟩, o2.os.trans hb.os, o2.tape.trans hb.tape, o2.output.trans hb.output, by omega, fun b hb => ?_⟩
  · exact ⟨hwb 0 _ (by decide) h.ll.a1.h, hwb 1 _ (by decide) h.ll.a1.t, hwb 2 _ (by decide) h.ll.a1.m, World.cell?_setCell_same _ _ _ hw2, hwb 4 _ (by decide) h.ll.a1.w, hwb 5 _ (by decide) h.ll.a1.d, hwb 6 _ (by decide) h.ll.a1.s, fun j => (World.frozen?_setCell _ _ _ _).trans ((hwf j).trans (h.ll.a1.fz j))⟩
  · obtain ⟨⟨v1, c1, d1⟩, ⟨v2, c2, d2⟩, ⟨v3, c3, d3⟩, fz⟩ := h.ll.a5.same (W' := W2.setCell ⟨S.wb, 3, none⟩ (.slice (some ⟨g, 0, none⟩) (m.keys.length + 1) cap)) (fun b hb => by
      rcases hb with rfl | hb
      · exact gk _ 5 h.ll.g5 (by decide) (by decide) (by decide)
      · exact gk _ 10 hb (by decide) (by decide) (by decide))
    have tr : ∀ v l, DR G (W2.setCell ⟨S.wb, 3, none⟩ (.slice (some ⟨g, 0, none⟩) (m.keys.length + 1) cap)) v l → DR (fun b => if b = g then 6 else G b) (W2.setCell ⟨S.wb, 3, none⟩ (.slice (some ⟨g, 0, none⟩) (m.keys.length + 1) cap)) v l := fun v l hd => by
      obtain ⟨ao, cp2, e1, e2, e3⟩ := hd
      refine ⟨ao, cp2, e1, e2, fun h0 => ?_⟩
      obtain ⟨q, off, e4, e5, e6⟩ := e3 h0
      exact ⟨q, off, e4, G' q 10 e5 (by decide) (by decide), e6⟩
    exact ⟨⟨v1, c1, tr _ _ d1⟩, ⟨v2, c2, tr _ _ d2⟩, ⟨v3, c3, tr _ _ d3⟩, fz⟩
  · have := own_samew o1 (W' := W2.setCell ⟨S.wb, 3, none⟩ (.slice (some ⟨g, 0, none⟩) (m.keys.length + 1) cap)) (fun q hq => by cases hq; exact own)
    show Rw 0 _ _ (m.keys ++ [c])
    unfold Rw
    simpa using this
  · exact h.ll.w.same fun q hq => gk _ 7 (h.ll.gw q hq) (by decide) (by decide) (by decide)
  · exact h.ll.d.same fun q hq => gk _ 8 (h.ll.gd q hq) (by decide) (by decide) (by decide)
  · exact h.ll.s.same fun q hq => gk _ 9 (h.ll.gs q hq) (by decide) (by decide) (by decide)
  · intro q hq
    cases hq
    exact if_pos rfl
  · exact fun q hq => G' q 7 (h.ll.gw q hq) (by decide) (by decide)
  · exact fun q hq => G' q 8 (h.ll.gd q hq) (by decide) (by decide)
  · exact fun q hq => G' q 9 (h.ll.gs q hq) (by decide) (by decide)
  · by_cases e : b = g
    · subst e
      refine ⟨fun e => ?_, by omega, tg⟩
      rcases gcase with e2 | e2
      · exact (h.gt b (by omega)).1 e
      · have := h.bs b e
        omega
    · have hb2 : G b ≠ 0 := by simpa only [if_neg e] using hb
      have := h.gt b hb2
      exact ⟨this.1, by omega, this.2.2⟩
  · have hl := h.bs b hb
    exact hk b hl (fun e => (h.gt b (by omega)).1 hb) (fun e => lwb.1 (e ▸ hb))
/-- weaks. -/
theorem Lx.push_weaks (h : Lx Kx S m u x T D R top L G vk vw vm vs W) (hb : Below W.heap.size W W1) {g cap : Nat} {c : Int} (o1 : W2.ownsRow 0 3 1 (.slice (some ⟨g, 0, none⟩) (m.weaks.length + 1) cap) (m.weaks.length + 1) ((m.weaks.map (.int .i64)) ++ [.int .i64 c])) (o2 : W1.grownBy W2 vw.ownBlock) (o3 : vw.ownBlock = some g ∨ g = W1.heap.size) :
    Lm Kx S { m with weaks := m.weaks ++ [c] } u (W2.setCell ⟨S.wb, 4, none⟩ (.slice (some ⟨g, 0, none⟩) (m.weaks.length + 1) cap)) ∧ Kp Kx W (W2.setCell ⟨S.wb, 4, none⟩ (.slice (some ⟨g, 0, none⟩) (m.weaks.length + 1) cap)) := by
  have hg : ((.slice (some ⟨g, 0, none⟩) (m.weaks.length + 1) cap) : Value).ownBlock = some g := rfl
  have lg := (o1.lt g hg).2
  have s1 := hb.size
  have s2 := o2.size
  have gcase : G g = 7 ∨ W.heap.size ≤ g := by
    rcases o3 with e | e
    · exact Or.inl (h.ll.gw g e)
    · exact Or.inr (by omega)
  have ne : ∀ b, b < W.heap.size → G b ≠ 7 → b ≠ g := fun b hl hb e => by
    subst e
    rcases gcase with e | e <;> omega
  have hk : ∀ b, b < W.heap.size → G b ≠ 7 → b ≠ S.wb → (W2.setCell ⟨S.wb, 4, none⟩ (.slice (some ⟨g, 0, none⟩) (m.weaks.length + 1) cap)).heap[b]? = W.heap[b]? := fun b hl h6 h1 =>
    (Below.heap_setCell _ _ _ _ h1).trans ((o2.block b (by omega) (fun e => h6 (h.ll.gw b e.symm))).trans (hb.block b hl))
  have sz : (W2.setCell ⟨S.wb, 4, none⟩ (.slice (some ⟨g, 0, none⟩) (m.weaks.length + 1) cap)).heap.size = W2.heap.size := by simp [World.setCell]
  have lwb := (h.gt S.wb (by rw [h.ll.g1]; decide))
  have hwb : ∀ (j : Nat) (v' : Value), j ≠ 4 → W.cell? ⟨S.wb, j, none⟩ = some v' → (W2.setCell ⟨S.wb, 4, none⟩ (.slice (some ⟨g, 0, none⟩) (m.weaks.length + 1) cap)).cell? ⟨S.wb, j, none⟩ = some v' := fun j v' hj hv => by
    refine (World.cell?_setCell_other _ _ _ _ (fun e => hj (by cases e; rfl))).trans ?_
    exact (World.cell?_of_block (w := W1) (o2.block S.wb (by omega) (fun e => by have := h.ll.gw _ e.symm; have := h.ll.g1; omega))).trans (later' hb hv)
  have hwf : ∀ j, W2.frozen? ⟨S.wb, j, none⟩ = W.frozen? ⟨S.wb, j, none⟩ := fun j =>
    (World.frozen?_of_block (w := W1) (o2.block S.wb (by omega) (fun e => by have := h.ll.gw _ e.symm; have := h.ll.g1; omega))).trans (World.frozen?_of_block (w := W) (hb.block _ lwb.2.1))
  have hw2 : W2.cell? ⟨S.wb, 4, none⟩ = some vw := (World.cell?_of_block (w := W1) (o2.block S.wb (by omega) (fun e => by have := h.ll.gw _ e.symm; have := h.ll.g1; omega))).trans (later' hb h.ll.a1.w)
  have tg : T g = 1000 := by
    rcases gcase with e | e
    · exact (h.gt g (by omega)).2.2
    · exact h.hi g e
  have hheap : ∀ b, b < W.heap.size → T b ≠ 1000 → (W2.setCell ⟨S.wb, 4, none⟩ (.slice (some ⟨g, 0, none⟩) (m.weaks.length + 1) cap)).heap[b]? = W.heap[b]? := fun b hl ht => hk b hl (fun e => ht (h.gt b (by omega)).2.2) (fun e => ht (by rw [e]; exact lwb.2.2))
  obtain ⟨cb, cp, gg, htg, -⟩ := h.ha.1.rest
  have hl : HLies x T D R top m.par L (W2.setCell ⟨S.wb, 4, none⟩ (.slice (some ⟨g, 0, none⟩) (m.weaks.length + 1) cap)) := h.ha.1.butw hheap (by omega)
  have hA : At (W2.setCell ⟨S.wb, 4, none⟩ (.slice (some ⟨g, 0, none⟩) (m.weaks.length + 1) cap)) x.p x.d x.n D u := h.ha.2.move (hheap _ h.ha.2.lp (by rw [htg.p]; omega)) (hheap _ h.ha.2.ld (by rw [htg.d]; omega)) (by omega)
  have gw : ∀ b, G b ≠ 0 → G b ≠ 1 → G b ≠ 7 → (W2.setCell ⟨S.wb, 4, none⟩ (.slice (some ⟨g, 0, none⟩) (m.weaks.length + 1) cap)).heap[b]? = W.heap[b]? := fun b h0 h1 h6 => hk b (h.gt b h0).2.1 h6 (fun e => h1 (by rw [e]; exact h.ll.g1))
  have gk : ∀ b t, G b = t → t ≠ 0 → t ≠ 1 → t ≠ 7 → (W2.setCell ⟨S.wb, 4, none⟩ (.slice (some ⟨g, 0, none⟩) (m.weaks.length + 1) cap)).heap[b]? = W.heap[b]? := fun b t hb h0 h1 h6 => gw b (by omega) (by omega) (by omega)
  have G' : ∀ b t, G b = t → t ≠ 0 → t ≠ 7 → (if b = g then 7 else G b) = t := fun b t hb h0 h6 => by rw [if_neg (ne b (h.gt b (by omega)).2.1 (by omega))]; exact hb
  have own : (W2.setCell ⟨S.wb, 4, none⟩ (.slice (some ⟨g, 0, none⟩) (m.weaks.length + 1) cap)).heap[g]? = W2.heap[g]? := Below.heap_setCell _ _ _ _ (show g ≠ S.wb from fun e => by
    rw [e] at gcase
    have := h.ll.g1
    have := lwb.2.1
    rcases gcase with e2 | e2 <;> omega)
  have a3 := h.ll.a3.same (gk _ 3 h.ll.g3 (by decide) (by decide) (by decide))
  refine ⟨⟨x, T, D, R, top, L, fun b => if b = g then 7 else G b, vk, (.slice (some ⟨g, 0, none⟩) (m.weaks.length + 1) cap), vm, vs, h.xh, ⟨hl, hA⟩, h.hp, ⟨G' _ 1 h.ll.g1 (by decide) (by decide), G' _ 2 h.ll.g2 (by decide) (by decide), G' _ 3 h.ll.g3 (by decide) (by decide), G' _ 4 h.ll.g4 (by decide) (by decide), G' _ 5 h.ll.g5 (by decide) (by decide), ?_, (World.cell?_of_block (w := W) (gk _ 2 h.ll.g2 (by decide) (by decide) (by decide))).trans h.ll.a2, ⟨a3.h, a3.s, a3.fi, a3.a, a3.nx, a3.qu, a3.la, a3.cn, a3.fz⟩, h.ll.a4.same (gk _ 4 h.ll.g4 (by decide) (by decide) (by decide)), ?_, ?_, ?_, ?_, ?_, ?_, ?_, ?_, ?_⟩, fun b hb => by have := h.bs b hb; omega, fun b hb => h.hi b (by omega), h.lo, fun b hb => ?_⟩, o2.os.trans hb.os, o2.tape.trans hb.tape, o2.output.trans hb.output, by omega, fun b hb => ?_⟩
  · exact ⟨hwb 0 _ (by decide) h.ll.a1.h, hwb 1 _ (by decide) h.ll.a1.t, hwb 2 _ (by decide) h.ll.a1.m, hwb 3 _ (by decide) h.ll.a1.k, World.cell?_setCell_same _ _ _ hw2, hwb 5 _ (by decide) h.ll.a1.d, hwb 6 _ (by decide) h.ll.a1.s, fun j => (World.frozen?_setCell _ _ _ _).trans ((hwf j).trans (h.ll.a1.fz j))⟩
  · obtain ⟨⟨v1, c1, d1⟩, ⟨v2, c2, d2⟩, ⟨v3, c3, d3⟩, fz⟩ := h.ll.a5.same (W' := W2.setCell ⟨S.wb, 4, none⟩ (.slice (some ⟨g, 0, none⟩) (m.weaks.length + 1) cap)) (fun b hb => by
      rcases hb with rfl | hb
      · exact gk _ 5 h.ll.g5 (by decide) (by decide) (by decide)
      · exact gk _ 10 hb (by decide) (by decide) (by decide))
    have tr : ∀ v l, DR G (W2.setCell ⟨S.wb, 4, none⟩ (.slice (some ⟨g, 0, none⟩) (m.weaks.length + 1) cap)) v l → DR (fun b => if b = g then 7 else G b) (W2.setCell ⟨S.wb, 4, none⟩ (.slice (some ⟨g, 0, none⟩) (m.weaks.length + 1) cap)) v l := fun v l hd => by
      obtain ⟨ao, cp2, e1, e2, e3⟩ := hd
      refine ⟨ao, cp2, e1, e2, fun h0 => ?_⟩
      obtain ⟨q, off, e4, e5, e6⟩ := e3 h0
      exact ⟨q, off, e4, G' q 10 e5 (by decide) (by decide), e6⟩
    exact ⟨⟨v1, c1, tr _ _ d1⟩, ⟨v2, c2, tr _ _ d2⟩, ⟨v3, c3, tr _ _ d3⟩, fz⟩
  · exact h.ll.k.same fun q hq => gk _ 6 (h.ll.gk q hq) (by decide) (by decide) (by decide)
  · have := own_samew o1 (W' := W2.setCell ⟨S.wb, 4, none⟩ (.slice (some ⟨g, 0, none⟩) (m.weaks.length + 1) cap)) (fun q hq => by cases hq; exact own)
    show Rw 0 _ _ (m.weaks ++ [c])
    unfold Rw
    simpa using this
  · exact h.ll.d.same fun q hq => gk _ 8 (h.ll.gd q hq) (by decide) (by decide) (by decide)
  · exact h.ll.s.same fun q hq => gk _ 9 (h.ll.gs q hq) (by decide) (by decide) (by decide)
  · exact fun q hq => G' q 6 (h.ll.gk q hq) (by decide) (by decide)
  · intro q hq
    cases hq
    exact if_pos rfl
  · exact fun q hq => G' q 8 (h.ll.gd q hq) (by decide) (by decide)
  · exact fun q hq => G' q 9 (h.ll.gs q hq) (by decide) (by decide)
  · by_cases e : b = g
    · subst e
      refine ⟨fun e => ?_, by omega, tg⟩
      rcases gcase with e2 | e2
      · exact (h.gt b (by omega)).1 e
      · have := h.bs b e
        omega
    · have hb2 : G b ≠ 0 := by simpa only [if_neg e] using hb
      have := h.gt b hb2
      exact ⟨this.1, by omega, this.2.2⟩
  · have hl := h.bs b hb
    exact hk b hl (fun e => (h.gt b (by omega)).1 hb) (fun e => lwb.1 (e ▸ hb))
/-- marked. -/
theorem Lx.push_marked (h : Lx Kx S m u x T D R top L G vk vw vm vs W) (hb : Below W.heap.size W W1) {g cap : Nat} {c : Int} (o1 : W2.ownsRow 0 3 1 (.slice (some ⟨g, 0, none⟩) (m.marked.length + 1) cap) (m.marked.length + 1) ((m.marked.map (.int .i64)) ++ [.int .i64 c])) (o2 : W1.grownBy W2 vm.ownBlock) (o3 : vm.ownBlock = some g ∨ g = W1.heap.size) :
    Lm Kx S { m with marked := m.marked ++ [c] } u (W2.setCell ⟨S.wb, 5, none⟩ (.slice (some ⟨g, 0, none⟩) (m.marked.length + 1) cap)) ∧ Kp Kx W (W2.setCell ⟨S.wb, 5, none⟩ (.slice (some ⟨g, 0, none⟩) (m.marked.length + 1) cap)) := by
  have hg : ((.slice (some ⟨g, 0, none⟩) (m.marked.length + 1) cap) : Value).ownBlock = some g := rfl
  have lg := (o1.lt g hg).2
  have s1 := hb.size
  have s2 := o2.size
  have gcase : G g = 8 ∨ W.heap.size ≤ g := by
    rcases o3 with e | e
    · exact Or.inl (h.ll.gd g e)
    · exact Or.inr (by omega)
  have ne : ∀ b, b < W.heap.size → G b ≠ 8 → b ≠ g := fun b hl hb e => by
    subst e
    rcases gcase with e | e <;> omega
  have hk : ∀ b, b < W.heap.size → G b ≠ 8 → b ≠ S.wb → (W2.setCell ⟨S.wb, 5, none⟩ (.slice (some ⟨g, 0, none⟩) (m.marked.length + 1) cap)).heap[b]? = W.heap[b]? := fun b hl h6 h1 =>
    (Below.heap_setCell _ _ _ _ h1).trans ((o2.block b (by omega) (fun e => h6 (h.ll.gd b e.symm))).trans (hb.block b hl))
  have sz : (W2.setCell ⟨S.wb, 5, none⟩ (.slice (some ⟨g, 0, none⟩) (m.marked.length + 1) cap)).heap.size = W2.heap.size := by simp [World.setCell]
  have lwb := (h.gt S.wb (by rw [h.ll.g1]; decide))
  have hwb : ∀ (j : Nat) (v' : Value), j ≠ 5 → W.cell? ⟨S.wb, j, none⟩ = some v' → (W2.setCell ⟨S.wb, 5, none⟩ (.slice (some ⟨g, 0, none⟩) (m.marked.length + 1) cap)).cell? ⟨S.wb, j, none⟩ = some v' := fun j v' hj hv => by
    refine (World.cell?_setCell_other _ _ _ _ (fun e => hj (by cases e; rfl))).trans ?_
    exact (World.cell?_of_block (w := W1) (o2.block S.wb (by omega) (fun e => by have := h.ll.gd _ e.symm; have := h.ll.g1; omega))).trans (later' hb hv)
  have hwf : ∀ j, W2.frozen? ⟨S.wb, j, none⟩ = W.frozen? ⟨S.wb, j, none⟩ := fun j =>
    (World.frozen?_of_block (w := W1) (o2.block S.wb (by omega) (fun e => by have := h.ll.gd _ e.symm; have := h.ll.g1; omega))).trans (World.frozen?_of_block (w := W) (hb.block _ lwb.2.1))
  have hw2 : W2.cell? ⟨S.wb, 5, none⟩ = some vm := (World.cell?_of_block (w := W1) (o2.block S.wb (by omega) (fun e => by have := h.ll.gd _ e.symm; have := h.ll.g1; omega))).trans (later' hb h.ll.a1.d)
  have tg : T g = 1000 := by
    rcases gcase with e | e
    · exact (h.gt g (by omega)).2.2
    · exact h.hi g e
  have hheap : ∀ b, b < W.heap.size → T b ≠ 1000 → (W2.setCell ⟨S.wb, 5, none⟩ (.slice (some ⟨g, 0, none⟩) (m.marked.length + 1) cap)).heap[b]? = W.heap[b]? := fun b hl ht => hk b hl (fun e => ht (h.gt b (by omega)).2.2) (fun e => ht (by rw [e]; exact lwb.2.2))
  obtain ⟨cb, cp, gg, htg, -⟩ := h.ha.1.rest
  have hl : HLies x T D R top m.par L (W2.setCell ⟨S.wb, 5, none⟩ (.slice (some ⟨g, 0, none⟩) (m.marked.length + 1) cap)) := h.ha.1.butw hheap (by omega)
  have hA : At (W2.setCell ⟨S.wb, 5, none⟩ (.slice (some ⟨g, 0, none⟩) (m.marked.length + 1) cap)) x.p x.d x.n D u := h.ha.2.move (hheap _ h.ha.2.lp (by rw [htg.p]; omega)) (hheap _ h.ha.2.ld (by rw [htg.d]; omega)) (by omega)
  have gw : ∀ b, G b ≠ 0 → G b ≠ 1 → G b ≠ 8 → (W2.setCell ⟨S.wb, 5, none⟩ (.slice (some ⟨g, 0, none⟩) (m.marked.length + 1) cap)).heap[b]? = W.heap[b]? := fun b h0 h1 h6 => hk b (h.gt b h0).2.1 h6 (fun e => h1 (by rw [e]; exact h.ll.g1))
  have gk : ∀ b t, G b = t → t ≠ 0 → t ≠ 1 → t ≠ 8 → (W2.setCell ⟨S.wb, 5, none⟩ (.slice (some ⟨g, 0, none⟩) (m.marked.length + 1) cap)).heap[b]? = W.heap[b]? := fun b t hb h0 h1 h6 => gw b (by omega) (by omega) (by omega)
  have G' : ∀ b t, G b = t → t ≠ 0 → t ≠ 8 → (if b = g then 8 else G b) = t := fun b t hb h0 h6 => by rw [if_neg (ne b (h.gt b (by omega)).2.1 (by omega))]; exact hb
  have own : (W2.setCell ⟨S.wb, 5, none⟩ (.slice (some ⟨g, 0, none⟩) (m.marked.length + 1) cap)).heap[g]? = W2.heap[g]? := Below.heap_setCell _ _ _ _ (show g ≠ S.wb from fun e => by
    rw [e] at gcase
    have := h.ll.g1
    have := lwb.2.1
    rcases gcase with e2 | e2 <;> omega)
  have a3 := h.ll.a3.same (gk _ 3 h.ll.g3 (by decide) (by decide) (by decide))
  refine ⟨⟨x, T, D, R, top, L, fun b => if b = g then 8 else G b, vk, vw, (.slice (some ⟨g, 0, none⟩) (m.marked.length + 1) cap), vs, h.xh, ⟨hl, hA⟩, h.hp, ⟨G' _ 1 h.ll.g1 (by decide) (by decide), G' _ 2 h.ll.g2 (by decide) (by decide), G' _ 3 h.ll.g3 (by decide) (by decide), G' _ 4 h.ll.g4 (by decide) (by decide), G' _ 5 h.ll.g5 (by decide) (by decide), ?_, (World.cell?_of_block (w := W) (gk _ 2 h.ll.g2 (by decide) (by decide) (by decide))).trans h.ll.a2, ⟨a3.h, a3.s, a3.fi, a3.a, a3.nx, a3.qu, a3.la, a3.cn, a3.fz⟩, h.ll.a4.same (gk _ 4 h.ll.g4 (by decide) (by decide) (by decide)), ?_, ?_, ?_, ?_, ?_, ?_, ?_, ?_, ?_⟩, fun b hb => by have := h.bs b hb; omega, fun b hb => h.hi b (by omega), h.lo, fun b hb => ?_⟩, o2.os.trans hb.os, o2.tape.trans hb.tape, o2.output.trans hb.output, by omega, fun b hb => ?_⟩
  · exact ⟨hwb 0 _ (by decide) h.ll.a1.h, hwb 1 _ (by decide) h.ll.a1.t, hwb 2 _ (by decide) h.ll.a1.m, hwb 3 _ (by decide) h.ll.a1.k, hwb 4 _ (by decide) h.ll.a1.w, World.cell?_setCell_same _ _ _ hw2, hwb 6 _ (by decide) h.ll.a1.s, fun j => (World.frozen?_setCell _ _ _ _).trans ((hwf j).trans (h.ll.a1.fz j))⟩
  · obtain ⟨⟨v1, c1, d1⟩, ⟨v2, c2, d2⟩, ⟨v3, c3, d3⟩, fz⟩ := h.ll.a5.same (W' := W2.setCell ⟨S.wb, 5, none⟩ (.slice (some ⟨g, 0, none⟩) (m.marked.length + 1) cap)) (fun b hb => by
      rcases hb with rfl | hb
      · exact gk _ 5 h.ll.g5 (by decide) (by decide) (by decide)
      · exact gk _ 10 hb (by decide) (by decide) (by decide))
    have tr : ∀ v l, DR G (W2.setCell ⟨S.wb, 5, none⟩ (.slice (some ⟨g, 0, none⟩) (m.marked.length + 1) cap)) v l → DR (fun b => if b = g then 8 else G b) (W2.setCell ⟨S.wb, 5, none⟩ (.slice (some ⟨g, 0, none⟩) (m.marked.length + 1) cap)) v l := fun v l hd => by
      obtain ⟨ao, cp2, e1, e2, e3⟩ := hd
      refine ⟨ao, cp2, e1, e2, fun h0 => ?_⟩
      obtain ⟨q, off, e4, e5, e6⟩ := e3 h0
      exact ⟨q, off, e4, G' q 10 e5 (by decide) (by decide), e6⟩
    exact ⟨⟨v1, c1, tr _ _ d1⟩, ⟨v2, c2, tr _ _ d2⟩, ⟨v3, c3, tr _ _ d3⟩, fz⟩
  · exact h.ll.k.same fun q hq => gk _ 6 (h.ll.gk q hq) (by decide) (by decide) (by decide)
  · exact h.ll.w.same fun q hq => gk _ 7 (h.ll.gw q hq) (by decide) (by decide) (by decide)
  · have := own_samew o1 (W' := W2.setCell ⟨S.wb, 5, none⟩ (.slice (some ⟨g, 0, none⟩) (m.marked.length + 1) cap)) (fun q hq => by cases hq; exact own)
    show Rw 0 _ _ (m.marked ++ [c])
    unfold Rw
    simpa using this
  · exact h.ll.s.same fun q hq => gk _ 9 (h.ll.gs q hq) (by decide) (by decide) (by decide)
  · exact fun q hq => G' q 6 (h.ll.gk q hq) (by decide) (by decide)
  · exact fun q hq => G' q 7 (h.ll.gw q hq) (by decide) (by decide)
  · intro q hq
    cases hq
    exact if_pos rfl
  · exact fun q hq => G' q 9 (h.ll.gs q hq) (by decide) (by decide)
  · by_cases e : b = g
    · subst e
      refine ⟨fun e => ?_, by omega, tg⟩
      rcases gcase with e2 | e2
      · exact (h.gt b (by omega)).1 e
      · have := h.bs b e
        omega
    · have hb2 : G b ≠ 0 := by simpa only [if_neg e] using hb
      have := h.gt b hb2
      exact ⟨this.1, by omega, this.2.2⟩
  · have hl := h.bs b hb
    exact hk b hl (fun e => (h.gt b (by omega)).1 hb) (fun e => lwb.1 (e ▸ hb))
/-- shaded. -/
theorem Lx.push_shaded (h : Lx Kx S m u x T D R top L G vk vw vm vs W) (hb : Below W.heap.size W W1) {g cap : Nat} {c : Int} (o1 : W2.ownsRow 0 2 1 (.slice (some ⟨g, 0, none⟩) (m.shaded.length + 1) cap) (m.shaded.length + 1) ((m.shaded.map (.int .i64)) ++ [.int .i64 c])) (o2 : W1.grownBy W2 vs.ownBlock) (o3 : vs.ownBlock = some g ∨ g = W1.heap.size) :
    Lm Kx S { m with shaded := m.shaded ++ [c] } u (W2.setCell ⟨S.wb, 6, none⟩ (.slice (some ⟨g, 0, none⟩) (m.shaded.length + 1) cap)) ∧ Kp Kx W (W2.setCell ⟨S.wb, 6, none⟩ (.slice (some ⟨g, 0, none⟩) (m.shaded.length + 1) cap)) := by
  have hg : ((.slice (some ⟨g, 0, none⟩) (m.shaded.length + 1) cap) : Value).ownBlock = some g := rfl
  have lg := (o1.lt g hg).2
  have s1 := hb.size
  have s2 := o2.size
  have gcase : G g = 9 ∨ W.heap.size ≤ g := by
    rcases o3 with e | e
    · exact Or.inl (h.ll.gs g e)
    · exact Or.inr (by omega)
  have ne : ∀ b, b < W.heap.size → G b ≠ 9 → b ≠ g := fun b hl hb e => by
    subst e
    rcases gcase with e | e <;> omega
  have hk : ∀ b, b < W.heap.size → G b ≠ 9 → b ≠ S.wb → (W2.setCell ⟨S.wb, 6, none⟩ (.slice (some ⟨g, 0, none⟩) (m.shaded.length + 1) cap)).heap[b]? = W.heap[b]? := fun b hl h6 h1 =>
    (Below.heap_setCell _ _ _ _ h1).trans ((o2.block b (by omega) (fun e => h6 (h.ll.gs b e.symm))).trans (hb.block b hl))
  have sz : (W2.setCell ⟨S.wb, 6, none⟩ (.slice (some ⟨g, 0, none⟩) (m.shaded.length + 1) cap)).heap.size = W2.heap.size := by simp [World.setCell]
  have lwb := (h.gt S.wb (by rw [h.ll.g1]; decide))
  have hwb : ∀ (j : Nat) (v' : Value), j ≠ 6 → W.cell? ⟨S.wb, j, none⟩ = some v' → (W2.setCell ⟨S.wb, 6, none⟩ (.slice (some ⟨g, 0, none⟩) (m.shaded.length + 1) cap)).cell? ⟨S.wb, j, none⟩ = some v' := fun j v' hj hv => by
    refine (World.cell?_setCell_other _ _ _ _ (fun e => hj (by cases e; rfl))).trans ?_
    exact (World.cell?_of_block (w := W1) (o2.block S.wb (by omega) (fun e => by have := h.ll.gs _ e.symm; have := h.ll.g1; omega))).trans (later' hb hv)
  have hwf : ∀ j, W2.frozen? ⟨S.wb, j, none⟩ = W.frozen? ⟨S.wb, j, none⟩ := fun j =>
    (World.frozen?_of_block (w := W1) (o2.block S.wb (by omega) (fun e => by have := h.ll.gs _ e.symm; have := h.ll.g1; omega))).trans (World.frozen?_of_block (w := W) (hb.block _ lwb.2.1))
  have hw2 : W2.cell? ⟨S.wb, 6, none⟩ = some vs := (World.cell?_of_block (w := W1) (o2.block S.wb (by omega) (fun e => by have := h.ll.gs _ e.symm; have := h.ll.g1; omega))).trans (later' hb h.ll.a1.s)
  have tg : T g = 1000 := by
    rcases gcase with e | e
    · exact (h.gt g (by omega)).2.2
    · exact h.hi g e
  have hheap : ∀ b, b < W.heap.size → T b ≠ 1000 → (W2.setCell ⟨S.wb, 6, none⟩ (.slice (some ⟨g, 0, none⟩) (m.shaded.length + 1) cap)).heap[b]? = W.heap[b]? := fun b hl ht => hk b hl (fun e => ht (h.gt b (by omega)).2.2) (fun e => ht (by rw [e]; exact lwb.2.2))
  obtain ⟨cb, cp, gg, htg, -⟩ := h.ha.1.rest
  have hl : HLies x T D R top m.par L (W2.setCell ⟨S.wb, 6, none⟩ (.slice (some ⟨g, 0, none⟩) (m.shaded.length + 1) cap)) := h.ha.1.butw hheap (by omega)
  have hA : At (W2.setCell ⟨S.wb, 6, none⟩ (.slice (some ⟨g, 0, none⟩) (m.shaded.length + 1) cap)) x.p x.d x.n D u := h.ha.2.move (hheap _ h.ha.2.lp (by rw [htg.p]; omega)) (hheap _ h.ha.2.ld (by rw [htg.d]; omega)) (by omega)
  have gw : ∀ b, G b ≠ 0 → G b ≠ 1 → G b ≠ 9 → (W2.setCell ⟨S.wb, 6, none⟩ (.slice (some ⟨g, 0, none⟩) (m.shaded.length + 1) cap)).heap[b]? = W.heap[b]? := fun b h0 h1 h6 => hk b (h.gt b h0).2.1 h6 (fun e => h1 (by rw [e]; exact h.ll.g1))
  have gk : ∀ b t, G b = t → t ≠ 0 → t ≠ 1 → t ≠ 9 → (W2.setCell ⟨S.wb, 6, none⟩ (.slice (some ⟨g, 0, none⟩) (m.shaded.length + 1) cap)).heap[b]? = W.heap[b]? := fun b t hb h0 h1 h6 => gw b (by omega) (by omega) (by omega)
  have G' : ∀ b t, G b = t → t ≠ 0 → t ≠ 9 → (if b = g then 9 else G b) = t := fun b t hb h0 h6 => by rw [if_neg (ne b (h.gt b (by omega)).2.1 (by omega))]; exact hb
  have own : (W2.setCell ⟨S.wb, 6, none⟩ (.slice (some ⟨g, 0, none⟩) (m.shaded.length + 1) cap)).heap[g]? = W2.heap[g]? := Below.heap_setCell _ _ _ _ (show g ≠ S.wb from fun e => by
    rw [e] at gcase
    have := h.ll.g1
    have := lwb.2.1
    rcases gcase with e2 | e2 <;> omega)
  have a3 := h.ll.a3.same (gk _ 3 h.ll.g3 (by decide) (by decide) (by decide))
  refine ⟨⟨x, T, D, R, top, L, fun b => if b = g then 9 else G b, vk, vw, vm, (.slice (some ⟨g, 0, none⟩) (m.shaded.length + 1) cap), h.xh, ⟨hl, hA⟩, h.hp, ⟨G' _ 1 h.ll.g1 (by decide) (by decide), G' _ 2 h.ll.g2 (by decide) (by decide), G' _ 3 h.ll.g3 (by decide) (by decide), G' _ 4 h.ll.g4 (by decide) (by decide), G' _ 5 h.ll.g5 (by decide) (by decide), ?_, (World.cell?_of_block (w := W) (gk _ 2 h.ll.g2 (by decide) (by decide) (by decide))).trans h.ll.a2, ⟨a3.h, a3.s, a3.fi, a3.a, a3.nx, a3.qu, a3.la, a3.cn, a3.fz⟩, h.ll.a4.same (gk _ 4 h.ll.g4 (by decide) (by decide) (by decide)), ?_, ?_, ?_, ?_, ?_, ?_, ?_, ?_, ?_⟩, fun b hb => by have := h.bs b hb; omega, fun b hb => h.hi b (by omega), h.lo, fun b hb => ?_⟩, o2.os.trans hb.os, o2.tape.trans hb.tape, o2.output.trans hb.output, by omega, fun b hb => ?_⟩
  · exact ⟨hwb 0 _ (by decide) h.ll.a1.h, hwb 1 _ (by decide) h.ll.a1.t, hwb 2 _ (by decide) h.ll.a1.m, hwb 3 _ (by decide) h.ll.a1.k, hwb 4 _ (by decide) h.ll.a1.w, hwb 5 _ (by decide) h.ll.a1.d, World.cell?_setCell_same _ _ _ hw2, fun j => (World.frozen?_setCell _ _ _ _).trans ((hwf j).trans (h.ll.a1.fz j))⟩
  · obtain ⟨⟨v1, c1, d1⟩, ⟨v2, c2, d2⟩, ⟨v3, c3, d3⟩, fz⟩ := h.ll.a5.same (W' := W2.setCell ⟨S.wb, 6, none⟩ (.slice (some ⟨g, 0, none⟩) (m.shaded.length + 1) cap)) (fun b hb => by
      rcases hb with rfl | hb
      · exact gk _ 5 h.ll.g5 (by decide) (by decide) (by decide)
      · exact gk _ 10 hb (by decide) (by decide) (by decide))
    have tr : ∀ v l, DR G (W2.setCell ⟨S.wb, 6, none⟩ (.slice (some ⟨g, 0, none⟩) (m.shaded.length + 1) cap)) v l → DR (fun b => if b = g then 9 else G b) (W2.setCell ⟨S.wb, 6, none⟩ (.slice (some ⟨g, 0, none⟩) (m.shaded.length + 1) cap)) v l := fun v l hd => by
      obtain ⟨ao, cp2, e1, e2, e3⟩ := hd
      refine ⟨ao, cp2, e1, e2, fun h0 => ?_⟩
      obtain ⟨q, off, e4, e5, e6⟩ := e3 h0
      exact ⟨q, off, e4, G' q 10 e5 (by decide) (by decide), e6⟩
    exact ⟨⟨v1, c1, tr _ _ d1⟩, ⟨v2, c2, tr _ _ d2⟩, ⟨v3, c3, tr _ _ d3⟩, fz⟩
  · exact h.ll.k.same fun q hq => gk _ 6 (h.ll.gk q hq) (by decide) (by decide) (by decide)
  · exact h.ll.w.same fun q hq => gk _ 7 (h.ll.gw q hq) (by decide) (by decide) (by decide)
  · exact h.ll.d.same fun q hq => gk _ 8 (h.ll.gd q hq) (by decide) (by decide) (by decide)
  · have := own_samew o1 (W' := W2.setCell ⟨S.wb, 6, none⟩ (.slice (some ⟨g, 0, none⟩) (m.shaded.length + 1) cap)) (fun q hq => by cases hq; exact own)
    show Rw8 0 _ _ (m.shaded ++ [c])
    unfold Rw8
    simpa using this
  · exact fun q hq => G' q 6 (h.ll.gk q hq) (by decide) (by decide)
  · exact fun q hq => G' q 7 (h.ll.gw q hq) (by decide) (by decide)
  · exact fun q hq => G' q 8 (h.ll.gd q hq) (by decide) (by decide)
  · intro q hq
    cases hq
    exact if_pos rfl
  · by_cases e : b = g
    · subst e
      refine ⟨fun e => ?_, by omega, tg⟩
      rcases gcase with e2 | e2
      · exact (h.gt b (by omega)).1 e
      · have := h.bs b e
        omega
    · have hb2 : G b ≠ 0 := by simpa only [if_neg e] using hb
      have := h.gt b hb2
      exact ⟨this.1, by omega, this.2.2⟩
  · have hl := h.bs b hb
    exact hk b hl (fun e => (h.gt b (by omega)).1 hb) (fun e => lwb.1 (e ▸ hb))
end
end Go.Proofs.Ythliahaopelooaa
/- What the law's closure does; Take; Roots. -/
namespace Go.Proofs.Ythliahaopelooaa
open Go.RowKit
theorem Try.info_i64w : (Try.prog.info? 2).map (fun i => (i.zero, i.size, i.bytes)) = some (some (.int .i64 0), 1, 8) := by kernel_rfl
theorem Try.info_intw : (Try.prog.info? 3).map (fun i => (i.zero, i.size, i.bytes)) = some (some (.int .i64 0), 1, 8) := by kernel_rfl
section
variable {Kx : Nat → Prop} {S : LSp} {m : LM} {u : Int} {W : World}
theorem Lx.wb_kept {x : HSpot} {T : Nat → Nat} {D : Nat → Int} {R : Nat → Rows} {top : Int} {L : List (Int × Int)} {G : Nat → Nat} {vk vw vm vs : Value} {W1 W2 : World} {row : Option Nat} (h : Lx Kx S m u x T D R top L G vk vw vm vs W) (hb : Below W.heap.size W W1) (o2 : W1.grownBy W2 row) (hr : ∀ g, row = some g → 6 ≤ G g) :
    A1 S vk vw vm vs W2 ∧ W2.cell? ⟨S.cb, 0, none⟩ = some (.pointer (some ⟨S.wb, 0, none⟩)) := by
  have lcb := (h.gt S.cb (by rw [h.ll.g2]; decide)).2.1
  have lwb := (h.gt S.wb (by rw [h.ll.g1]; decide)).2.1
  have s1 := hb.size
  refine ⟨h.ll.a1.same ((o2.block S.wb (by omega) (fun e => by have := hr _ e.symm; have := h.ll.g1; omega)).trans (hb.block _ lwb)), ?_⟩
  exact (World.cell?_of_block (w := W) ((o2.block S.cb (by omega) (fun e => by have := hr _ e.symm; have := h.ll.g2; omega)).trans (hb.block _ lcb))).trans h.ll.a2
set_option maxHeartbeats 4000000 in
set_option maxRecDepth 100000 in
theorem wshade_any (h : Lm Kx S m u W) (v : Int) (hl : m.shaded.length ≤ 100000) :
    Calls Try.prog 31 #[.int .i64 v, .pointer (some ⟨S.cb, 0, none⟩)] W (Aft Kx S { m with shaded := m.shaded ++ [v] } u 0 (.tuple #[]) W) := by
  obtain ⟨i0, hi0, hz0, hzs, hzb⟩ := info_parts Try.info_i64w
  have hdr : Below W.heap.size W W.drew := (Below.refl _ _).drew
  obtain ⟨x, T, D, R, top, L, G, vk, vw, vm, vs, h⟩ := h
  have h1 := h.later hdr
  have c2 := h1.1.ll.a2
  have c6 := h1.1.ll.a1.s
  have hx : Below W.drew.heap.size W.drew (W.drew.alloc (.cells #[.int .i64 v] 2)) := (Below.refl _ _).alloc (Nat.le_refl _) _
  have ho : (W.drew.alloc (.cells #[.int .i64 v] 2)).ownsRow 0 2 1 vs m.shaded.length (m.shaded.map (.int .i64)) := h1.1.ll.s.alloc _
  have H1 := Lib.hid (And.intro h1 (And.intro hx ho))
  have k2 : (W.alloc (.cells #[.int .i64 v] 2)).cell? ⟨S.cb, 0, none⟩ = some (.pointer (some ⟨S.wb, 0, none⟩)) := later' ((Below.refl W.heap.size W).alloc (Nat.le_refl _) _) h.ll.a2
  have k6 : (W.alloc (.cells #[.int .i64 v] 2)).cell? ⟨S.wb, 6, none⟩ = some vs := later' ((Below.refl W.heap.size W).alloc (Nat.le_refl _) _) h.ll.a1.s
  have hne : some S.wb ≠ vs.ownBlock := fun e => by
    have := h.ll.gs _ e.symm
    have := h.ll.g1
    omega
  clear h h1 hx ho hdr
  go_enter Try.func31, Try.ntmps31
  go_region_law (refine step_append_lies _ rfl _ _ 31 rfl 0 2 i0 (.int .i64 0) 1 8 Try.underlying31 hi0 hz0 hzs hzb rfl (by decide) vs m.shaded.length (m.shaded.map (.int .i64)) rfl H1.out.2.2 ⟨W.heap.size, 0, none⟩ 1 1 [.int .i64 v] rfl rfl (World.news_of_block (heap_alloc_new _ _)) (by intro u hu; simp at hu; subst hu; rfl) (by decide) (by unfold maxLen; omega) (by omega) (by simp) _ rfl ?_; intro g9 cap9 w9 o1 o2 o3 o4; have a1 := H1.out.1.1.wb_kept H1.out.2.1 o2 (fun g e => by have := H1.out.1.1.ll.gs g e; omega); have d6 := a1.1.s; have z6 := a1.1.fz 6; have d2 := a1.2)
  all_goals
    have hp := H1.out.1.1.push_shaded H1.out.2.1 o1 o2 o3
    refine bodyPost_end (v := .tuple #[]) (by simp [results, Try.results31, go_sem]) rfl ?_
    exact ⟨rfl, u, hp.1, H1.out.1.2.trans hp.2, Us.refl u⟩
end
end Go.Proofs.Ythliahaopelooaa
/- Take. -/
namespace Go.Proofs.Ythliahaopelooaa
open Go.RowKit
section
variable {Kx : Nat → Prop} {S : LSp} {m : LM} {u : Int} {W : World}
set_option maxHeartbeats 1000000 in
set_option maxRecDepth 100000 in
theorem wtake_none (h : Lm Kx S m u W) (hn : m.qu = 0) : Calls Try.prog 17 #[.pointer (some ⟨S.tb, 0, none⟩)] W (Aft Kx S m u 0 (.tuple #[.int .i64 0, .int .i64 0, .int .i64 0, .bool false]) W) := by
  have c5 := h.a3.1.qu
  rw [hn] at c5
  have H := Lib.hid h
  clear h hn
  go_enter Try.func17, Try.ntmps17
  go_wp2_with fail
  refine bodyPost_ret (v := .tuple #[.int .i64 0, .int .i64 0, .int .i64 0, .bool false]) (by simp [results, Try.results17, go_sem]) rfl ?_
  exact ⟨rfl, u, H.out, Kp.refl _ _, Us.refl u⟩
set_option maxHeartbeats 8000000 in
set_option maxRecDepth 100000 in
theorem wtake_some (h : Lm Kx S m u W) {suf row : List Int} {o : Ob} (ho : o ∈ m.O) (hs : o.s = 4) (ht : Tbl m row (o.p :: suf)) (hl : m.shaded.length < 90000) (hc : m.cn < 100000) :
    Calls Try.prog 17 #[.pointer (some ⟨S.tb, 0, none⟩)] W (Aft Kx S (taken { m with shaded := (m.shaded ++ [m.V o.p 2]) ++ [suf.headD 0] } o.p (suf.headD 0)) u 9 (.tuple #[.int .i64 o.p, .int .i64 o.a, .int .i64 (m.V o.p 2), .bool true]) W) := by
  have hpp := lm_pos h ho
  have c5 := h.a3.1.qu
  rw [ht.qu] at c5
  simp only [List.headD_cons] at c5
  have hcn := ht.cn
  have hB := fun (K' : Nat → Prop) (W' : World) (u' : Int) (h' : Lm K' S m u' W') => wbehind_any h' ho hs
  rw [ht.cq.1] at hB
  have HBh := Lib.hid hB
  have HC := Lib.hid (fun (K' : Nat → Prop) (W' : World) (u' : Int) (h' : Lm K' S m u' W') => lm_cell h' ho)
  have HG := Lib.hid (fun (K' : Nat → Prop) (W' : World) (u' : Int) (h' : Lm K' S m u' W') => lm_get h' ho (j := 2) (by decide) (by rw [hs]; decide))
  have HS1 := Lib.hid (fun (K' : Nat → Prop) (W' : World) (u' : Int) (h' : Lm K' S m u' W') => wshade_any h' (m.V o.p 2) (by omega))
  have ho2 : o ∈ ({ m with shaded := (m.shaded ++ [m.V o.p 2]) ++ [suf.headD 0] } : LM).O := ho
  have HS2 := Lib.hid (fun (K' : Nat → Prop) (W' : World) (u' : Int) (h' : Lm K' S { m with shaded := m.shaded ++ [m.V o.p 2] } u' W') => wshade_any h' (suf.headD 0) (by simp; omega))
  have HT := Lib.hid (fun (K' : Nat → Prop) (W' : World) (u' : Int) (h' : Lm K' S { m with shaded := (m.shaded ++ [m.V o.p 2]) ++ [suf.headD 0] } u' W') => lm_set h' ho2 (j := 2) (by decide) (by rw [hs]; decide) 0)
  have HK := Lib.hid (fun (K' : Nat → Prop) (W' : World) (u' : Int) (h' : Lm K' S { m with shaded := (m.shaded ++ [m.V o.p 2]) ++ [suf.headD 0], V := vset m.V o.p 2 0 } u' W') => wlink_any h' ho2 hs 0)
  have ew : IntKind.i64.wrap (m.cn - 1) = m.cn - 1 := by rw [IntKind.wrap_i64]; omega
  have hp0 : (o.p == 0) = false := by
    have : o.p ≠ 0 := by omega
    simpa using this
  have hb : -9223372036854775808 ≤ suf.headD 0 ∧ suf.headD 0 ≤ 9223372036854775807 := by
    cases suf with
    | nil => simp
    | cons s l =>
      obtain ⟨o2, ho2, e2, hs2⟩ := ht.ob s (Or.inr (by simp))
      have := lm_pos h ho2
      simp only [List.headD_cons]
      omega
  have hbz : (IntKind.i64.wrap (suf.headD 0)) = suf.headD 0 := by rw [IntKind.wrap_i64]; omega
  have H := Lib.hid h
  clear h ho ho2 hs ht hl hc hpp hcn hB hb
  have hgoal : taken { m with shaded := (m.shaded ++ [m.V o.p 2]) ++ [suf.headD 0] } o.p (suf.headD 0) = { m with shaded := (m.shaded ++ [m.V o.p 2]) ++ [suf.headD 0], V := vset (vset m.V o.p 2 0) o.p 3 0, qu := suf.headD 0, la := if suf.headD 0 = 0 then 0 else m.la, cn := m.cn - 1 } := rfl
  rw [hgoal]
  clear hgoal
  generalize m.V o.p 2 = v2 at *
  generalize suf.headD 0 = b at *
  generalize (m.shaded ++ [v2]) ++ [b] = sh2 at *
  generalize hla2 : (if b = 0 then 0 else m.la) = la2 at *
  have HLA := Lib.hid hla2
  clear hla2
  generalize o.k = ok at *
  generalize o.s = os at *
  generalize o.a = oa at *
  generalize o.m = om at *
  generalize vset m.V o.p 2 0 = V1 at *
  generalize vset V1 o.p 3 0 = V2 at *
  generalize o.p = p at *
  go_enter Try.func17, Try.ntmps17
  have c0 := H.out.a3.1.h
  go_wp2_with fail
  refine (HC.out _ W u H.out).mono ?_
  rintro e w4 ⟨rfl, u4, h4, hb4, hu4⟩
  have hx := (Below.refl w4.heap.size w4).alloc (Nat.le_refl _) (.cells #[.int .i64 ok, .int .i64 os, .int .i64 oa, .int .i64 om] 46)
  obtain ⟨b0, b1, b2, b3⟩ := box_cells w4 (.int .i64 ok) (.int .i64 os) (.int .i64 oa) (.int .i64 om) 46
  have h5 := h4.own hx (q := w4.heap.size) (Nat.le_refl _) (by simp)
  have H5 := Lib.hid (And.intro h5 (And.intro (hb4.trans (h4.later hx).2) hu4))
  replace c0 := h5.a3.1.h
  clear h4 hb4 hu4 h5 hx HC b0 b1 b3 c5 H
  go_upto_region 5 with fail
  generalize (w4.alloc (.cells #[.int .i64 ok, .int .i64 os, .int .i64 oa, .int .i64 om] 46)) = w5 at *
  generalize w4.heap.size = q at *
  go_wp2_with fail
  refine (HG.out _ w5 u4 H5.out.1).mono ?_
  rintro e w6 ⟨rfl, u6, h6, hb6, hu6⟩
  replace b2 := hb6.cell (Or.inr rfl) b2
  have H6 := Lib.hid (And.intro h6 (And.intro (H5.out.2.1.trans (hb6.mono fun _ h => Or.inl h)) (H5.out.2.2.trans hu6)))
  clear h6 hb6 hu6 H5 HG c0
  go_wp2_with fail
  refine (HBh.out _ w6 u6 H6.out.1).mono ?_
  rintro e w7 ⟨rfl, u7, h7, hb7, hu7⟩
  replace b2 := hb7.cell (Or.inr rfl) b2
  have c1 := h7.a3.1.s
  have H7 := Lib.hid (And.intro h7 (And.intro (H6.out.2.1.trans (hb7.mono fun _ h => Or.inl h)) (H6.out.2.2.trans hu7)))
  clear h7 hb7 hu7 H6 HBh
  go_wp2_with fail
  refine (HS1.out _ w7 u7 H7.out.1).mono ?_
  rintro e w8 ⟨rfl, u8, h8, hb8, hu8⟩
  replace b2 := hb8.cell (Or.inr rfl) b2
  replace c1 := h8.a3.1.s
  have H8 := Lib.hid (And.intro h8 (And.intro (H7.out.2.1.trans (hb8.mono fun _ h => Or.inl h)) (H7.out.2.2.trans hu8)))
  clear h8 hb8 hu8 H7 HS1
  go_wp2_with fail
  refine (HS2.out _ w8 u8 H8.out.1).mono ?_
  rintro e w9 ⟨rfl, u9, h9, hb9, hu9⟩
  replace b2 := hb9.cell (Or.inr rfl) b2
  have c0 := h9.a3.1.h
  have H9 := Lib.hid (And.intro h9 (And.intro (H8.out.2.1.trans (hb9.mono fun _ h => Or.inl h)) (H8.out.2.2.trans hu9)))
  clear h9 hb9 hu9 H8 HS2 c1
  go_wp2_with fail
  refine (HT.out _ w9 u9 H9.out.1).mono ?_
  rintro e w10 ⟨rfl, u10, h10, hb10, hu10⟩
  replace b2 := hb10.cell (Or.inr rfl) b2
  have H10 := Lib.hid (And.intro h10 (And.intro (H9.out.2.1.trans (hb10.mono fun _ h => Or.inl h)) (H9.out.2.2.trans hu10)))
  clear h10 hb10 hu10 H9 HT c0
  go_wp2_with fail
  refine (HK.out _ w10 u10 H10.out.1).mono ?_
  rintro e w11 ⟨rfl, u11, h11, hb11, hu11⟩
  replace b2 := hb11.cell (Or.inr rfl) b2
  have H11 := Lib.hid (And.intro h11 (And.intro (H10.out.2.1.trans (hb11.mono fun _ h => Or.inl h)) (H10.out.2.2.trans hu11)))
  have d5 := h11.a3.1.qu
  have z5 := h11.a3.1.fz 5
  clear h11 hb11 hu11 H10 HK
  go_upto_region 12 with fail
  have h12 := H11.out.1.qu b
  replace b2 := h12.2.cell (Or.inr rfl) b2
  have d6 := h12.1.a3.1.la
  have z6 := h12.1.a3.1.fz 6
  have d7 := h12.1.a3.1.cn
  have z7 := h12.1.a3.1.fz 7
  simp only at d6 d7
  have H12 := Lib.hid (And.intro h12.1 (And.intro (H11.out.2.1.trans (h12.2.mono fun _ h => Or.inl h)) H11.out.2.2))
  clear h12 d5 z5 H11
  generalize (w11.setCell ⟨S.tb, 5, none⟩ (.int .i64 b)) = w12 at *
  by_cases e1 : b = 0
  · have e2 : (b == 0) = true := by simpa using e1
    obtain rfl : la2 = 0 := by
      have := HLA.out
      rw [if_pos e1] at this
      exact this.symm
    clear HLA
    go_upto_region 14 with fail
    have h13 := H12.out.1.la 0
    replace b2 := h13.2.cell (Or.inr rfl) b2
    replace d7 := h13.1.a3.1.cn
    replace z7 := h13.1.a3.1.fz 7
    simp only at d7
    have H13 := Lib.hid (And.intro h13.1 (And.intro (H12.out.2.1.trans (h13.2.mono fun _ h => Or.inl h)) H12.out.2.2))
    clear h13 d6 z6 H12
    generalize (w12.setCell ⟨S.tb, 6, none⟩ (.int .i64 0)) = w13 at *
    go_upto_region 15 with fail
    have h14 := H13.out.1.cn (m.cn - 1)
    replace b2 := h14.2.cell (Or.inr rfl) b2
    have H14 := Lib.hid (And.intro h14.1 (And.intro (H13.out.2.1.trans (h14.2.mono fun _ h => Or.inl h)) H13.out.2.2))
    clear h14 d7 z7 H13
    generalize (w13.setCell ⟨S.tb, 7, none⟩ (.int .i64 (m.cn - 1))) = w14 at *
    have hdr : Below w14.heap.size w14 w14.drew := (Below.refl _ _).drew
    replace b2 := later' hdr b2
    have h15 := H14.out.1.later hdr
    have H15 := Lib.hid (And.intro h15.1 (And.intro (H14.out.2.1.trans (h15.2.mono fun _ h => Or.inl h)) H14.out.2.2))
    clear h15 hdr H14
    go_region
    go_wp2_with fail
    refine bodyPost_ret (v := .tuple #[.int .i64 p, .int .i64 oa, .int .i64 v2, .bool true]) (by simp [results, Try.results17, go_sem]) rfl ?_
    refine ⟨rfl, u11, ?_, H15.out.2.1, H15.out.2.2⟩
    have := H15.out.1.less (K2 := Kx) fun _ h => Or.inl h
    rw [e1] at this
    exact this
  · have e2 : (b == 0) = false := by simpa using e1
    obtain rfl : la2 = m.la := by
      have := HLA.out
      rw [if_neg e1] at this
      exact this.symm
    clear HLA
    go_upto_region 15 with fail
    have h14 := H12.out.1.cn (m.cn - 1)
    replace b2 := h14.2.cell (Or.inr rfl) b2
    have H14 := Lib.hid (And.intro h14.1 (And.intro (H12.out.2.1.trans (h14.2.mono fun _ h => Or.inl h)) H12.out.2.2))
    clear h14 d7 z7 H12 d6 z6
    generalize (w12.setCell ⟨S.tb, 7, none⟩ (.int .i64 (m.cn - 1))) = w14 at *
    have hdr : Below w14.heap.size w14 w14.drew := (Below.refl _ _).drew
    replace b2 := later' hdr b2
    have h15 := H14.out.1.later hdr
    have H15 := Lib.hid (And.intro h15.1 (And.intro (H14.out.2.1.trans (h15.2.mono fun _ h => Or.inl h)) H14.out.2.2))
    clear h15 hdr H14
    go_region
    go_wp2_with fail
    refine bodyPost_ret (v := .tuple #[.int .i64 p, .int .i64 oa, .int .i64 v2, .bool true]) (by simp [results, Try.results17, go_sem]) rfl ?_
    exact ⟨rfl, u11, H15.out.1.less fun _ h => Or.inl h, H15.out.2.1, H15.out.2.2⟩
end
end Go.Proofs.Ythliahaopelooaa
/- The table's places along their links: the iterator. -/
namespace Go.Proofs.Ythliahaopelooaa
open Go.RowKit Go.Shelf
attribute [local go_sem] Oper.semAt_some
/-- The law's world as it lies, all of it below a bound. -/
def LmB (B0 : Nat) (Kx : Nat → Prop) (S : LSp) (m : LM) (u : Int) (W : World) : Prop :=
  ∃ x T D R top L G vk vw vm vs, Lx Kx S m u x T D R top L G vk vw vm vs W ∧ (∀ b, B0 ≤ b → T b = 1000 ∧ G b = 0) ∧ (∀ b, Kx b → b < B0) ∧ B0 ≤ W.heap.size
section
variable {B0 : Nat} {Kx : Nat → Prop} {S : LSp} {m : LM} {u : Int} {W W' : World}
theorem Lm.toB (h : Lm Kx S m u W) : LmB W.heap.size Kx S m u W := by
  obtain ⟨x, T, D, R, top, L, G, vk, vw, vm, vs, h⟩ := h
  refine ⟨x, T, D, R, top, L, G, vk, vw, vm, vs, h, fun b hb => ⟨h.hi b hb, ?_⟩, h.bs, Nat.le_refl _⟩
  by_cases e : G b = 0
  · exact e
  · have := (h.gt b e).2.1
    omega
theorem LmB.lm (h : LmB B0 Kx S m u W) : Lm Kx S m u W := by
  obtain ⟨x, T, D, R, top, L, G, vk, vw, vm, vs, h, -⟩ := h
  exact ⟨x, T, D, R, top, L, G, vk, vw, vm, vs, h⟩
theorem LmB.le (h : LmB B0 Kx S m u W) : B0 ≤ W.heap.size := by
  obtain ⟨x, T, D, R, top, L, G, vk, vw, vm, vs, -, -, -, h⟩ := h
  exact h
theorem LmB.tb (h : LmB B0 Kx S m u W) : S.tb < B0 := by
  obtain ⟨x, T, D, R, top, L, G, vk, vw, vm, vs, h, hg, -⟩ := h
  have := h.ll.g3
  by_cases e : S.tb < B0
  · exact e
  · have := (hg S.tb (by omega)).2
    omega
theorem LmB.kx (h : LmB B0 Kx S m u W) : ∀ b, Kx b → b < B0 := by
  obtain ⟨x, T, D, R, top, L, G, vk, vw, vm, vs, -, -, h, -⟩ := h
  exact h
theorem LmB.same (h : LmB B0 Kx S m u W) (hk : ∀ b, b < B0 → W'.heap[b]? = W.heap[b]?) (hs : W.heap.size ≤ W'.heap.size) : LmB B0 Kx S m u W' := by
  obtain ⟨x, T, D, R, top, L, G, vk, vw, vm, vs, h, hg, hx, hB⟩ := h
  have tl : ∀ b, T b ≠ 1000 → b < B0 := fun b hb => Nat.lt_of_not_le fun e => hb (hg b e).1
  have gl : ∀ b, G b ≠ 0 → b < B0 := fun b hb => Nat.lt_of_not_le fun e => hb (hg b e).2
  have hl : HLies x T D R top m.par L W' := h.ha.1.butw (fun b _ ht => hk b (tl b ht)) hs
  obtain ⟨cb, cap, g, htg, -⟩ := h.ha.1.rest
  have hA : At W' x.p x.d x.n D u := h.ha.2.move (hk _ (tl _ (by rw [htg.p]; omega))) (hk _ (tl _ (by rw [htg.d]; omega))) hs
  refine ⟨x, T, D, R, top, L, G, vk, vw, vm, vs, ⟨h.xh, ⟨hl, hA⟩, h.hp, h.ll.same (fun b hb => hk b (gl b hb)) ⟨rfl, rfl, rfl, rfl, rfl, rfl, rfl⟩ ⟨rfl, rfl, rfl, rfl, rfl⟩ ⟨rfl, rfl⟩, fun b hb => Nat.lt_of_lt_of_le (h.bs b hb) hs, fun b hb => h.hi b (Nat.le_trans hs hb), h.lo, fun b hb => ⟨(h.gt b hb).1, Nat.lt_of_lt_of_le (h.gt b hb).2.1 hs, (h.gt b hb).2.2⟩⟩, hg, hx, Nat.le_trans hB hs⟩
/-- What a call leaves that only reads. -/
def AftB (B0 : Nat) (Kx : Nat → Prop) (S : LSp) (m : LM) (v : Value) (w : World) (e : Ending) (w' : World) : Prop := e = .returned v ∧ (∃ u', LmB B0 Kx S m u' w') ∧ Kp Kx w w' ∧ ∀ b, B0 ≤ b → b < w.heap.size → w'.heap[b]? = w.heap[b]?
theorem lmB_get (h : LmB B0 Kx S m u W) {o : Ob} (ho : o ∈ m.O) {j : Int} (j0 : 0 ≤ j) (j1 : j < o.s) : Calls Try.prog 21 #[.pointer (some ⟨S.hb, 0, none⟩), .int .i64 o.p, .int .i64 j] W (AftB B0 Kx S m (.tuple #[.int .i64 (m.V o.p j), .int .i64 0]) W) := by
  obtain ⟨x, T, D, R, top, L, G, vk, vw, vm, vs, h, hg, hx, hB⟩ := h
  have o1 := h.hp.obj1 ho
  have hd := h.hp.hd o ho
  have hc := get_u x T D R top m.par L u W h.ha o.p o.k o.s o.a o.m o1.one o1.le h.hp.inv.n6 hd j ⟨j0, j1⟩
  rw [h.xh, h.hp.wd o ho j j0 j1] at hc
  refine hc.mono ?_
  rintro e w' ⟨rfl, u', ha', ht, hu⟩
  have hs := ht.size
  refine ⟨rfl, ⟨u', x, T, D, R, top, L, G, vk, vw, vm, vs, ⟨h.xh, ha', h.hp, h.ll.same (fun b hb => (ht.block b (h.gt b hb).2.1 (h.gt b hb).2.2).2) ⟨rfl, rfl, rfl, rfl, rfl, rfl, rfl⟩ ⟨rfl, rfl, rfl, rfl, rfl⟩ ⟨rfl, rfl⟩, fun b hb => Nat.lt_of_lt_of_le (h.bs b hb) hs, fun b hb => h.hi b (Nat.le_trans hs hb), h.lo, fun b hb => ⟨(h.gt b hb).1, Nat.lt_of_lt_of_le (h.gt b hb).2.1 hs, (h.gt b hb).2.2⟩⟩, hg, hx, Nat.le_trans hB hs⟩, ⟨ht.os, ht.tape, ht.output, hs, fun b hb => (ht.block b (h.bs b hb) (h.lo b hb)).2⟩, fun b h1 h2 => (ht.block b h2 (hg b h1).1).2⟩
set_option maxHeartbeats 1000000 in
theorem wbehindB (h : LmB B0 Kx S m u W) {o : Ob} (ho : o ∈ m.O) (hs : o.s = 4) : Calls Try.prog 37 #[.pointer (some ⟨S.tb, 0, none⟩), .int .i64 o.p] W (AftB B0 Kx S m (.int .i64 (m.V o.p 3)) W) := by
  have c0 := h.lm.a3.1.h
  have H1 := Lib.hid (lmB_get h ho (j := 3) (by decide) (by rw [hs]; decide))
  clear h ho hs
  generalize m.V o.p 3 = v at *
  go_enter Try.func37, Try.ntmps37
  go_wp2_with fail
  refine H1.out.mono ?_
  rintro e w2 ⟨rfl, h2⟩
  have HE := Lib.hid h2
  clear h2 H1 c0
  go_wp2_with fail
  go_ret
  exact ⟨rfl, HE.out⟩
end
/-- What stands between two rounds of list's loop. -/
structure Jt (B0 B M : Nat) (Kx : Nat → Prop) (S : LSp) (m : LM) (W0 : World) (pre : List Int) (W : World) : Prop where
  lm : ∃ u, LmB B0 Kx S m u W
  kp : Kp Kx W0 W
  v : ∃ v, W.cell? ⟨B, 0, none⟩ = some v ∧ W.ownsRow M 3 1 v pre.length (pre.map (.int .i64))
  fz : W.frozen? ⟨B, 0, none⟩ = false
  l1 : B0 ≤ B
  l3 : B < M
  l4 : M ≤ W.heap.size
section
variable {B0 B M : Nat} {Kx : Nat → Prop} {S : LSp} {m : LM} {W0 W W' : World} {pre : List Int}
theorem Jt.same (h : Jt B0 B M Kx S m W0 pre W) (hl : ∃ u, LmB B0 Kx S m u W') (hkp : Kp Kx W W') (hs : W.heap.size ≤ W'.heap.size) (hk : ∀ b o, B0 ≤ b → W.heap[b]? = some o → o.isCells = true → W'.heap[b]? = some o) : Jt B0 B M Kx S m W0 pre W' := by
  have c : ∀ (b j : Nat) (x : Value), B0 ≤ b → W.cell? ⟨b, j, none⟩ = some x → W'.heap[b]? = W.heap[b]? := fun b j x hb hx => by
    obtain ⟨o, ho, hoc⟩ := cells_of_cell hx
    exact (hk b o hb ho hoc).trans ho.symm
  obtain ⟨v, hv, hown⟩ := h.v
  have hB := c B 0 v h.l1 hv
  refine ⟨hl, h.kp.trans hkp, ⟨v, (World.cell?_of_block (w := W) hB).trans hv, ?_⟩, (World.frozen?_of_block (w := W) hB).trans h.fz, h.l1, h.l3, Nat.le_trans h.l4 hs⟩
  refine ⟨hown.1, ?_⟩
  rcases hown.2 with e | ⟨g, cap, cur, e, hg, hb, hr⟩
  · exact Or.inl e
  · exact Or.inr ⟨g, cap, cur, e, hg, hk g _ (by have := h.l1; have := h.l3; omega) hb rfl, hr⟩
theorem Jt.put (h : Jt B0 B M Kx S m W0 pre W) {l : Nat} {o o' : Obj} (hl : M ≤ l) (ho : W.heap[l]? = some o) (hoc : o.isCells = false) : Jt B0 B M Kx S m W0 pre (W.putObj l o') := by
  obtain ⟨u, hm⟩ := h.lm
  have l1 := h.l1
  have l3 := h.l3
  have hk : ∀ b, b ≠ l → (W.putObj l o').heap[b]? = W.heap[b]? := fun b hb => World.putObj_heap_other hb
  refine h.same ⟨u, hm.same (fun b hb => hk b (by omega)) (by simp)⟩ ⟨rfl, rfl, rfl, by simp, fun b hb => hk b (by have := hm.kx b hb; omega)⟩ (by simp) fun b x hb hx hxc => (hk b ?_).trans hx
  rintro rfl
  rw [ho] at hx
  cases hx
  rw [hoc] at hxc
  cases hxc
theorem Jt.below (h : Jt B0 B M Kx S m W0 pre W) (hb : Below W.heap.size W W') : Jt B0 B M Kx S m W0 pre W' := by
  obtain ⟨u, hm⟩ := h.lm
  have le := hm.le
  exact h.same ⟨u, hm.same (fun b hb2 => hb.block b (by omega)) hb.size⟩ (Kp.of_below hb fun b hk => by have := hm.kx b hk; omega) hb.size fun b x _ hx _ => (hb.block b (Array.getElem?_eq_some_iff.1 hx).1).trans hx
set_option maxRecDepth 100000 in
set_option maxHeartbeats 4000000 in
theorem along_each (n : Nat) (hn : 2 ≤ n) (l q1 q2 qb : Nat) (hqb : Kx qb) (cqb : W0.cell? ⟨qb, 0, none⟩ = some (.pointer (some ⟨S.tb, 0, none⟩))) (row : List Int) (hch : Ch m.V row) (hob : ∀ p, p ∈ row → ∃ o, o ∈ m.O ∧ o.p = p ∧ o.s = 4) (hpos : ∀ p, p ∈ row → 1 ≤ p) (hlen : row.length ≤ 1000) (J : List Int → World → Prop)
    (hJ : ∀ pre W, J pre W → Jt B0 B M Kx S m W0 pre W)
    (hT : ∀ pre W W', J pre W → (∃ u, LmB B0 Kx S m u W') → Kp Kx W W' → (∀ b, B0 ≤ b → b < W.heap.size → W'.heap[b]? = W.heap[b]?) → J pre W')
    (hY : ∀ pre x W, J pre W → pre ++ [x] <+: row → YieldAt Fence.wide (n - 1) Try.prog l #[.int .i64 x] W fun e W' => e = .returned (.bool true) ∧ J (pre ++ [x]) W')
    (W : World) (h0 : J [] W) (c1 : W.cell? ⟨q1, 0, none⟩ = some (.int .i64 (row.headD 0))) (c2 : W.cell? ⟨q2, 0, none⟩ = some (.int .i64 row.length)) :
    CallsIn Fence.wide n Try.prog 72 #[.func (.yield l) #[] #[], .pointer (some ⟨q1, 0, none⟩), .pointer (some ⟨q2, 0, none⟩), .pointer (some ⟨qb, 0, none⟩)] W fun e W' => (∃ v, e = .returned v) ∧ J row W' := by
  have h1n : 1 ≤ n := by omega
  have HJ := Lib.hid hJ
  have HT := Lib.hid hT
  have HY := Lib.hid hY
  have H0 := Lib.hid h0
  have HC := Lib.hid (And.intro hch (And.intro hob hpos))
  clear hJ hT hY h0 hch hob hpos
  refine callsIn_of_wp Try.func72 rfl trivial ?_ rfl
  simp only [Try.ntmps72, List.size_toArray, List.length_cons, List.length_nil, Nat.reduceAdd, Nat.reduceSub, Array.replicate_succ, Array.replicate_zero, List.push_toArray, List.append_toArray, List.nil_append, List.cons_append]
  gi_wp2_with fail
  clear c1 c2
  gi_loopw [5, 8] (fun s5 s8 wr => ∃ (j : Nat) (a b : List Int), row = a ++ b ∧ a.length = j ∧ s8 = .int .i64 j ∧ s5 = .int .i64 (b.headD 0) ∧ Ch m.V b ∧ J a wr) (fun _ s8 _ => row.length - (intOf s8).toNat)
  case atStart => exact ⟨0, [], row, rfl, rfl, rfl, by simp, HC.out.1, H0.out⟩
  case round =>
    obtain ⟨j, a, b, hab, haj, rfl, rfl, hchb, hj⟩ := hrel
    cases b with
    | nil =>
      have hjl : row.length = j := by rw [hab]; simpa using haj
      have HE := Lib.hid (And.intro hab hj)
      clear hab haj hj hchb
      gi_wp2_with fail
      go_end0
      obtain ⟨e1, e2⟩ := HE.out
      rw [List.append_nil] at e1
      subst e1
      exact ⟨⟨_, rfl⟩, e2⟩
    | cons c b =>
      have hjl : (j : Int) < row.length := by rw [hab]; simp; omega
      have hcm : c ∈ row := by rw [hab]; simp
      obtain ⟨o, ho, rfl, hs⟩ := HC.out.2.1 c hcm
      have hc0 : (o.p == 0) = false := by
        have := HC.out.2.2 o.p hcm
        have : o.p ≠ 0 := by omega
        simpa using this
      have hpx : a ++ [o.p] <+: row := ⟨b, by rw [hab]; simp⟩
      obtain ⟨fn, tmps, assign, body, hyy, hRR⟩ := HY.out _ _ _ hj hpx
      have HE := Lib.hid (And.intro hab (And.intro haj (And.intro hchb (And.intro ho hs))))
      clear hab haj hj hpx hcm hchb ho hs
      simp only [List.headD_cons]
      gi_wp2_with fail
      refine hRR.mono ?_
      rintro e W3 ⟨rfl, hj3⟩
      obtain ⟨u3, hm3⟩ := (HJ.out _ _ hj3).lm
      have c3 := (HJ.out _ _ hj3).kp.cell hqb cqb
      have hB := wbehindB hm3 HE.out.2.2.2.1 HE.out.2.2.2.2
      rw [HE.out.2.2.1.1] at hB
      have HB := Lib.hid hB
      have HJ3 := Lib.hid hj3
      clear hm3 hj3 hB hRR hyy
      gi_wp2_with fail
      refine ⟨trivial, ?_⟩
      refine (callsIn_wide.2 HB.out).mono ?_
      rintro e W4 ⟨rfl, hl4, hk4, hb4⟩
      have HJ4 := Lib.hid (HT.out _ _ _ HJ3.out hl4 hk4 hb4)
      clear HB HJ3 hl4 hk4 hb4 c3
      gi_wp2_with fail
      obtain ⟨e1, e2, e3, _⟩ := HE.out
      refine ⟨⟨j + 1, a ++ [o.p], b, by simp [e1], by simp [e2], by go_num, by simp, e3.2, HJ4.out⟩, ?_⟩
      simp [intOf]
      omega
end
end Go.Proofs.Ythliahaopelooaa
/- The table's Row and Queue. -/
namespace Go.Proofs.Ythliahaopelooaa
open Go.RowKit Go.Shelf
attribute [local go_sem] Oper.semAt_some
section
variable {B0 B M : Nat} {Kx : Nat → Prop} {S : LSp} {m : LM} {W0 W W' : World} {pre : List Int}
theorem Jt.push (h : Jt B0 B M Kx S m W0 pre W) {x : Int} {tmp : Obj} {v v' : Value} {w1 : World} {n : Nat} (hv : W.cell? ⟨B, 0, none⟩ = some v) (ho : W.ownsRow M 3 1 v pre.length (pre.map (.int .i64)))
    (hown : w1.ownsRow M 3 1 v' n (pre.map (.int .i64) ++ [.int .i64 x])) (hgr : (W.alloc tmp).grownBy w1 v.ownBlock) :
    Jt B0 B M Kx S m W0 (pre ++ [x]) (w1.setCell ⟨B, 0, none⟩ v') ∧ KeepsOthers W (w1.setCell ⟨B, 0, none⟩ v') ∧ w1.cell? ⟨B, 0, none⟩ = some v ∧ w1.frozen? ⟨B, 0, none⟩ = false := by
  have l1 := h.l1
  have l3 := h.l3
  have l4 := h.l4
  have hs := hgr.size
  simp only [World.size_alloc] at hs
  have hrow : ∀ j, v.ownBlock = some j → M ≤ j := fun j e => (ho.lt j e).1
  have keep : ∀ b, b < M → w1.heap[b]? = W.heap[b]? := fun b hb => by
    refine (hgr.block b (by simp; omega) fun e => ?_).trans (Below.heap_alloc _ _ _ (by omega))
    have := hrow b e.symm
    omega
  have hc1 : w1.cell? ⟨B, 0, none⟩ = some v := (World.cell?_of_block (w := W) (keep B l3)).trans hv
  have hf1 : w1.frozen? ⟨B, 0, none⟩ = false := (World.frozen?_of_block (w := W) (keep B l3)).trans h.fz
  have keep2 : ∀ b, b < M → b ≠ B → (w1.setCell ⟨B, 0, none⟩ v').heap[b]? = W.heap[b]? := fun b hb hne => (Below.heap_setCell _ _ _ _ hne).trans (keep b hb)
  have sz : (w1.setCell ⟨B, 0, none⟩ v').heap.size = w1.heap.size := by simp [World.setCell]
  obtain ⟨u, hm⟩ := h.lm
  refine ⟨⟨⟨u, hm.same (fun b hb => keep2 b (by omega) (by omega)) (by omega)⟩, h.kp.trans ⟨?_, ?_, ?_, by omega, fun b hb => keep2 b (by have := hm.kx b hb; omega) (by have := hm.kx b hb; omega)⟩, ⟨v', World.cell?_setCell_same _ _ _ hc1, ?_⟩, (World.frozen?_setCell _ _ _ _).trans hf1, l1, l3, by omega⟩, ?_, hc1, hf1⟩
  · exact hgr.os
  · exact hgr.tape
  · exact hgr.output
  · have hl : n = (pre ++ [x]).length := by
      have := hown.1
      simp at this ⊢
      omega
    have he : (pre ++ [x]).map (Value.int .i64) = pre.map (.int .i64) ++ [.int .i64 x] := by simp
    rw [he, ← hl]
    exact own_samew hown fun g hg => Below.heap_setCell _ _ _ _ (show g ≠ B from fun e => by
      have := (hown.lt g hg).1
      omega)
  · refine ((KeepsOthers.alloc W tmp).trans (KeepsOthers.of_grownBy hgr fun j o ej hj => ?_)).trans (KeepsOthers.setCell _ _ _)
    rcases (ho.alloc tmp).2 with ⟨e, _⟩ | ⟨g, cap, cur, e, _, hgb, _⟩
    · rw [e] at ej
      simp [Value.ownBlock] at ej
    · rw [e] at ej
      obtain rfl : g = j := by simpa [Value.ownBlock] using ej
      rw [hgb] at hj
      cases hj
      rfl
theorem LmB.own {u : Int} (h : LmB B0 Kx S m u W) (K2 : Nat → Prop) (hk : ∀ b, K2 b → B0 ≤ b ∧ b < W.heap.size) : Lm (fun b => Kx b ∨ K2 b) S m u W := by
  obtain ⟨x, T, D, R, top, L, G, vk, vw, vm, vs, k, hg, hx, hB⟩ := h
  refine ⟨x, T, D, R, top, L, G, vk, vw, vm, vs, k.xh, k.ha, k.hp, k.ll, fun b hb => ?_, k.hi, fun b hb => ?_, fun b hb => ⟨fun e => ?_, (k.gt b hb).2⟩⟩
  · rcases hb with hb | hb
    · exact k.bs b hb
    · exact (hk b hb).2
  · rcases hb with hb | hb
    · exact k.lo b hb
    · exact (hg b (hk b hb).1).1
  · rcases e with e | e
    · exact (k.gt b hb).1 e
    · exact hb (hg b (hk b e).1).2
/-- What Row and Queue tell: a row of its own. -/
def RowSaid (Kx : Nat → Prop) (S : LSp) (m : LM) (row : List Int) (W : World) (e : Ending) (w' : World) : Prop :=
  ∃ v, e = .returned v ∧ Rw 0 w' v row ∧ (∃ u', Lm (fun b => Kx b ∨ v.ownBlock = some b) S m u' w') ∧ Kp Kx W w'
set_option maxRecDepth 100000 in
set_option maxHeartbeats 8000000 in
theorem list_any {u : Int} {q1 q2 qb : Nat} (row : List Int) (hm : Lm Kx S m u W) (hch : Ch m.V row) (hob : ∀ p, p ∈ row → ∃ o, o ∈ m.O ∧ o.p = p ∧ o.s = 4) (hpos : ∀ p, p ∈ row → 1 ≤ p) (hlen : row.length ≤ 1000)
    (c1 : W.cell? ⟨q1, 0, none⟩ = some (.int .i64 (row.headD 0))) (c2 : W.cell? ⟨q2, 0, none⟩ = some (.int .i64 row.length)) (c3 : W.cell? ⟨qb, 0, none⟩ = some (.pointer (some ⟨S.tb, 0, none⟩))) (k1 : Kx q1) (k2 : Kx q2) (k3 : Kx qb) :
    Calls Try.prog 48 #[.func (.func 72) #[] #[.pointer (some ⟨q1, 0, none⟩), .pointer (some ⟨q2, 0, none⟩), .pointer (some ⟨qb, 0, none⟩)]] W (RowSaid Kx S m row W) := by
  obtain ⟨i0, hi, hz0, hz1, hz2⟩ := info_parts Try.info_intw
  have hx := (Below.refl W.heap.size W).alloc (Nat.le_refl _) (.cells #[.slice none 0 0] 22)
  have hj0 : Jt W.heap.size W.heap.size (W.alloc (.cells #[.slice none 0 0] 22)).heap.size Kx S m W [] (W.alloc (.cells #[.slice none 0 0] 22)) := by
    refine ⟨⟨u, hm.toB.same (fun b hb => hx.block b hb) hx.size⟩, Kp.of_below hx hm.bs, ⟨.slice none 0 0, by simp [go_sem], World.ownsRow_nil _ _ _ _⟩, by simp [go_sem], Nat.le_refl _, by simp, Nat.le_refl _⟩
  have HJ0 := Lib.hid hj0
  have HC := Lib.hid (And.intro hch (And.intro hob (And.intro hpos (And.intro c1 (And.intro c2 c3)))))
  clear hj0 hch hob hpos hm c1 c2 c3
  refine (callsIn_wide (n := 4)).1 ?_
  refine callsIn_of_wp_marks Try.func48 rfl trivial ?_ rfl
  simp only [Try.ntmps48, List.size_toArray, List.length_cons, List.length_nil, Nat.reduceAdd, Nat.reduceSub, Array.replicate_succ, Array.replicate_zero, List.push_toArray, List.append_toArray, List.nil_append, List.cons_append]
  gi_wp2_with fail
  rename_i Kk hcont
  have hW1 : W.heap.size < (W.alloc (.cells #[.slice none 0 0] 22)).heap.size := by simp
  generalize (W.alloc (.cells #[.slice none 0 0] 22)) = W1 at HJ0 HC hx hW1 ⊢
  refine range_by (gf := 72) (lb := #[.pointer (some ⟨q1, 0, none⟩), .pointer (some ⟨q2, 0, none⟩), .pointer (some ⟨qb, 0, none⟩)]) rfl (enters_of Try.func72 (by kernel_rfl) rfl) (fun x : Int => #[.int .i64 x]) (fun _ => rfl) row (Jt W.heap.size W.heap.size W1.heap.size Kx S m W) ?hput ?h0
    (fun x => { tmps := #[.func (.func 72) #[] #[.pointer (some ⟨q1, 0, none⟩), .pointer (some ⟨q2, 0, none⟩), .pointer (some ⟨qb, 0, none⟩)], undef, .slice none 0 0, .pointer (some ⟨W.heap.size, 0, none⟩), .int .i64 x, .func (.func 72) #[] #[.pointer (some ⟨q1, 0, none⟩), .pointer (some ⟨q2, 0, none⟩), .pointer (some ⟨qb, 0, none⟩)], .int .i64 x, undef, undef, undef, undef, undef], defers := [] }) ?assign ?body ?iter ?done
  case hput =>
    intro pre V l o o' hj hl ho hoc
    exact hj.put hl ho hoc
  case h0 =>
    intro o o'
    exact HJ0.out.below (((Below.refl W1.heap.size W1).alloc (Nat.le_refl _) o).alloc (by simp) o')
  case assign =>
    intro l x V K hK
    gi_wp2
    exact hK
  case body =>
    intro l pre x V hj hp
    obtain ⟨v, hv, ho⟩ := hj.v
    have hl1 : pre.length + 1 ≤ 1000 := by
      have h1 := hp.length_le
      simp at h1
      omega
    have l4 := hj.l4
    have HJ := Lib.hid (And.intro hj ho)
    clear hj hp ho
    gi_wp2_with (gi_at_builtin; refine wpListIn_append_own _ rfl _ _ 22 rfl W1.heap.size 3 i0 (.int .i64 0) 1 8 Try.underlying22 hi hz0 hz1 hz2 rfl (by decide) _ _ _ rfl (HJ.out.2.alloc _) ⟨V.heap.size, 0, none⟩ 1 1 [.int .i64 x] rfl rfl (cell_one_new _ _ _) (by simp [Value.oneCell']) (by unfold maxLen; omega) (by omega) (by simp; omega) ?_; intro v' w1 hown' hgrow _; obtain ⟨g', cap', rfl⟩ := ownsRow_succ hown'; obtain ⟨p1, p2, p3, p4⟩ := HJ.out.1.push hv HJ.out.2 hown' hgrow)
    exact ⟨p2, p1⟩
  case iter =>
    intro r V1 hY h0 hB
    refine (along_each (B0 := W.heap.size) (B := W.heap.size) (M := W1.heap.size) (Kx := Kx) (S := S) (m := m) (W0 := W) 3 (by decide) (W1.heap.size + 1) q1 q2 qb k3 HC.out.2.2.2.2.2 row HC.out.1 HC.out.2.1 HC.out.2.2.1 hlen (fun pre V => Jt W.heap.size W.heap.size W1.heap.size Kx S m W pre V ∧ Book W1.heap.size r V) (fun pre V h => h.1) ?_ ?_ V1 ⟨h0, hB⟩ ?_ ?_).mono ?_
    · rintro pre V V' ⟨hj, hb⟩ hl hk hbb
      have hlt := hb.lt
      refine ⟨hj.same hl hk hk.size fun b o h1 ho _ => (hbb b h1 (Array.getElem?_eq_some_iff.1 ho).1).trans ho, hb.kept (hbb _ (by omega) (by omega)) (hbb _ (by omega) (by omega))⟩
    · rintro pre x V ⟨hj, hb⟩ hp
      obtain ⟨fn, tmps, assign, body, h1, h2⟩ := hY pre x V hj hb hp
      exact ⟨fn, tmps, assign, body, h1, h2⟩
    · exact h0.kp.cell k1 HC.out.2.2.2.1
    · exact h0.kp.cell k2 HC.out.2.2.2.2.1
    · rintro e V' ⟨h1, h2, h3⟩
      exact ⟨h1, h2, h3⟩
  case done =>
    intro D' V hD hj hK
    have hj' := hj.put (o' := .deferred none) hD hK rfl
    obtain ⟨v, hv', hown⟩ := hj'.v
    have l3 := hj.l3
    have hv : V.cell? ⟨W.heap.size, 0, none⟩ = some v := ((World.cell?_of_block (w := V) (World.putObj_heap_other (by simp only; omega))).symm).trans hv'
    have HE := Lib.hid (And.intro hj' hown)
    clear hj hj' hv' hown
    refine hcont _ _ ?_
    gi_wp2
    refine ⟨by simp, .inl ⟨_, _, rfl, run_takeDeferred hK, ?_⟩⟩
    obtain ⟨u', hlm⟩ := HE.out.1.lm
    refine ⟨v, ?_, v, rfl, ?_, ⟨u', hlm.own _ fun b hb => ?_⟩, HE.out.1.kp⟩
    · simp [results, Try.results48, go_sem]
    · have h := HE.out.2
      refine ⟨h.1, ?_⟩
      rcases h.2 with e | ⟨g, cap, cur, e, hg, hb, hr⟩
      · exact Or.inl e
      · exact Or.inr ⟨g, cap, cur, e, Nat.zero_le _, hb, hr⟩
    · have := HE.out.2.lt b hb
      exact ⟨by omega, this.2⟩
end
end Go.Proofs.Ythliahaopelooaa
