/- The document's Do: Begin, Scan. -/
import Derived.Test.YtalfhcmccdnajaaSkZ
namespace Go.Proofs.Ytalfhcmccdnajaa
open Go.RowKit Go.Sort

theorem todo_ext {n left : Nat} {bs : List Bool} (hl : bs.length = n) (h : ∀ j, j < n → bs[j]? = some (decide (j < left))) : bs = todo n left := by
  apply List.ext_getElem? 
  intro j
  by_cases hj : j < n
  · rw [h j hj, todo_get hj]
  · rw [List.getElem?_eq_none (by omega), List.getElem?_eq_none (by rw [todo_length]; omega)]
theorem todo_set {n left left' i : Nat} {b : Bool} (h1 : b = decide (i < left')) (h2 : ∀ j, j < n → j ≠ i → (j < left ↔ j < left')) : (todo n left).set i b = todo n left' := by
  refine todo_ext (by simp [todo_length]) fun j hj => ?_
  by_cases e : i = j
  · subst e; rw [List.getElem?_set, if_pos rfl, if_pos (by rw [todo_length]; omega), h1]
  · rw [List.getElem?_set, if_neg e, todo_get hj]; simp only [decide_eq_decide.2 (h2 j hj (fun e' => e e'.symm))]
theorem BsAt.put {W : World} {g len cap : Nat} {bs : List Bool} (h : BsAt W (.slice (some ⟨g, 0, none⟩) len cap) bs) {i : Nat} (b : Bool) : BsAt (W.setCell ⟨g, i, none⟩ (.bool b)) (.slice (some ⟨g, 0, none⟩) len cap) (bs.set i b) := by
  rcases h with ⟨h, -⟩ | ⟨g', cap', cur, hv, hg, h1, h2, h3, h4⟩
  · cases h
  · simp only [Value.slice.injEq, Option.some.injEq, Addr.mk.injEq, and_true] at hv
    obtain ⟨rfl, rfl, rfl⟩ := hv
    refine Or.inr ⟨g, cap, cur.set! i (.bool b), by rw [List.length_set], ?_, by rw [List.length_set]; exact h1, h2, by simpa using h3, ?_⟩
    · exact heap_setCell_same _ _ _ _ _ _ hg
    · rw [List.length_set, List.map_set, ← h4, show (cur.set! i (Value.bool b)).toList = cur.toList.set i (.bool b) from Array.toList_setIfInBounds, List.take_set]
/-- Nothing of the document's is touched. -/
theorem Rf.keep {W W' : World} {q left : Nat} {vL vT : Value} {room : Int} {L : List Fr} (h : Rf W q vL vT room L left) (hq : W'.heap[q]? = W.heap[q]?) (hL : ∀ g, vL.ownBlock = some g → W'.heap[g]? = W.heap[g]?) (hT : ∀ g, vT.ownBlock = some g → W'.heap[g]? = W.heap[g]?) : Rf W' q vL vT room L left :=
  ⟨(World.cell?_of_block (w := W) hq).trans h.c0, (World.cell?_of_block (w := W) hq).trans h.c1, (World.cell?_of_block (w := W) hq).trans h.c2, (World.frozen?_of_block (w := W) hq).trans h.z0, (World.frozen?_of_block (w := W) hq).trans h.z1, h.fs.move hL, h.bs.move hT, h.nl, h.nt, h.lt⟩
/-- A sign turned. -/
theorem Rf.flag {W : World} {q left left' g cap : Nat} {vL : Value} {room : Int} {L : List Fr} (h : Rf W q vL (.slice (some ⟨g, 0, none⟩) L.length cap) room L left) {i : Nat} (b : Bool) (e : (todo L.length left).set i b = todo L.length left') :
    Rf (W.setCell ⟨g, i, none⟩ (.bool b)) q vL (.slice (some ⟨g, 0, none⟩) L.length cap) room L left' ∧ RTurn q vL (.slice (some ⟨g, 0, none⟩) L.length cap) W (W.setCell ⟨g, i, none⟩ (.bool b)) := by
  have far : ∀ k, k ≠ g → (W.setCell ⟨g, i, none⟩ (.bool b)).heap[k]? = W.heap[k]? := fun k hk => Below.heap_setCell _ _ _ _ hk
  have hq : (W.setCell ⟨g, i, none⟩ (.bool b)).heap[q]? = W.heap[q]? := far q (fun e => h.nt (by rw [e]; rfl))
  have hL : ∀ x, vL.ownBlock = some x → (W.setCell ⟨g, i, none⟩ (.bool b)).heap[x]? = W.heap[x]? := fun x hx => far x (fun e => h.lt (by rw [hx]; simp) (by rw [hx, e]; rfl))
  have hb := h.bs.put (i := i) b
  rw [e] at hb
  exact ⟨⟨(World.cell?_of_block (w := W) hq).trans h.c0, (World.cell?_of_block (w := W) hq).trans h.c1, (World.cell?_of_block (w := W) hq).trans h.c2, (World.frozen?_of_block (w := W) hq).trans h.z0, (World.frozen?_of_block (w := W) hq).trans h.z1, h.fs.move hL, hb, h.nl, h.nt, h.lt⟩, rfl, rfl, rfl, by simp [World.setCell], fun k _ _ _ h2 => far k (fun e => h2 (by rw [e]; rfl))⟩
section
variable {q : Nat} {vL vT : Value} {W W' W'' : World}
theorem RTurn.refl : RTurn q vL vT W W := ⟨rfl, rfl, rfl, Nat.le_refl _, fun _ _ _ _ _ => rfl⟩
theorem RTurn.trans (h : RTurn q vL vT W W') (k : RTurn q vL vT W' W'') : RTurn q vL vT W W'' :=
  ⟨k.os.trans h.os, k.tape.trans h.tape, k.output.trans h.output, Nat.le_trans h.size k.size, fun i hi h1 h2 h3 => (k.block i (Nat.lt_of_lt_of_le hi h.size) h1 h2 h3).trans (h.block i hi h1 h2 h3)⟩
end
theorem RTurn.after {q : Nat} {vL vT : Value} {w W W' : World} (hb : Below w.heap.size w W) (h : RTurn q vL vT W W') : RTurn q vL vT w W' :=
  ⟨h.os.trans hb.os, h.tape.trans hb.tape, h.output.trans hb.output, Nat.le_trans hb.size h.size, fun i hi h1 h2 h3 => (h.block i (Nat.lt_of_lt_of_le hi hb.size) h1 h2 h3).trans (hb.block i hi)⟩
/-- What a call leaves, as long as boxes of its own (from w on, below n) are written still. -/
def RDidB (q : Nat) (room : Int) (vL vT : Value) (w : World) (n : Nat) (L : List Fr) (left : Nat) (W : World) : Prop :=
  ∃ vL' vT', Rf W q vL' vT' room L left ∧ RTurn q vL vT w W ∧ (∀ g, vL'.ownBlock = some g → vL.ownBlock = some g ∨ n ≤ g) ∧ ∀ g, vT'.ownBlock = some g → vT.ownBlock = some g ∨ n ≤ g
section
variable {q n left : Nat} {room : Int} {vL vT : Value} {w W : World} {L : List Fr}
theorem RDidB.did (h : RDidB q room vL vT w n L left W) (hn : w.heap.size ≤ n) : RDid q room vL vT w L left W := by
  obtain ⟨a, b, h1, h2, h3, h4⟩ := h
  exact ⟨a, b, h1, h2, fun g hg => (h3 g hg).imp id (by omega), fun g hg => (h4 g hg).imp id (by omega)⟩
theorem RDidB.box (h : RDidB q room vL vT w n L left W) (hq : q < w.heap.size) (hl : ∀ g, vL.ownBlock = some g → g < w.heap.size) (ht : ∀ g, vT.ownBlock = some g → g < w.heap.size) {b i : Nat} (hb : w.heap.size ≤ b) (hbn : b < n) (u : Value) : RDidB q room vL vT w n L left (W.setCell ⟨b, i, none⟩ u) := by
  obtain ⟨vl, vt, h1, h2, h3, h4⟩ := h
  have far : ∀ k, k ≠ b → (W.setCell ⟨b, i, none⟩ u).heap[k]? = W.heap[k]? := fun k hk => Below.heap_setCell _ _ _ _ hk
  exact ⟨vl, vt, h1.keep (far q (by omega)) (fun g hg => far g (by rcases h3 g hg with h | h; (have := hl g h; omega); omega)) (fun g hg => far g (by rcases h4 g hg with h | h; (have := ht g h; omega); omega)), ⟨h2.os, h2.tape, h2.output, by have := h2.size; simpa [World.setCell] using this, fun k hk k1 k2 k3 => (far k (by omega)).trans (h2.block k hk k1 k2 k3)⟩, h3, h4⟩
theorem RDidB.six (h : RDidB q room vL vT w n L left W) (hq : q < w.heap.size) (hl : ∀ g, vL.ownBlock = some g → g < w.heap.size) (ht : ∀ g, vT.ownBlock = some g → g < w.heap.size) {b : Nat} (hb : w.heap.size ≤ b) (hbn : b < n) (x0 x1 x2 x3 x4 x5 : Value) :
    RDidB q room vL vT w n L left ((((((W.setCell ⟨b, 0, none⟩ x0).setCell ⟨b, 1, none⟩ x1).setCell ⟨b, 2, none⟩ x2).setCell ⟨b, 3, none⟩ x3).setCell ⟨b, 4, none⟩ x4).setCell ⟨b, 5, none⟩ x5) :=
  (((((h.box hq hl ht hb hbn _).box hq hl ht hb hbn _).box hq hl ht hb hbn _).box hq hl ht hb hbn _).box hq hl ht hb hbn _).box hq hl ht hb hbn _
end

set_option maxHeartbeats 4000000 in
set_option maxRecDepth 100000 in
theorem rdo_begin (q left : Nat) (vL vT : Value) (room k n : Int) (a : Option Addr) (m c : Nat) (L : List Fr) (w : World) (h : Rf w q vL vT room L left) (hl : L.length ≤ 2048) (hle : left ≤ L.length) :
    Calls Try.prog 12 #[.pointer (some ⟨q, 0, none⟩), .agg #[.int .i64 3, .int .i64 k, .int .i64 n, .slice a m c]] w fun e w' => e = .returned (.agg #[.int .i64 0, .int .i64 0, .slice none 0 0, .bool false, .bool false, .int .i64 0]) ∧ RDid q room vL vT w L L.length w' := by
  obtain ⟨W, hW, hb, hz, y0, y1⟩ := rdo_boxes w 3 k n a m c
  have hR := h.later hb
  have hlo := h.fs.lt
  have hto := h.bs.lt
  have hqo := h.lq
  obtain ⟨aL, cL, hvL⟩ := hR.fs.sl
  obtain ⟨aT, cT, hvT⟩ := hR.bs.sl
  rw [todo_length] at hvT
  have g0 := hR.c0
  rw [hvL] at g0
  have x0 := cell_of_row _ _ 0 _ _ _ y0
  rw [hW] at x0 g0
  have HX := Lib.hid (And.intro h (And.intro (And.intro hR (And.intro hb (And.intro hz (And.intro y1 hvT)))) (And.intro hlo (And.intro hto hqo))))
  have HL := Lib.hid (And.intro hl hle)
  clear h hR hb hz y0 y1 hlo hto hqo hvL hvT hle
  go_enter Try.func12, Try.ntmps12
  go_wp2_with fail
  rw [← hW]
  clear hW x0 g0
  go_loopw [7] (fun s7 wr => ∃ i left' : Nat, i ≤ L.length ∧ left' = max i left ∧ s7 = .int .i64 i ∧ Rf wr q vL vT room L left' ∧ RTurn q vL vT W wr ∧ wr.heap.size = W.heap.size) (fun s7 _ => L.length - (RowKit.intOf s7).toNat)
  case atStart => exact ⟨0, left, Nat.zero_le _, by omega, rfl, HX.out.2.1.1, RTurn.refl, rfl⟩
  case round =>
    obtain ⟨i, left', hi, hm', rfl, hRr, hTr, hsr⟩ := hrel
    by_cases hlt : i < L.length
    · obtain ⟨g, cT', hv', hc1, hg, hc, hfz⟩ := hRr.bs.cell (todo_get (left := left') hlt)
      rw [todo_length] at hv' hc1
      have c1 := hRr.c1
      rw [hv'] at c1
      have hfl := (hv' ▸ hRr).flag (i := i) true (left' := max (i + 1) left) (todo_set (by simp; omega) (fun j _ hj => by omega))
      have HF := Lib.hid (And.intro hfl (And.intro hTr (And.intro hsr (And.intro hv' hRr))))
      have hlt' : (i : Int) < (L.length : Int) := by omega
      clear hRr hTr hsr hm' hfl hv'
      go_wp2_with fail
      go_roundw
      case rel => exact ⟨i + 1, max (i + 1) left, by omega, rfl, by go_num, by have h1 := HF.out.1.1; rw [← HF.out.2.2.2.1] at h1; exact h1, HF.out.2.1.trans (by have h1 := HF.out.1.2; rw [← HF.out.2.2.2.1] at h1; exact h1), by have h1 := HF.out.2.2.1; simpa [World.setCell] using h1⟩
      case measure => simp [RowKit.intOf]; omega
    · obtain rfl : i = L.length := by omega
      have hle := HL.out.2
      obtain rfl : left' = L.length := by omega
      have hz := HX.out.2.1.2.2.1
      have hqo := HX.out.2.2.2.2
      have hlo := HX.out.2.2.1
      have hto := HX.out.2.2.2.1
      have HD : Hid (RDidB q room vL vT w W.heap.size L L.length wr) := ⟨vL, vT, hRr, hTr.after HX.out.2.1.2.1, fun _ hg => Or.inl hg, fun _ hg => Or.inl hg⟩
      have r1 := (hTr.block (w.heap.size + 1) (by omega) (by omega) (fun e => by have := hlo _ e.symm; omega) (fun e => by have := hto _ e.symm; omega)).trans HX.out.2.1.2.2.2.1
      have t0 := cell_of_row _ _ 0 _ _ _ r1
      have t1 := cell_of_row _ _ 1 _ _ _ r1
      have t2 := cell_of_row _ _ 2 _ _ _ r1
      have t3 := cell_of_row _ _ 3 _ _ _ r1
      have t4 := cell_of_row _ _ 4 _ _ _ r1
      have t5 := cell_of_row _ _ 5 _ _ _ r1
      have ft0 := frozen_of_row _ _ 0 _ _ r1
      have ft1 := frozen_of_row _ _ 1 _ _ r1
      have ft2 := frozen_of_row _ _ 2 _ _ r1
      have ft3 := frozen_of_row _ _ 3 _ _ r1
      have ft4 := frozen_of_row _ _ 4 _ _ r1
      have ft5 := frozen_of_row _ _ 5 _ _ r1
      clear r1 hRr hTr hsr hm' hle hi hlt hlo hto hqo
      go_wp2_with fail
      obtain ⟨Z, hZ, z0, z1, z2, z3, z4, z5⟩ := six_cells (b := w.heap.size + 1) (.int .i64 0) (.int .i64 0) (.slice none 0 0) (.bool false) (.bool false) (.int .i64 0) t0 t1 t2 t3 t4 t5
      have HZ : RDid q room vL vT w L L.length Z := by rw [hZ]; exact (HD.out.six HX.out.2.2.2.2 HX.out.2.2.1 HX.out.2.2.2.1 (by omega) (by omega) _ _ _ _ _ _).did (by omega)
      rw [← hZ]
      exact bodyPost_ret (v := .agg #[.int .i64 0, .int .i64 0, .slice none 0 0, .bool false, .bool false, .int .i64 0]) (by simp [results, Try.results12, go_sem, z0, z1, z2, z3, z4, z5]) rfl ⟨rfl, HZ⟩

end Go.Proofs.Ytalfhcmccdnajaa
