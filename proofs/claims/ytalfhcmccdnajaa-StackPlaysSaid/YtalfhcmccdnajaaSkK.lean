/- Scan. -/
import Derived.Test.YtalfhcmccdnajaaSkJ
namespace Go.Proofs.Ytalfhcmccdnajaa
open Go.RowKit Go.Sort

/-- The two boxes of a call: one with the stack's address, one for its answer. -/
theorem two_boxes (w : World) (p : Nat) :
    ∃ W, W = (w.alloc (.cells #[.pointer (some ⟨p, 0, none⟩)] 25)).alloc (.cells #[.int .i64 0, .int .i64 0, .slice none 0 0] TF) ∧ Below w.heap.size w W ∧ W.heap.size = w.heap.size + 2 ∧ W.cell? ⟨w.heap.size, 0, none⟩ = some (.pointer (some ⟨p, 0, none⟩)) ∧ W.heap[w.heap.size + 1]? = some (.cells #[.int .i64 0, .int .i64 0, .slice none 0 0] TF (0, 0)) := by
  have hb := ((Below.refl w.heap.size w).alloc (Nat.le_refl _) (.cells #[.pointer (some ⟨p, 0, none⟩)] 25)).alloc (by simp) (.cells #[.int .i64 0, .int .i64 0, .slice none 0 0] TF)
  have hz : (w.alloc (.cells #[.pointer (some ⟨p, 0, none⟩)] 25)).heap.size = w.heap.size + 1 := World.size_alloc ..
  refine ⟨_, rfl, hb, by rw [World.size_alloc, hz], ?_, ?_⟩
  · have e : ((w.alloc (.cells #[.pointer (some ⟨p, 0, none⟩)] 25)).alloc (.cells #[.int .i64 0, .int .i64 0, .slice none 0 0] TF)).heap[w.heap.size]? = some (.cells #[.pointer (some ⟨p, 0, none⟩)] 25 (0, 0)) := by
      rw [Below.heap_alloc _ _ _ (by omega)]; exact heap_alloc_new _ _
    exact cell_of_row _ _ 0 _ _ _ e
  · rw [← hz]; exact heap_alloc_new _ _

set_option maxHeartbeats 4000000 in
theorem scan_none (p : Nat) (room : Int) (v : Value) (L : List Fr) (w : World) (h : St w p room v L 0) :
    Calls Try.prog 23 #[.pointer (some ⟨p, 0, none⟩)] w fun e w' => e = .returned (.tuple #[.agg #[.int .i64 0, .int .i64 0, .slice none 0 0], .bool false]) ∧ Below w.heap.size w w' := by
  obtain ⟨W, hW, hb, hz, hB, hR⟩ := two_boxes w p
  have h1 := h.later hb
  have g3 := h1.c3
  have HX := Lib.hid (And.intro hb (And.intro hR hz))
  have hmf := Try.mkf
  clear h h1 hb hR hz
  go_enter Try.func23, Try.ntmps23
  go_wp2_with fail
  rw [← hW]
  clear hW
  go_region_law (refine step_wanted rfl ?_; go_simp; go_at_call 29; refine (tell_none _ _ _).mono ?_; rintro e w1 ⟨rfl, hb1⟩; have HB1 : Hid (Below W.heap.size W w1) := (⟨hb1.os, hb1.tape, hb1.output, hb1.size, hb1.block⟩ : Below W.heap.size W w1); have r7 := (HB1.out.block (w.heap.size + 1) (by have := HX.out.2.2; omega)).trans HX.out.2.1; have x0 := cell_of_row _ _ 0 _ _ _ r7; have x1 := cell_of_row _ _ 1 _ _ _ r7; have x2 := cell_of_row _ _ 2 _ _ _ r7; have t0 := frozen_of_row _ _ 0 _ _ r7; have t1 := frozen_of_row _ _ 1 _ _ r7; have t2 := frozen_of_row _ _ 2 _ _ r7; clear r7 hb1)
  all_goals
    go_wp2_with fail
    obtain ⟨z0, z1, z2⟩ := three_cells (W := w1) (b := w.heap.size + 1) _ _ _ (.int .i64 0) (.int .i64 0) (.slice none 0 0) x0 x1 x2
    exact bodyPost_ret (v := .tuple #[.agg #[.int .i64 0, .int .i64 0, .slice none 0 0], .bool false]) (by simp [results, Try.results23, go_sem, z0, z1, z2]) rfl ⟨rfl, three_below (HX.out.1.trans (HB1.out.mono HX.out.1.size)) (Nat.le_succ _) _ _ _⟩

/-- A frame handed on through a box of one's own. -/
theorem Gave.box2 {f : Fr} {w W w1 : World} {u : Value} {b : Nat} (h : Gave f W u w1) (hb : b < W.heap.size) (hs : w.heap.size ≤ W.heap.size) (x y z : Value) : Gave f w u (((w1.setCell ⟨b, 0, none⟩ x).setCell ⟨b, 1, none⟩ y).setCell ⟨b, 2, none⟩ z) := by
  obtain ⟨g, e, h1, h2, h3, h4⟩ := h
  refine ⟨g, e, h1.move (fun k hk e => ⟨e, ?_⟩) (by simp [World.setCell]), by omega, by simp [World.setCell]; omega, fun i => by rw [World.frozen?_setCell, World.frozen?_setCell, World.frozen?_setCell]; exact h4 i⟩
  rw [Below.heap_setCell _ _ _ _ (by show k ≠ b; omega), Below.heap_setCell _ _ _ _ (by show k ≠ b; omega), Below.heap_setCell _ _ _ _ (by show k ≠ b; omega)]

set_option maxHeartbeats 4000000 in
theorem scan_some (p j : Nat) (room : Int) (v : Value) (L : List Fr) (f : Fr) (w : World) (h : St w p room v L (j + 1)) (hj : L[j]? = some f) :
    Calls Try.prog 23 #[.pointer (some ⟨p, 0, none⟩)] w fun e w' => ∃ u, e = .returned (.tuple #[u, .bool true]) ∧ Gave f w u w' ∧ Kept p room v w L j w' := by
  obtain ⟨W, hW, hb, hz, hB, hR⟩ := two_boxes w p
  have h1 := h.later hb
  have g3 := h1.c3
  have HX := Lib.hid (And.intro hb (And.intro hR (And.intro hz (And.intro h (And.intro hj hB)))))
  have hmf := Try.mkf
  have HT : Hid (∀ W', Below W.heap.size W W' → Calls Try.prog 29 #[.pointer (some ⟨p, 0, none⟩), .int .i64 ((j : Int) + 1), .func (.func 30) #[] #[.pointer (some ⟨w.heap.size, 0, none⟩)]] W' fun e w1 => ∃ g5, e = .returned (.tuple #[.agg #[.int .i64 f.k, .int .i64 f.n, .slice (some ⟨g5, 0, none⟩) f.ws.length f.ws.length], .bool true]) ∧ Gave f W (.agg #[.int .i64 f.k, .int .i64 f.n, .slice (some ⟨g5, 0, none⟩) f.ws.length f.ws.length]) w1 ∧ Kept p room v w L j w1 ∧ w1.heap[w.heap.size + 1]? = some (.cells #[.int .i64 0, .int .i64 0, .slice none 0 0] TF (0, 0))) := fun W' hW' => by
    refine (tell_scan p (j + 1) j room v L f w W' h (hb.trans (hW'.mono hb.size)) hj w.heap.size ((World.cell?_of_block (w := W) (hW'.block w.heap.size (by omega))).trans hB)).mono ?_
    rintro e w1 ⟨u, rfl, ⟨g5, rfl, hg2, hg3, hg4, hg5⟩, hk, hs, hlow⟩
    have hs' := hW'.size
    have hp := h.lp
    exact ⟨g5, rfl, ⟨g5, rfl, hg2, by omega, hg4, hg5⟩, hk, (hlow (w.heap.size + 1) (by omega) (by omega) (fun e => by have := h.fs.lt _ e.symm; omega)).trans ((hW'.block _ (by omega)).trans hR)⟩
  clear h h1 hb hR hz hj
  go_enter Try.func23, Try.ntmps23
  go_wp2_with fail
  rw [← hW]
  clear hW
  go_region_law (refine step_wanted rfl ?_; go_simp; go_at_call 29; refine (HT.out _ (by first | exact (Below.refl _ _).drew | exact Below.refl _ _)).mono ?_; rintro e w1 ⟨g5, rfl, hg, hk, r7⟩; have x0 := cell_of_row _ _ 0 _ _ _ r7; have x1 := cell_of_row _ _ 1 _ _ _ r7; have x2 := cell_of_row _ _ 2 _ _ _ r7; have t0 := frozen_of_row _ _ 0 _ _ r7; have t1 := frozen_of_row _ _ 1 _ _ r7; have t2 := frozen_of_row _ _ 2 _ _ r7; have HG := Lib.hid (And.intro hg hk); clear r7 hk hg)
  all_goals
    go_wp2_with fail
    obtain ⟨z0, z1, z2⟩ := three_cells (W := w1) (b := w.heap.size + 1) _ _ _ (.int .i64 f.k) (.int .i64 f.n) (.slice (some ⟨g5, 0, none⟩) f.ws.length f.ws.length) x0 x1 x2
    have hp := HX.out.2.2.2.1.lp
    have hl := HX.out.2.2.2.1.fs.lt
    have hz := HX.out.2.2.1
    exact bodyPost_ret (v := .tuple #[.agg #[.int .i64 f.k, .int .i64 f.n, .slice (some ⟨g5, 0, none⟩) f.ws.length f.ws.length], .bool true]) (by simp [results, Try.results23, go_sem, z0, z1, z2]) rfl ⟨_, rfl, HG.out.1.box2 (by omega) HX.out.1.size _ _ _, ((HG.out.2.box hp hl (Nat.le_succ _) _).box hp hl (Nat.le_succ _) _).box hp hl (Nat.le_succ _) _⟩

end Go.Proofs.Ytalfhcmccdnajaa
