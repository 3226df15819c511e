/- Top and Scan. -/
import Derived.Test.YtalfhcmccdnajaaSkH
namespace Go.Proofs.Ytalfhcmccdnajaa
open Go.RowKit Go.Sort

theorem Try.mkf (fn : Fn) (first cap : Array Value) (w : World) : (Instr.makeFunc fn first cap).run Try.prog w = .ok (.func fn first cap) w := rfl

set_option maxHeartbeats 4000000 in
theorem top_none (p left : Nat) (room : Int) (v : Value) (w : World) (h : St w p room v [] left) :
    Calls Try.prog 24 #[.pointer (some ⟨p, 0, none⟩)] w fun e w' => e = .returned (.tuple #[.agg #[.int .i64 0, .int .i64 0, .slice none 0 0], .bool false]) ∧ Below w.heap.size w w' := by
  have hb := (Below.refl w.heap.size w).alloc (Nat.le_refl _) (.cells #[.int .i64 0, .int .i64 0, .slice none 0 0] TF)
  have h1 := h.later hb
  obtain ⟨ao, cap, hv⟩ := h.fs.sl
  have g2 := h1.c2
  rw [hv] at g2
  have hx := box_cells (w := w) (u0 := .int .i64 0) (u1 := .int .i64 0) (u2 := .slice none 0 0) (T := TF)
  have HX := Lib.hid (And.intro hb hx)
  clear h h1 hv hb hx
  go_enter Try.func24, Try.ntmps24
  go_wp2_with fail
  refine (tell_none _ _ _).mono ?_
  rintro e w1 ⟨rfl, hb1⟩
  have r7 := (hb1.block w.heap.size (by rw [World.size_alloc]; omega)).trans HX.out.2
  have x0 := cell_of_row _ _ 0 _ _ _ r7
  have x1 := cell_of_row _ _ 1 _ _ _ r7
  have x2 := cell_of_row _ _ 2 _ _ _ r7
  have t0 := frozen_of_row _ _ 0 _ _ r7
  have t1 := frozen_of_row _ _ 1 _ _ r7
  have t2 := frozen_of_row _ _ 2 _ _ r7
  have HB := Lib.hid (HX.out.1.trans (hb1.mono HX.out.1.size))
  clear r7 hb1
  go_wp2_with fail
  obtain ⟨z0, z1, z2⟩ := three_cells (W := w1) (b := w.heap.size) _ _ _ (.int .i64 0) (.int .i64 0) (.slice none 0 0) x0 x1 x2
  exact bodyPost_ret (v := .tuple #[.agg #[.int .i64 0, .int .i64 0, .slice none 0 0], .bool false]) (by simp [results, Try.results24, go_sem, z0, z1, z2]) rfl ⟨rfl, three_below HB.out (Nat.le_refl _) _ _ _⟩

/-- A frame handed on through a box of one's own. -/
theorem Gave.box {f : Fr} {w W w1 : World} {u : Value} (h : Gave f W u w1) (hs : w.heap.size < W.heap.size) (x y z : Value) : Gave f w u (((w1.setCell ⟨w.heap.size, 0, none⟩ x).setCell ⟨w.heap.size, 1, none⟩ y).setCell ⟨w.heap.size, 2, none⟩ z) := by
  obtain ⟨g, e, h1, h2, h3, h4⟩ := h
  refine ⟨g, e, h1.move (fun k hk e => ⟨e, ?_⟩) (by simp [World.setCell]), by omega, by simp [World.setCell]; omega, fun i => by rw [World.frozen?_setCell, World.frozen?_setCell, World.frozen?_setCell]; exact h4 i⟩
  rw [Below.heap_setCell _ _ _ _ (by show k ≠ w.heap.size; omega), Below.heap_setCell _ _ _ _ (by show k ≠ w.heap.size; omega), Below.heap_setCell _ _ _ _ (by show k ≠ w.heap.size; omega)]

set_option maxHeartbeats 4000000 in
theorem top_some (p left j : Nat) (room : Int) (v : Value) (L : List Fr) (f : Fr) (w : World) (h : St w p room v L left) (hj : L[j]? = some f) (hjl : L.length = j + 1) :
    Calls Try.prog 24 #[.pointer (some ⟨p, 0, none⟩)] w fun e w' => ∃ u, e = .returned (.tuple #[u, .bool true]) ∧ Gave f w u w' ∧ Kept p room v w L left w' := by
  have hb := (Below.refl w.heap.size w).alloc (Nat.le_refl _) (.cells #[.int .i64 0, .int .i64 0, .slice none 0 0] TF)
  have h1 := h.later hb
  have hsm := h.small
  obtain ⟨ao, cap, hv⟩ := h.fs.sl
  have g2 := h1.c2
  rw [hv, hjl] at g2
  have hx := box_cells (w := w) (u0 := .int .i64 0) (u1 := .int .i64 0) (u2 := .slice none 0 0) (T := TF)
  have HX := Lib.hid (And.intro hb (And.intro hx (And.intro h hj)))
  clear h h1 hv hb hx hj hjl
  go_enter Try.func24, Try.ntmps24
  go_wp2_with fail
  refine (tell_top p left j room v L f w _ HX.out.2.2.1 HX.out.1 HX.out.2.2.2).mono ?_
  rintro e w1 ⟨u, rfl, hg, hk, hs, hlow⟩
  have hz : w.heap.size < (w.alloc (.cells #[.int .i64 0, .int .i64 0, .slice none 0 0] TF)).heap.size := by rw [World.size_alloc]; omega
  have r7 := (hlow w.heap.size hz (by have := HX.out.2.2.1.lp; omega) (fun e => by have := HX.out.2.2.1.fs.lt _ e.symm; omega)).trans HX.out.2.1
  have x0 := cell_of_row _ _ 0 _ _ _ r7
  have x1 := cell_of_row _ _ 1 _ _ _ r7
  have x2 := cell_of_row _ _ 2 _ _ _ r7
  have t0 := frozen_of_row _ _ 0 _ _ r7
  have t1 := frozen_of_row _ _ 1 _ _ r7
  have t2 := frozen_of_row _ _ 2 _ _ r7
  have HB := Lib.hid (And.intro hg (And.intro hk hz))
  obtain ⟨g5, rfl, -, -, -, -⟩ := hg
  clear r7 hk hs hlow hz
  go_wp2_with fail
  obtain ⟨z0, z1, z2⟩ := three_cells (W := w1) (b := w.heap.size) _ _ _ (.int .i64 f.k) (.int .i64 f.n) (.slice (some ⟨g5, 0, none⟩) f.ws.length f.ws.length) x0 x1 x2
  have hp := HX.out.2.2.1.lp
  have hl := HX.out.2.2.1.fs.lt
  exact bodyPost_ret (v := .tuple #[.agg #[.int .i64 f.k, .int .i64 f.n, .slice (some ⟨g5, 0, none⟩) f.ws.length f.ws.length], .bool true]) (by simp [results, Try.results24, go_sem, z0, z1, z2]) rfl ⟨_, rfl, HB.out.1.box HB.out.2.2 _ _ _, ((HB.out.2.1.box hp hl (Nat.le_refl _) _).box hp hl (Nat.le_refl _) _).box hp hl (Nat.le_refl _) _⟩

end Go.Proofs.Ytalfhcmccdnajaa
