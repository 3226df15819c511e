/- Pop of a frame. -/
import Derived.Test.YtalfhcmccdnajaaSkL0
namespace Go.Proofs.Ytalfhcmccdnajaa
open Go.RowKit Go.Sort

/-- What stands behind the call of tell, whatever the order. -/
def PopMid (p : Nat) (room : Int) (v : Value) (M : List Fr) (f : Fr) (w W : World) (left : Nat) (fresh : Bool) (b : Nat) (wx : World) : Prop :=
  ∃ g5, wx.cell? ⟨b, 0, none⟩ = some (.int .i64 f.k) ∧ wx.cell? ⟨b, 1, none⟩ = some (.int .i64 f.n) ∧ wx.cell? ⟨b, 2, none⟩ = some (.slice (some ⟨g5, 0, none⟩) f.ws.length f.ws.length) ∧ b ≠ w.heap.size + 1 ∧ Gave f W (.agg #[.int .i64 f.k, .int .i64 f.n, .slice (some ⟨g5, 0, none⟩) f.ws.length f.ws.length]) wx ∧ Kept p room v w M (min left M.length) wx ∧ Boxes w.heap.size fresh wx

set_option maxHeartbeats 80000000 in
theorem pop_some (p left : Nat) (room : Int) (v : Value) (M : List Fr) (f : Fr) (w : World) (h : St w p room v (M ++ [f]) left) :
    Calls Try.prog 25 #[.pointer (some ⟨p, 0, none⟩)] w fun e w' => ∃ u, e = .returned (.tuple #[u, .bool (decide (M.length < left)), .bool true]) ∧ Gave f w u w' ∧ Kept p room v w M (min left M.length) w' := by
  obtain ⟨W, hW, hb, hz, hB, hR, hF⟩ := three_boxes w p
  have h1 := h.later hb
  have hsm := h.small
  have hlen : (M ++ [f]).length = M.length + 1 := by simp
  rw [hlen] at hsm
  obtain ⟨ao, cap, hv⟩ := h.fs.sl
  have g2 := h1.c2
  rw [hv, hlen] at g2
  have HX := Lib.hid (And.intro hb (And.intro hz h))
  have hmf := Try.mkf
  obtain ⟨fresh, hfr⟩ : ∃ b, b = decide (M.length < left) := ⟨_, rfl⟩
  rw [← hfr]
  have HT : Hid (∀ W', Below W.heap.size W W' → Calls Try.prog 29 #[.pointer (some ⟨p, 0, none⟩), .int .i64 ((M.length : Int) + 1), .func (.func 32) #[] #[.pointer (some ⟨w.heap.size, 0, none⟩), .pointer (some ⟨w.heap.size + 1 + 1, 0, none⟩)]] W' fun e w1 => ∃ g5, e = .returned (.tuple #[.agg #[.int .i64 f.k, .int .i64 f.n, .slice (some ⟨g5, 0, none⟩) f.ws.length f.ws.length], .bool true]) ∧ Gave f W' (.agg #[.int .i64 f.k, .int .i64 f.n, .slice (some ⟨g5, 0, none⟩) f.ws.length f.ws.length]) w1 ∧ Kept p room v w M (min left M.length) w1 ∧ Boxes w.heap.size fresh w1 ∧ W'.heap.size ≤ w1.heap.size ∧ ∀ k, W.heap.size ≤ k → k < W'.heap.size → w1.heap[k]? = W'.heap[k]?) := fun W' hW' => by
    have hF' := (hW'.block (w.heap.size + 2) (by omega)).trans hF
    have hsb := hb.size
    refine (tell_pop p left M.length room v (M ++ [f]) f w W' h (hb.trans (hW'.mono hb.size)) (by simp) M rfl rfl w.heap.size (w.heap.size + 2) (.bool false) ((World.cell?_of_block (w := W) (a := ⟨w.heap.size, 0, none⟩) (hW'.block w.heap.size (by omega))).trans hB) (cell_of_row _ _ 0 _ _ _ hF') (frozen_of_row _ _ 0 _ _ hF') (Nat.le_refl _) (by omega) (by omega)).mono ?_
    rintro e w1 ⟨u, rfl, ⟨g5, rfl, hg2, hg3, hg4, hg5⟩, hk, hs, hlow⟩
    have hs' := hW'.size
    have hp := h.lp
    have hl := h.fs.lt
    refine ⟨g5, rfl, ⟨g5, rfl, hg2, hg3, hg4, hg5⟩, hk, ⟨(hlow (w.heap.size + 1) (by omega) (by omega) (fun e => by have := hl _ e.symm; omega)).trans ((Below.heap_setCell _ _ _ _ (by simp)).trans ((hW'.block _ (by omega)).trans hR)), ?_⟩, hs, fun k hk1 hk2 => (hlow k hk2 (by omega) (fun e => by have := hl _ e.symm; omega)).trans (Below.heap_setCell _ _ _ _ (by show k ≠ w.heap.size + 2; omega))⟩
    rw [hlow (w.heap.size + 2) (by omega) (by omega) (fun e => by have := hl _ e.symm; omega), hfr]
    exact heap_setCell_same W' _ 0 _ _ _ hF'
  have HFR := Lib.hid hfr
  clear h h1 hb hR hz hF hv hfr hlen
  go_enter Try.func25, Try.ntmps25
  go_wp2_with fail
  rw [← hW]
  clear hW
  have g2a : (W.alloc (.cells #[.int .i64 0, .int .i64 0, .slice none 0 0] TF)).drew.cell? ⟨p, 2, none⟩ = _ := (World.cell?_of_block (w := W) (a := ⟨p, 2, none⟩) (Below.heap_alloc _ _ _ (World.block_lt_of_cell? _ _ g2))).trans g2
  have hBa : (W.alloc (.cells #[.int .i64 0, .int .i64 0, .slice none 0 0] TF)).drew.cell? ⟨w.heap.size, 0, none⟩ = _ := (World.cell?_of_block (w := W) (a := ⟨w.heap.size, 0, none⟩) (Below.heap_alloc _ _ _ (World.block_lt_of_cell? _ _ hB))).trans hB
  go_cut [6, 7] (fun v6 v7 wx => ∃ b, v6 = .pointer (some ⟨b, 0, none⟩) ∧ v7 = .bool true ∧ PopMid p room v M f w W left fresh b wx)
  case first =>
    go_region_law (first
      | (refine step_wanted rfl ?_; go_simp; go_at_call 29; refine (HT.out ((W.alloc (.cells #[.int .i64 0, .int .i64 0, .slice none 0 0] TF)).drew) ((((Below.refl W.heap.size W).alloc (Nat.le_refl _) (.cells #[.int .i64 0, .int .i64 0, .slice none 0 0] TF))).drew)).mono ?_; rintro e w1 ⟨g5, rfl, hg, hk, hbx, hs, far⟩; have HG := Lib.hid (And.intro hg (And.intro hk (And.intro hbx (And.intro hs far)))); have r6 : w1.heap[W.heap.size]? = some (.cells #[.int .i64 0, .int .i64 0, .slice none 0 0] TF (0, 0)) := (far W.heap.size (Nat.le_refl _) (by show W.heap.size < (W.alloc (.cells #[.int .i64 0, .int .i64 0, .slice none 0 0] TF)).heap.size; rw [World.size_alloc]; omega)).trans (heap_alloc_new W (.cells #[.int .i64 0, .int .i64 0, .slice none 0 0] TF)); have x0 := cell_of_row _ _ 0 _ _ _ r6; have x1 := cell_of_row _ _ 1 _ _ _ r6; have x2 := cell_of_row _ _ 2 _ _ _ r6; have t0 := frozen_of_row _ _ 0 _ _ r6; have t1 := frozen_of_row _ _ 1 _ _ r6; have t2 := frozen_of_row _ _ 2 _ _ r6; clear r6; have hA := trivial; clear hbx hs far hk hg)
      | (refine step_wanted rfl ?_; go_simp; go_at_call 29; refine (HT.out (W.alloc (.cells #[.int .i64 0, .int .i64 0, .slice none 0 0] TF)) (((Below.refl W.heap.size W).alloc (Nat.le_refl _) (.cells #[.int .i64 0, .int .i64 0, .slice none 0 0] TF)))).mono ?_; rintro e w1 ⟨g5, rfl, hg, hk, hbx, hs, far⟩; have HG := Lib.hid (And.intro hg (And.intro hk (And.intro hbx (And.intro hs far)))); have r6 : w1.heap[W.heap.size]? = some (.cells #[.int .i64 0, .int .i64 0, .slice none 0 0] TF (0, 0)) := (far W.heap.size (Nat.le_refl _) (by show W.heap.size < (W.alloc (.cells #[.int .i64 0, .int .i64 0, .slice none 0 0] TF)).heap.size; rw [World.size_alloc]; omega)).trans (heap_alloc_new W (.cells #[.int .i64 0, .int .i64 0, .slice none 0 0] TF)); have x0 := cell_of_row _ _ 0 _ _ _ r6; have x1 := cell_of_row _ _ 1 _ _ _ r6; have x2 := cell_of_row _ _ 2 _ _ _ r6; have t0 := frozen_of_row _ _ 0 _ _ r6; have t1 := frozen_of_row _ _ 1 _ _ r6; have t2 := frozen_of_row _ _ 2 _ _ r6; clear r6; have hA := trivial; clear hbx hs far hk hg)
      | (refine step_wanted rfl ?_; go_simp; go_at_call 29; refine (HT.out W.drew ((Below.refl W.heap.size W).drew)).mono ?_; rintro e w1 ⟨g5, rfl, hg, hk, hbx, hs, far⟩; have HG := Lib.hid (And.intro hg (And.intro hk (And.intro hbx (And.intro hs far)))); clear hbx hs far hk hg)
      | (refine step_wanted rfl ?_; go_simp; go_at_call 29; refine (HT.out W (Below.refl W.heap.size W)).mono ?_; rintro e w1 ⟨g5, rfl, hg, hk, hbx, hs, far⟩; have HG := Lib.hid (And.intro hg (And.intro hk (And.intro hbx (And.intro hs far)))); clear hbx hs far hk hg))
    all_goals
      obtain ⟨hg, hk, hbx, hs, far⟩ := HG.out
      have hz := HX.out.2.1
      have hp := HX.out.2.2.lp
      have hl := HX.out.2.2.fs.lt
      first
      | (revert hA
         intro _
         obtain ⟨y0, y1, y2⟩ := three_cells (W := w1) (b := W.heap.size) _ _ _ (.int .i64 f.k) (.int .i64 f.n) (.slice (some ⟨g5, 0, none⟩) f.ws.length f.ws.length) x0 x1 x2
         have HP : Hid (PopMid p room v M f w W left fresh W.heap.size (((w1.setCell ⟨W.heap.size, 0, none⟩ (.int .i64 f.k)).setCell ⟨W.heap.size, 1, none⟩ (.int .i64 f.n)).setCell ⟨W.heap.size, 2, none⟩ (.slice (some ⟨g5, 0, none⟩) f.ws.length f.ws.length))) := ⟨g5, y0, y1, y2, by omega, hg.box2 (W := W.alloc (.cells #[.int .i64 0, .int .i64 0, .slice none 0 0] TF)) (by rw [World.size_alloc]; omega) (by rw [World.size_alloc]; omega) _ _ _, ((hk.box hp hl (by omega) _).box hp hl (by omega) _).box hp hl (by omega) _, (set3_far _ _ _ (by omega)).trans hbx.1, (set3_far _ _ _ (by omega)).trans hbx.2⟩
         clear x0 x1 x2 t0 t1 t2 y0 y1 y2 hg hk hbx hs far hz HG hp hl
         go_wp2_with fail
         go_meet
         exact ⟨W.heap.size, rfl, rfl, HP.out⟩)
      | (have hdz : W.drew.heap.size = W.heap.size := rfl
         have r9 := box_cells (w := w1) (u0 := .int .i64 f.k) (u1 := .int .i64 f.n) (u2 := .slice (some ⟨g5, 0, none⟩) f.ws.length f.ws.length) (T := TF)
         have hba : Below w1.heap.size w1 (w1.alloc (.cells #[.int .i64 f.k, .int .i64 f.n, .slice (some ⟨g5, 0, none⟩) f.ws.length f.ws.length] TF)) := (Below.refl _ _).alloc (Nat.le_refl _) _
         have HP : Hid (PopMid p room v M f w W left fresh w1.heap.size (w1.alloc (.cells #[.int .i64 f.k, .int .i64 f.n, .slice (some ⟨g5, 0, none⟩) f.ws.length f.ws.length] TF))) := ⟨g5, cell_of_row _ _ 0 _ _ _ r9, cell_of_row _ _ 1 _ _ _ r9, cell_of_row _ _ 2 _ _ _ r9, by omega, by obtain ⟨g, e, e1, e2, e3, e4⟩ := hg; exact ⟨g, e, e1.move (fun x hx hk => ⟨hk, hba.block x hx⟩) hba.size, by omega, Nat.lt_of_lt_of_le e3 hba.size, fun i => (World.frozen?_of_block (w := w1) (a := ⟨g, i, none⟩) (hba.block g e3)).trans (e4 i)⟩, hk.later hba, (hba.block _ (by omega)).trans hbx.1, (hba.block _ (by omega)).trans hbx.2⟩
         clear r9 hba hdz hg hk hbx hs far hz HG hp hl
         go_wp2_with fail
         go_meet
         exact ⟨w1.heap.size, rfl, rfl, HP.out⟩)
  case rest =>
  obtain ⟨n1, rfl, rfl, g5, y0, y1, y2, hn1, hg, hk, hbx⟩ := hcut
  have HB := Lib.hid (And.intro hg (And.intro hk hbx))
  have HN1 : Hid (n1 ≠ w.heap.size + 1) := hn1
  have b0 := cell_of_row _ _ 0 _ _ _ hbx.2
  have x0 := cell_of_row _ _ 0 _ _ _ hbx.1
  have x1 := cell_of_row _ _ 1 _ _ _ hbx.1
  have x2 := cell_of_row _ _ 2 _ _ _ hbx.1
  have t0 := frozen_of_row _ _ 0 _ _ hbx.1
  have t1 := frozen_of_row _ _ 1 _ _ hbx.1
  have t2 := frozen_of_row _ _ 2 _ _ hbx.1
  clear hg hk hbx hn1 HT hmf
  have hS3 : Hid (∀ V : World, (∀ k, k ≠ w.heap.size + 1 → V.heap[k]? = wc.heap[k]?) → (V.cell? ⟨n1, 0, none⟩ = some (.int .i64 f.k) ∧ V.cell? ⟨n1, 1, none⟩ = some (.int .i64 f.n) ∧ V.cell? ⟨n1, 2, none⟩ = some (.slice (some ⟨g5, 0, none⟩) f.ws.length f.ws.length) ∧ V.cell? ⟨w.heap.size + 1 + 1, 0, none⟩ = some (.bool fresh))) := fun V hV =>
    ⟨(World.cell?_of_block (w := wc) (a := ⟨n1, 0, none⟩) (hV n1 HN1.out)).trans y0, (World.cell?_of_block (w := wc) (a := ⟨n1, 1, none⟩) (hV n1 HN1.out)).trans y1, (World.cell?_of_block (w := wc) (a := ⟨n1, 2, none⟩) (hV n1 HN1.out)).trans y2, (World.cell?_of_block (w := wc) (a := ⟨w.heap.size + 1 + 1, 0, none⟩) (hV (w.heap.size + 1 + 1) (by omega))).trans b0⟩
  have x0' : wc.drew.cell? ⟨w.heap.size + 1, 0, none⟩ = _ := x0
  have x1' : wc.drew.cell? ⟨w.heap.size + 1, 1, none⟩ = _ := x1
  have x2' : wc.drew.cell? ⟨w.heap.size + 1, 2, none⟩ = _ := x2
  have t0' : wc.drew.frozen? ⟨w.heap.size + 1, 0, none⟩ = _ := t0
  have t1' : wc.drew.frozen? ⟨w.heap.size + 1, 1, none⟩ = _ := t1
  have t2' : wc.drew.frozen? ⟨w.heap.size + 1, 2, none⟩ = _ := t2
  go_wp2_with fail
  go_region_held3 (fun W' => W'.cell? ⟨n1, 0, none⟩ = some (.int .i64 f.k) ∧ W'.cell? ⟨n1, 1, none⟩ = some (.int .i64 f.n) ∧ W'.cell? ⟨n1, 2, none⟩ = some (.slice (some ⟨g5, 0, none⟩) f.ws.length f.ws.length) ∧ W'.cell? ⟨w.heap.size + 1 + 1, 0, none⟩ = some (.bool fresh)) (first | exact hS3.out _ (fun k hk => rfl) | exact hS3.out _ (fun k hk => set3_far _ _ _ hk) | go_keep) (fail)
  all_goals
    go_wp2_with fail
    obtain ⟨z0, z1, z2⟩ := three_cells (W := wc) (b := w.heap.size + 1) _ _ _ (.int .i64 f.k) (.int .i64 f.n) (.slice (some ⟨g5, 0, none⟩) f.ws.length f.ws.length) x0 x1 x2
    have z0' : (((wc.setCell ⟨w.heap.size + 1, 0, none⟩ (.int .i64 f.k)).setCell ⟨w.heap.size + 1, 1, none⟩ (.int .i64 f.n)).setCell ⟨w.heap.size + 1, 2, none⟩ (.slice (some ⟨g5, 0, none⟩) f.ws.length f.ws.length)).drew.cell? ⟨w.heap.size + 1, 0, none⟩ = _ := z0
    have z1' : (((wc.setCell ⟨w.heap.size + 1, 0, none⟩ (.int .i64 f.k)).setCell ⟨w.heap.size + 1, 1, none⟩ (.int .i64 f.n)).setCell ⟨w.heap.size + 1, 2, none⟩ (.slice (some ⟨g5, 0, none⟩) f.ws.length f.ws.length)).drew.cell? ⟨w.heap.size + 1, 1, none⟩ = _ := z1
    have z2' : (((wc.setCell ⟨w.heap.size + 1, 0, none⟩ (.int .i64 f.k)).setCell ⟨w.heap.size + 1, 1, none⟩ (.int .i64 f.n)).setCell ⟨w.heap.size + 1, 2, none⟩ (.slice (some ⟨g5, 0, none⟩) f.ws.length f.ws.length)).drew.cell? ⟨w.heap.size + 1, 2, none⟩ = _ := z2
    have hp := HX.out.2.2.lp
    have hl := HX.out.2.2.fs.lt
    have hz := HX.out.2.1
    exact bodyPost_ret (v := .tuple #[.agg #[.int .i64 f.k, .int .i64 f.n, .slice (some ⟨g5, 0, none⟩) f.ws.length f.ws.length], .bool fresh, .bool true]) (by simp [results, Try.results25, go_sem, z0', z1', z2']) rfl ⟨_, rfl, HB.out.1.box2 (by omega) HX.out.1.size _ _ _, (((HB.out.2.1.box hp hl (Nat.le_succ _) _).box hp hl (Nat.le_succ _) _).box hp hl (Nat.le_succ _) _).later (Below.refl _ _).drew⟩

end Go.Proofs.Ytalfhcmccdnajaa
