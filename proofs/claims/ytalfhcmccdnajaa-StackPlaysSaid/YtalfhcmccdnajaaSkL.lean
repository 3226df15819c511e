/- Pop. -/
import Derived.Test.YtalfhcmccdnajaaSkL0
namespace Go.Proofs.Ytalfhcmccdnajaa
open Go.RowKit Go.Sort

set_option maxHeartbeats 8000000 in
theorem pop_none (p left : Nat) (room : Int) (v : Value) (w : World) (h : St w p room v [] left) :
    Calls Try.prog 25 #[.pointer (some ⟨p, 0, none⟩)] w fun e w' => e = .returned (.tuple #[.agg #[.int .i64 0, .int .i64 0, .slice none 0 0], .bool false, .bool false]) ∧ Below w.heap.size w w' := by
  obtain ⟨W, hW, hb, hz, hB, hR, hF⟩ := three_boxes w p
  have h1 := h.later hb
  obtain ⟨ao, cap, hv⟩ := h.fs.sl
  have g2 := h1.c2
  rw [hv] at g2
  have HX := Lib.hid (And.intro hb hz)
  have HX := Lib.hid (And.intro hb (And.intro hz h))
  have hmf := Try.mkf
  have HT : Hid (∀ W', Below W.heap.size W W' → Calls Try.prog 29 #[.pointer (some ⟨p, 0, none⟩), .int .i64 0, .func (.func 32) #[] #[.pointer (some ⟨w.heap.size, 0, none⟩), .pointer (some ⟨w.heap.size + 1 + 1, 0, none⟩)]] W' fun e w1 => e = .returned (.tuple #[.agg #[.int .i64 0, .int .i64 0, .slice none 0 0], .bool false]) ∧ Below w.heap.size w w1 ∧ Boxes w.heap.size false w1 ∧ W'.heap.size ≤ w1.heap.size ∧ (∀ k, W.heap.size ≤ k → k < W'.heap.size → w1.heap[k]? = W'.heap[k]?) ∧ Below W.heap.size W w1) := fun W' hW' => by
    refine (tell_none _ _ _).mono ?_
    rintro e w1 ⟨rfl, hb1⟩
    have hs' := hW'.size
    have hsb := hb.size
    exact ⟨rfl, (hb.trans (hW'.mono hb.size)).trans (hb1.mono (by omega)), ⟨(hb1.block _ (by omega)).trans ((hW'.block _ (by omega)).trans hR), (hb1.block _ (by omega)).trans ((hW'.block _ (by omega)).trans hF)⟩, hb1.size, fun k _ hk => hb1.block k hk, hW'.trans (hb1.mono hW'.size)⟩
  clear h h1 hb hR hz hF hv
  go_enter Try.func25, Try.ntmps25
  go_wp2_with fail
  rw [← hW]
  clear hW
  have g2a : (W.alloc (.cells #[.int .i64 0, .int .i64 0, .slice none 0 0] TF)).drew.cell? ⟨p, 2, none⟩ = _ := (World.cell?_of_block (w := W) (a := ⟨p, 2, none⟩) (Below.heap_alloc _ _ _ (World.block_lt_of_cell? _ _ g2))).trans g2
  have hBa : (W.alloc (.cells #[.int .i64 0, .int .i64 0, .slice none 0 0] TF)).drew.cell? ⟨w.heap.size, 0, none⟩ = _ := (World.cell?_of_block (w := W) (a := ⟨w.heap.size, 0, none⟩) (Below.heap_alloc _ _ _ (World.block_lt_of_cell? _ _ hB))).trans hB
  have HSS : Hid (∀ V, Below W.heap.size W V → (V.cell? ⟨w.heap.size, 0, none⟩ = some (.pointer (some ⟨p, 0, none⟩)) ∧ V.cell? ⟨p, 2, none⟩ = some (.slice ao 0 cap))) := fun V hV => ⟨(World.cell?_of_block (w := W) (a := ⟨w.heap.size, 0, none⟩) (hV.block _ (World.block_lt_of_cell? _ _ hB))).trans hB, (World.cell?_of_block (w := W) (a := ⟨p, 2, none⟩) (hV.block _ (World.block_lt_of_cell? _ _ g2))).trans g2⟩
  go_region_held3 (fun W' => W'.cell? ⟨w.heap.size, 0, none⟩ = some (.pointer (some ⟨p, 0, none⟩)) ∧ W'.cell? ⟨p, 2, none⟩ = some (.slice ao 0 cap)) (first | exact HSS.out _ Hk | exact HSS.out _ (Hk.alloc Hk.size _) | exact HSS.out _ (three_below Hk (Nat.le_refl _) _ _ _) | exact HSS.out _ (Below.refl _ _).drew | exact HSS.out _ (((Below.refl _ _).drew).alloc (Nat.le_refl _) _) | exact HSS.out _ (Below.refl _ _) | go_keep) (first
    | (go_at_call 29; refine (HT.out ((W.alloc (.cells #[.int .i64 0, .int .i64 0, .slice none 0 0] TF)).drew) ((((Below.refl W.heap.size W).alloc (Nat.le_refl _) (.cells #[.int .i64 0, .int .i64 0, .slice none 0 0] TF))).drew)).mono ?_; rintro e w1 ⟨rfl, hk, hbx, hs, far, hk2⟩; have Hk : Below W.heap.size W w1 := hk2; clear hk2; have HG := Lib.hid (And.intro hk (And.intro hbx (And.intro hs far))); have r6 : w1.heap[W.heap.size]? = some (.cells #[.int .i64 0, .int .i64 0, .slice none 0 0] TF (0, 0)) := (far W.heap.size (Nat.le_refl _) (by show W.heap.size < (W.alloc (.cells #[.int .i64 0, .int .i64 0, .slice none 0 0] TF)).heap.size; rw [World.size_alloc]; omega)).trans (heap_alloc_new W (.cells #[.int .i64 0, .int .i64 0, .slice none 0 0] TF)); have x0 := cell_of_row _ _ 0 _ _ _ r6; have x1 := cell_of_row _ _ 1 _ _ _ r6; have x2 := cell_of_row _ _ 2 _ _ _ r6; have t0 := frozen_of_row _ _ 0 _ _ r6; have t1 := frozen_of_row _ _ 1 _ _ r6; have t2 := frozen_of_row _ _ 2 _ _ r6; clear r6; have hA := trivial; clear hbx hs far hk)
    | (go_at_call 29; refine (HT.out (W.alloc (.cells #[.int .i64 0, .int .i64 0, .slice none 0 0] TF)) (((Below.refl W.heap.size W).alloc (Nat.le_refl _) (.cells #[.int .i64 0, .int .i64 0, .slice none 0 0] TF)))).mono ?_; rintro e w1 ⟨rfl, hk, hbx, hs, far, hk2⟩; have Hk : Below W.heap.size W w1 := hk2; clear hk2; have HG := Lib.hid (And.intro hk (And.intro hbx (And.intro hs far))); have r6 : w1.heap[W.heap.size]? = some (.cells #[.int .i64 0, .int .i64 0, .slice none 0 0] TF (0, 0)) := (far W.heap.size (Nat.le_refl _) (by show W.heap.size < (W.alloc (.cells #[.int .i64 0, .int .i64 0, .slice none 0 0] TF)).heap.size; rw [World.size_alloc]; omega)).trans (heap_alloc_new W (.cells #[.int .i64 0, .int .i64 0, .slice none 0 0] TF)); have x0 := cell_of_row _ _ 0 _ _ _ r6; have x1 := cell_of_row _ _ 1 _ _ _ r6; have x2 := cell_of_row _ _ 2 _ _ _ r6; have t0 := frozen_of_row _ _ 0 _ _ r6; have t1 := frozen_of_row _ _ 1 _ _ r6; have t2 := frozen_of_row _ _ 2 _ _ r6; clear r6; have hA := trivial; clear hbx hs far hk)
    | (go_at_call 29; refine (HT.out W.drew ((Below.refl W.heap.size W).drew)).mono ?_; rintro e w1 ⟨rfl, hk, hbx, hs, far, hk2⟩; have Hk : Below W.heap.size W w1 := hk2; clear hk2; have HG := Lib.hid (And.intro hk (And.intro hbx (And.intro hs far))); clear hbx hs far hk)
    | (go_at_call 29; refine (HT.out W (Below.refl W.heap.size W)).mono ?_; rintro e w1 ⟨rfl, hk, hbx, hs, far, hk2⟩; have Hk : Below W.heap.size W w1 := hk2; clear hk2; have HG := Lib.hid (And.intro hk (And.intro hbx (And.intro hs far))); clear hbx hs far hk))
  all_goals
    obtain ⟨hk, hbx, hs, far⟩ := HG.out
    have hz := HX.out.2.1
    first
    | (revert hA
       intro _
       obtain ⟨y0, y1, y2⟩ := three_cells (W := w1) (b := W.heap.size) _ _ _ (.int .i64 0) (.int .i64 0) (.slice none 0 0) x0 x1 x2
       have HB : Hid ((Below w.heap.size w (((w1.setCell ⟨W.heap.size, 0, none⟩ (.int .i64 0)).setCell ⟨W.heap.size, 1, none⟩ (.int .i64 0)).setCell ⟨W.heap.size, 2, none⟩ (.slice none 0 0))) ∧ Boxes w.heap.size false (((w1.setCell ⟨W.heap.size, 0, none⟩ (.int .i64 0)).setCell ⟨W.heap.size, 1, none⟩ (.int .i64 0)).setCell ⟨W.heap.size, 2, none⟩ (.slice none 0 0))) := ⟨three_below hk (by have := HX.out.1.size; omega) _ _ _, (set3_far _ _ _ (by omega)).trans hbx.1, (set3_far _ _ _ (by omega)).trans hbx.2⟩
       have hnA : W.heap.size ≠ w.heap.size + 1 := by omega
       clear x0 x1 x2 t0 t1 t2 hk hbx hs far hz HG 
       have HN1 : Hid (W.heap.size ≠ w.heap.size + 1) := hnA
       clear hnA
       go_wp2_with fail
       generalize (((w1.setCell ⟨W.heap.size, 0, none⟩ (.int .i64 0)).setCell ⟨W.heap.size, 1, none⟩ (.int .i64 0)).setCell ⟨W.heap.size, 2, none⟩ (.slice none 0 0)) = W2 at y0 y1 y2 HB ⊢
       generalize W.heap.size = n1 at y0 y1 y2 HN1 ⊢)
    | (have hdz : W.drew.heap.size = W.heap.size := rfl
       have r9 := box_cells (w := w1) (u0 := .int .i64 0) (u1 := .int .i64 0) (u2 := .slice none 0 0) (T := TF)
       have hba : Below w1.heap.size w1 (w1.alloc (.cells #[.int .i64 0, .int .i64 0, .slice none 0 0] TF)) := (Below.refl _ _).alloc (Nat.le_refl _) _
       have HB : Hid ((Below w.heap.size w (w1.alloc (.cells #[.int .i64 0, .int .i64 0, .slice none 0 0] TF))) ∧ Boxes w.heap.size false (w1.alloc (.cells #[.int .i64 0, .int .i64 0, .slice none 0 0] TF))) := ⟨hk.alloc (by have := HX.out.1.size; omega) _, (hba.block _ (by omega)).trans hbx.1, (hba.block _ (by omega)).trans hbx.2⟩
       have y0 := cell_of_row _ _ 0 _ _ _ r9
       have y1 := cell_of_row _ _ 1 _ _ _ r9
       have y2 := cell_of_row _ _ 2 _ _ _ r9
       have hnA : w1.heap.size ≠ w.heap.size + 1 := by omega
       clear r9 hba hdz hk hbx hs far hz HG 
       have HN1 : Hid (w1.heap.size ≠ w.heap.size + 1) := hnA
       clear hnA
       go_wp2_with fail
       generalize (w1.alloc (.cells #[.int .i64 0, .int .i64 0, .slice none 0 0] TF)) = W2 at y0 y1 y2 HB ⊢
       generalize w1.heap.size = n1 at y0 y1 y2 HN1 ⊢)
  all_goals
    have b0 := cell_of_row _ _ 0 _ _ _ HB.out.2.2
    have x0 := cell_of_row _ _ 0 _ _ _ HB.out.2.1
    have x1 := cell_of_row _ _ 1 _ _ _ HB.out.2.1
    have x2 := cell_of_row _ _ 2 _ _ _ HB.out.2.1
    have t0 := frozen_of_row _ _ 0 _ _ HB.out.2.1
    have t1 := frozen_of_row _ _ 1 _ _ HB.out.2.1
    have t2 := frozen_of_row _ _ 2 _ _ HB.out.2.1
    have hS3 : Hid (∀ V : World, (∀ k, k ≠ w.heap.size + 1 → V.heap[k]? = W2.heap[k]?) → (V.cell? ⟨n1, 0, none⟩ = some (.int .i64 0) ∧ V.cell? ⟨n1, 1, none⟩ = some (.int .i64 0) ∧ V.cell? ⟨n1, 2, none⟩ = some (.slice none 0 0) ∧ V.cell? ⟨w.heap.size + 1 + 1, 0, none⟩ = some (.bool false))) := fun V hV =>
      ⟨(World.cell?_of_block (w := W2) (a := ⟨n1, 0, none⟩) (hV n1 HN1.out)).trans y0, (World.cell?_of_block (w := W2) (a := ⟨n1, 1, none⟩) (hV n1 HN1.out)).trans y1, (World.cell?_of_block (w := W2) (a := ⟨n1, 2, none⟩) (hV n1 HN1.out)).trans y2, (World.cell?_of_block (w := W2) (a := ⟨w.heap.size + 1 + 1, 0, none⟩) (hV (w.heap.size + 1 + 1) (by omega))).trans b0⟩
    have x0' : W2.drew.cell? ⟨w.heap.size + 1, 0, none⟩ = _ := x0
    have x1' : W2.drew.cell? ⟨w.heap.size + 1, 1, none⟩ = _ := x1
    have x2' : W2.drew.cell? ⟨w.heap.size + 1, 2, none⟩ = _ := x2
    have t0' : W2.drew.frozen? ⟨w.heap.size + 1, 0, none⟩ = _ := t0
    have t1' : W2.drew.frozen? ⟨w.heap.size + 1, 1, none⟩ = _ := t1
    have t2' : W2.drew.frozen? ⟨w.heap.size + 1, 2, none⟩ = _ := t2
    go_region_held3 (fun W' => W'.cell? ⟨n1, 0, none⟩ = some (.int .i64 0) ∧ W'.cell? ⟨n1, 1, none⟩ = some (.int .i64 0) ∧ W'.cell? ⟨n1, 2, none⟩ = some (.slice none 0 0) ∧ W'.cell? ⟨w.heap.size + 1 + 1, 0, none⟩ = some (.bool false)) (first | exact hS3.out _ (fun k hk => rfl) | exact hS3.out _ (fun k hk => set3_far _ _ _ hk) | go_keep) (fail)
    all_goals
     go_wp2_with fail
     obtain ⟨z0, z1, z2⟩ := three_cells (W := W2) (b := w.heap.size + 1) _ _ _ (.int .i64 0) (.int .i64 0) (.slice none 0 0) x0 x1 x2
     have z0' : (((W2.setCell ⟨w.heap.size + 1, 0, none⟩ (.int .i64 0)).setCell ⟨w.heap.size + 1, 1, none⟩ (.int .i64 0)).setCell ⟨w.heap.size + 1, 2, none⟩ (.slice none 0 0)).drew.cell? ⟨w.heap.size + 1, 0, none⟩ = _ := z0
     have z1' : (((W2.setCell ⟨w.heap.size + 1, 0, none⟩ (.int .i64 0)).setCell ⟨w.heap.size + 1, 1, none⟩ (.int .i64 0)).setCell ⟨w.heap.size + 1, 2, none⟩ (.slice none 0 0)).drew.cell? ⟨w.heap.size + 1, 1, none⟩ = _ := z1
     have z2' : (((W2.setCell ⟨w.heap.size + 1, 0, none⟩ (.int .i64 0)).setCell ⟨w.heap.size + 1, 1, none⟩ (.int .i64 0)).setCell ⟨w.heap.size + 1, 2, none⟩ (.slice none 0 0)).drew.cell? ⟨w.heap.size + 1, 2, none⟩ = _ := z2
     exact bodyPost_ret (v := .tuple #[.agg #[.int .i64 0, .int .i64 0, .slice none 0 0], .bool false, .bool false]) (by simp [results, Try.results25, go_sem, z0', z1', z2']) rfl ⟨rfl, (three_below HB.out.1 (Nat.le_succ _) _ _ _).drew⟩

end Go.Proofs.Ytalfhcmccdnajaa
