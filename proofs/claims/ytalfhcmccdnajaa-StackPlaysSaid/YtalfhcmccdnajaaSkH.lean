/- tell, with each of its closures. -/
import Derived.Test.YtalfhcmccdnajaaSkF
namespace Go.Proofs.Ytalfhcmccdnajaa
open Go.RowKit Go.Sort

set_option maxHeartbeats 2000000 in
theorem tell_none (p : Nat) (fv : Value) (w : World) :
    Calls Try.prog 29 #[.pointer (some ⟨p, 0, none⟩), .int .i64 0, fv] w fun e w' => e = .returned (.tuple #[.agg #[.int .i64 0, .int .i64 0, .slice none 0 0], .bool false]) ∧ Below w.heap.size w w' := by
  have hb := (Below.refl w.heap.size w).alloc (Nat.le_refl _) (.cells #[.int .i64 0, .int .i64 0, .slice none 0 0] TF)
  go_enter Try.func29, Try.ntmps29
  go_wp2_with fail
  refine bodyPost_ret (v := .tuple #[.agg #[.int .i64 0, .int .i64 0, .slice none 0 0], .bool false]) (by simp [results, Try.results29, go_sem]) rfl ⟨rfl, ?_⟩
  first | exact hb | exact three_below hb (Nat.le_refl _) _ _ _

/-- A frame that is told: its own words are new. -/
def Gave (f : Fr) (w : World) (v : Value) (w' : World) : Prop :=
  ∃ g, v = .agg #[.int .i64 f.k, .int .i64 f.n, .slice (some ⟨g, 0, none⟩) f.ws.length f.ws.length] ∧ WAt (fun x => x = g) w' ⟨f.k, f.n, f.ws, some ⟨g, 0, none⟩, f.ws.length⟩ ∧ w.heap.size ≤ g ∧ g < w'.heap.size ∧ ∀ i, w'.frozen? ⟨g, i, none⟩ = false

/-- The next one to be scanned. -/
theorem Kept.scan {p left j : Nat} {room : Int} {v : Value} {L : List Fr} {w0 W : World} (h : St w0 p room v L left) (hb : Below w0.heap.size w0 W) (hj : j ≤ L.length) : Kept p room v w0 L j (W.setCell ⟨p, 3, none⟩ (.int .i64 j)) :=
  ⟨v, (h.later hb).put (i := 3) (by simp) rfl rfl rfl (by simp) (by simp) rfl hj, (Turn.of hb).trans (turn_put (v := v) 3 _) (fun _ hg => Or.inl hg), fun _ hg => hg, fun f hf => (h.ws f hf).move (fun g hg hk => ⟨⟨hg, hk⟩, (Below.heap_setCell _ _ _ _ hk.1).trans (hb.block g hg)⟩) (by simpa [World.setCell] using hb.size)⟩

set_option maxHeartbeats 8000000 in
theorem tell_top (p left j : Nat) (room : Int) (v : Value) (L : List Fr) (f : Fr) (w0 w : World) (h : St w0 p room v L left) (hb : Below w0.heap.size w0 w) (hj : L[j]? = some f) :
    Calls Try.prog 29 #[.pointer (some ⟨p, 0, none⟩), .int .i64 ((j : Int) + 1), .func (.func 31) #[] #[]] w fun e w' => ∃ u, e = .returned (.tuple #[u, .bool true]) ∧ Gave f w u w' ∧ Kept p room v w0 L left w' ∧ w.heap.size ≤ w'.heap.size ∧ ∀ k, k < w.heap.size → k ≠ p → some k ≠ v.ownBlock → w'.heap[k]? = w.heap[k]? := by
  have hlt : j < L.length := (List.getElem?_eq_some_iff.1 hj).1
  have hsm := h.small
  have hw := h.later hb
  obtain ⟨g, cap, hv, hc1, hc2, hg, k0, k1, k2⟩ := hw.fs.cell hj
  have hp := hw.lp
  have hgp : g ≠ p := fun e => h.ne (by rw [hv, e]; rfl)
  have hwf := hw.ws f (List.mem_of_getElem? hj)
  have hwl : f.ws.length ≤ 4096 := by
    have h1 := h.us
    have h2 := h.r1
    have h3 : (f.ws.length : Int) + 2 ≤ used L := used_mem (List.mem_of_getElem? hj)
    omega
  have hb1 := (Below.refl w.heap.size w).alloc (Nat.le_refl _) (.cells #[.int .i64 0, .int .i64 0, .slice none 0 0] TF)
  have hx := box_cells (w := w) (u0 := .int .i64 0) (u1 := .int .i64 0) (u2 := .slice none 0 0) (T := TF)
  have hz1 : (w.alloc (.cells #[.int .i64 0, .int .i64 0, .slice none 0 0] TF)).heap.size = w.heap.size + 1 := World.size_alloc ..
  have q2 : (w.alloc (.cells #[.int .i64 0, .int .i64 0, .slice none 0 0] TF)).cell? ⟨p, 2, none⟩ = some (.slice (some ⟨g, 0, none⟩) L.length cap) := (World.cell?_of_block (w := w) (hb1.block p hp)).trans (hw.c2.trans (by rw [hv]))
  have q4 := (World.cell?_of_block (w := w) (a := ⟨g, j * 3, none⟩) (hb1.block g hg)).trans k0
  have q5 := (World.cell?_of_block (w := w) (a := ⟨g, j * 3 + 1, none⟩) (hb1.block g hg)).trans k1
  have q6 := (World.cell?_of_block (w := w) (a := ⟨g, j * 3 + 2, none⟩) (hb1.block g hg)).trans k2
  have HS := Lib.hid (And.intro (And.intro h hb) (And.intro hv (And.intro hb1 (And.intro hz1 (And.intro hx (And.intro hp hj))))))
  have HW := Lib.hid (hwf.move (K' := fun g => g ≠ p ∧ some g ≠ v.ownBlock) (fun x hx hk => ⟨hk, hb1.block x hx⟩) hb1.size)
  have HM : Hid (f.ws.length ≤ 4096) := hwl
  have hj1 : ¬ ((j : Int) + 1 = 0) := by omega
  have hj2 : (j : Int) < (L.length : Int) := by omega
  have hj3 : (j : Int) + 1 - 1 = (j : Int) := by omega
  clear h hb hw hv hb1 hx hp hwf hwl hj k0 k1 k2
  go_enter Try.func29, Try.ntmps29
  go_wp2_with fail
  refine (copied_any f.k f.n f.a f.c f.ws (fun g => g ≠ p ∧ some g ≠ v.ownBlock) _ HW.out (by have := HM.out; omega)).mono ?_
  rintro e w5 ⟨g5, rfl, hc5, hl5, hm5, hb5, hf5⟩
  have H5 := Lib.hid (And.intro hc5 (And.intro hl5 (And.intro hm5 (And.intro hb5 hf5))))
  clear hc5 hl5 hm5 hb5 hf5 q2 q4 q5 q6
  go_wp2_with fail
  obtain ⟨hc5, hl5, hm5, hb5, hf5⟩ := H5.out
  obtain ⟨h, hv, hb1, hz1, hx, hp, hj⟩ := HS.out
  have hb6 : Below w.heap.size w (w5.alloc (.cells #[.int .i64 f.k, .int .i64 f.n, .slice (some ⟨g5, 0, none⟩) f.ws.length f.ws.length] TF)) := (hb1.trans (hb5.mono hb1.size)).alloc (Nat.le_trans hb1.size hb5.size) _
  have hy := box_cells (w := w5) (u0 := .int .i64 f.k) (u1 := .int .i64 f.n) (u2 := .slice (some ⟨g5, 0, none⟩) f.ws.length f.ws.length) (T := TF)
  have hx5 : (w5.alloc (.cells #[.int .i64 f.k, .int .i64 f.n, .slice (some ⟨g5, 0, none⟩) f.ws.length f.ws.length] TF)).heap[w.heap.size]? = some (.cells #[.int .i64 0, .int .i64 0, .slice none 0 0] TF (0, 0)) := by
    rw [Below.heap_alloc _ _ _ (by have := hb5.size; omega), hb5.block _ (by rw [hz1]; omega)]
    exact hx
  have hz6 : (w5.alloc (.cells #[.int .i64 f.k, .int .i64 f.n, .slice (some ⟨g5, 0, none⟩) f.ws.length f.ws.length] TF)).heap.size = w5.heap.size + 1 := World.size_alloc ..
  have hw6 : WAt (fun x => x = g5) (w5.alloc (.cells #[.int .i64 f.k, .int .i64 f.n, .slice (some ⟨g5, 0, none⟩) f.ws.length f.ws.length] TF)) ⟨f.k, f.n, f.ws, some ⟨g5, 0, none⟩, f.ws.length⟩ := hc5.move (fun x hx hk => ⟨hk, Below.heap_alloc _ _ _ hx⟩) (by rw [hz6]; omega)
  have hf6 : ∀ i, (w5.alloc (.cells #[.int .i64 f.k, .int .i64 f.n, .slice (some ⟨g5, 0, none⟩) f.ws.length f.ws.length] TF)).frozen? ⟨g5, i, none⟩ = false := fun i => (World.frozen?_of_block (w := w5) (a := ⟨g5, i, none⟩) (Below.heap_alloc _ _ _ hm5)).trans (hf5 i)
  have hs5 : w.heap.size + 1 ≤ w5.heap.size := by have := hb5.size; omega
  have hl5' : w.heap.size + 1 ≤ g5 := by omega
  generalize hW6 : w5.alloc (.cells #[.int .i64 f.k, .int .i64 f.n, .slice (some ⟨g5, 0, none⟩) f.ws.length f.ws.length] TF) = W6 at hb6 hy hx5 hz6 hw6 hf6 ⊢
  generalize hn5 : w5.heap.size = n5 at hy hz6 hs5 hm5 ⊢
  have HF6 := Lib.hid hf6
  clear hW6 hn5 hb5 hc5 hl5 hf5 hf6 H5 HW HS hb1 hz1 hx
  have HD := Lib.hid (And.intro h (And.intro hv (And.intro hb6 (And.intro hy (And.intro hx5 (And.intro hz6 (And.intro hw6 (And.intro hs5 (And.intro hl5' (And.intro hm5 (And.intro hp hj)))))))))))
  clear h hv hb6 hy hx5 hz6 hw6 hs5 hl5' hm5 hp hj
  refine (top1_any _ _).mono ?_
  rintro e w7 ⟨rfl, h7⟩
  have far : ∀ k, w.heap.size ≤ k → k < W6.heap.size → w7.heap[k]? = W6.heap[k]? := fun k _ _ => by rw [h7]
  have hsz : W6.heap.size ≤ w7.heap.size := by rw [h7]; exact Nat.le_refl _
  have hpost : Kept p room v w0 L left w7 := by rw [h7]; exact Kept.of HD.out.1.1 (HD.out.1.2.trans (HD.out.2.2.1.mono HD.out.1.2.size))
  have hlow : ∀ k, k < w.heap.size → k ≠ p → some k ≠ v.ownBlock → w7.heap[k]? = w.heap[k]? := fun k hk _ _ => by rw [h7]; exact HD.out.2.2.1.block k hk
  clear h7
  have HE := Lib.hid (And.intro far (And.intro hsz (And.intro hpost hlow)))
  obtain ⟨h, hv, hb6, hy, hx5, hz6, hw6, hs5, hl5', hm5, hp, hj⟩ := HD.out
  have y0 := cell_of_row _ _ 0 _ _ _ ((far n5 (by omega) (by omega)).trans hy)
  have y1 := cell_of_row _ _ 1 _ _ _ ((far n5 (by omega) (by omega)).trans hy)
  have y2 := cell_of_row _ _ 2 _ _ _ ((far n5 (by omega) (by omega)).trans hy)
  have r7 := (far w.heap.size (Nat.le_refl _) (by omega)).trans hx5
  have x0 := cell_of_row _ _ 0 _ _ _ r7
  have x1 := cell_of_row _ _ 1 _ _ _ r7
  have x2 := cell_of_row _ _ 2 _ _ _ r7
  have t0 := frozen_of_row _ _ 0 _ _ r7
  have t1 := frozen_of_row _ _ 1 _ _ r7
  have t2 := frozen_of_row _ _ 2 _ _ r7
  clear h hv hb6 hy hx5 hz6 hw6 hs5 hl5' hm5 hp hj far hsz hpost hlow r7
  go_wp2_with fail
  obtain ⟨z0, z1, z2⟩ := three_cells (W := w7) (b := w.heap.size) _ _ _ (.int .i64 f.k) (.int .i64 f.n) (.slice (some ⟨g5, 0, none⟩) f.ws.length f.ws.length) x0 x1 x2
  obtain ⟨far, hsz, hpost, hlow⟩ := HE.out
  obtain ⟨h, hv, hb6, hy, hx5, hz6, hw6, hs5, hl5', hm5, hp, hj⟩ := HD.out
  refine bodyPost_ret (v := .tuple #[.agg #[.int .i64 f.k, .int .i64 f.n, .slice (some ⟨g5, 0, none⟩) f.ws.length f.ws.length], .bool true]) (by simp [results, Try.results29, go_sem, z0, z1, z2]) rfl ⟨_, rfl, ⟨g5, rfl, ?_, by omega, by simp [World.setCell]; omega, fun i => ?_⟩, ?_, ?_, ?_⟩
  · refine hw6.move (fun x hx hk => ⟨hk, ?_⟩) (by simp [World.setCell]; omega)
    subst hk
    rw [Below.heap_setCell _ _ _ _ (by show x ≠ w.heap.size; omega), Below.heap_setCell _ _ _ _ (by show x ≠ w.heap.size; omega), Below.heap_setCell _ _ _ _ (by show x ≠ w.heap.size; omega)]
    exact far x (by omega) hx
  · rw [World.frozen?_setCell, World.frozen?_setCell, World.frozen?_setCell]
    exact (World.frozen?_of_block (w := W6) (a := ⟨g5, i, none⟩) (far g5 (by omega) (by omega))).trans (HF6.out i)
  · have hp0 := h.1.lp
    have hl0 := h.1.fs.lt
    have hz0 := h.2.size
    exact ((hpost.box hp0 hl0 hz0 _).box hp0 hl0 hz0 _).box hp0 hl0 hz0 _
  · simp [World.setCell]
    have := hb6.size
    omega
  · intro k hk k1 k2
    rw [Below.heap_setCell _ _ _ _ (by show k ≠ w.heap.size; omega), Below.heap_setCell _ _ _ _ (by show k ≠ w.heap.size; omega), Below.heap_setCell _ _ _ _ (by show k ≠ w.heap.size; omega)]
    exact hlow k hk k1 k2

set_option maxHeartbeats 8000000 in
theorem tell_scan (p left j : Nat) (room : Int) (v : Value) (L : List Fr) (f : Fr) (w0 w : World) (h : St w0 p room v L left) (hb : Below w0.heap.size w0 w) (hj : L[j]? = some f) (B : Nat) (hB : w.cell? ⟨B, 0, none⟩ = some (.pointer (some ⟨p, 0, none⟩))) :
    Calls Try.prog 29 #[.pointer (some ⟨p, 0, none⟩), .int .i64 ((j : Int) + 1), .func (.func 30) #[] #[.pointer (some ⟨B, 0, none⟩)]] w fun e w' => ∃ u, e = .returned (.tuple #[u, .bool true]) ∧ Gave f w u w' ∧ Kept p room v w0 L j w' ∧ w.heap.size ≤ w'.heap.size ∧ ∀ k, k < w.heap.size → k ≠ p → some k ≠ v.ownBlock → w'.heap[k]? = w.heap[k]? := by
  have hlt : j < L.length := (List.getElem?_eq_some_iff.1 hj).1
  have hsm := h.small
  have hw := h.later hb
  obtain ⟨g, cap, hv, hc1, hc2, hg, k0, k1, k2⟩ := hw.fs.cell hj
  have hp := hw.lp
  have hgp : g ≠ p := fun e => h.ne (by rw [hv, e]; rfl)
  have hwf := hw.ws f (List.mem_of_getElem? hj)
  have hwl : f.ws.length ≤ 4096 := by
    have h1 := h.us
    have h2 := h.r1
    have h3 : (f.ws.length : Int) + 2 ≤ used L := used_mem (List.mem_of_getElem? hj)
    omega
  have hb1 := (Below.refl w.heap.size w).alloc (Nat.le_refl _) (.cells #[.int .i64 0, .int .i64 0, .slice none 0 0] TF)
  have hx := box_cells (w := w) (u0 := .int .i64 0) (u1 := .int .i64 0) (u2 := .slice none 0 0) (T := TF)
  have hz1 : (w.alloc (.cells #[.int .i64 0, .int .i64 0, .slice none 0 0] TF)).heap.size = w.heap.size + 1 := World.size_alloc ..
  have q2 : (w.alloc (.cells #[.int .i64 0, .int .i64 0, .slice none 0 0] TF)).cell? ⟨p, 2, none⟩ = some (.slice (some ⟨g, 0, none⟩) L.length cap) := (World.cell?_of_block (w := w) (hb1.block p hp)).trans (hw.c2.trans (by rw [hv]))
  have q4 := (World.cell?_of_block (w := w) (a := ⟨g, j * 3, none⟩) (hb1.block g hg)).trans k0
  have q5 := (World.cell?_of_block (w := w) (a := ⟨g, j * 3 + 1, none⟩) (hb1.block g hg)).trans k1
  have q6 := (World.cell?_of_block (w := w) (a := ⟨g, j * 3 + 2, none⟩) (hb1.block g hg)).trans k2
  have HS := Lib.hid (And.intro (And.intro h hb) (And.intro hv (And.intro hb1 (And.intro hz1 (And.intro hx (And.intro hp hj))))))
  have HW := Lib.hid (hwf.move (K' := fun g => g ≠ p ∧ some g ≠ v.ownBlock) (fun x hx hk => ⟨hk, hb1.block x hx⟩) hb1.size)
  have HM : Hid (f.ws.length ≤ 4096) := hwl
  have hj1 : ¬ ((j : Int) + 1 = 0) := by omega
  have hj2 : (j : Int) < (L.length : Int) := by omega
  have hj3 : (j : Int) + 1 - 1 = (j : Int) := by omega
  clear h hb hw hv hb1 hx hp hwf hwl hj k0 k1 k2
  have HB := Lib.hid hB
  clear hB
  go_enter Try.func29, Try.ntmps29
  go_wp2_with fail
  refine (copied_any f.k f.n f.a f.c f.ws (fun g => g ≠ p ∧ some g ≠ v.ownBlock) _ HW.out (by have := HM.out; omega)).mono ?_
  rintro e w5 ⟨g5, rfl, hc5, hl5, hm5, hb5, hf5⟩
  have H5 := Lib.hid (And.intro hc5 (And.intro hl5 (And.intro hm5 (And.intro hb5 hf5))))
  clear hc5 hl5 hm5 hb5 hf5 q2 q4 q5 q6
  go_wp2_with fail
  obtain ⟨hc5, hl5, hm5, hb5, hf5⟩ := H5.out
  obtain ⟨h, hv, hb1, hz1, hx, hp, hj⟩ := HS.out
  have hb6 : Below w.heap.size w (w5.alloc (.cells #[.int .i64 f.k, .int .i64 f.n, .slice (some ⟨g5, 0, none⟩) f.ws.length f.ws.length] TF)) := (hb1.trans (hb5.mono hb1.size)).alloc (Nat.le_trans hb1.size hb5.size) _
  have hy := box_cells (w := w5) (u0 := .int .i64 f.k) (u1 := .int .i64 f.n) (u2 := .slice (some ⟨g5, 0, none⟩) f.ws.length f.ws.length) (T := TF)
  have hx5 : (w5.alloc (.cells #[.int .i64 f.k, .int .i64 f.n, .slice (some ⟨g5, 0, none⟩) f.ws.length f.ws.length] TF)).heap[w.heap.size]? = some (.cells #[.int .i64 0, .int .i64 0, .slice none 0 0] TF (0, 0)) := by
    rw [Below.heap_alloc _ _ _ (by have := hb5.size; omega), hb5.block _ (by rw [hz1]; omega)]
    exact hx
  have hz6 : (w5.alloc (.cells #[.int .i64 f.k, .int .i64 f.n, .slice (some ⟨g5, 0, none⟩) f.ws.length f.ws.length] TF)).heap.size = w5.heap.size + 1 := World.size_alloc ..
  have hw6 : WAt (fun x => x = g5) (w5.alloc (.cells #[.int .i64 f.k, .int .i64 f.n, .slice (some ⟨g5, 0, none⟩) f.ws.length f.ws.length] TF)) ⟨f.k, f.n, f.ws, some ⟨g5, 0, none⟩, f.ws.length⟩ := hc5.move (fun x hx hk => ⟨hk, Below.heap_alloc _ _ _ hx⟩) (by rw [hz6]; omega)
  have hf6 : ∀ i, (w5.alloc (.cells #[.int .i64 f.k, .int .i64 f.n, .slice (some ⟨g5, 0, none⟩) f.ws.length f.ws.length] TF)).frozen? ⟨g5, i, none⟩ = false := fun i => (World.frozen?_of_block (w := w5) (a := ⟨g5, i, none⟩) (Below.heap_alloc _ _ _ hm5)).trans (hf5 i)
  have hs5 : w.heap.size + 1 ≤ w5.heap.size := by have := hb5.size; omega
  have hl5' : w.heap.size + 1 ≤ g5 := by omega
  generalize hW6 : w5.alloc (.cells #[.int .i64 f.k, .int .i64 f.n, .slice (some ⟨g5, 0, none⟩) f.ws.length f.ws.length] TF) = W6 at hb6 hy hx5 hz6 hw6 hf6 ⊢
  generalize hn5 : w5.heap.size = n5 at hy hz6 hs5 hm5 ⊢
  have HF6 := Lib.hid hf6
  clear hW6 hn5 hb5 hc5 hl5 hf5 hf6 H5 HW HS hb1 hz1 hx
  have HD := Lib.hid (And.intro h (And.intro hv (And.intro hb6 (And.intro hy (And.intro hx5 (And.intro hz6 (And.intro hw6 (And.intro hs5 (And.intro hl5' (And.intro hm5 (And.intro hp hj)))))))))))
  have hBl := World.block_lt_of_cell? _ _ HB.out
  have hB6 := (World.cell?_of_block (w := w) (a := ⟨B, 0, none⟩) (hb6.block B hBl)).trans HB.out
  have hb06 := h.2.trans (hb6.mono h.2.size)
  have HB6 := Lib.hid hb06
  have g3 := (h.1.later hb06).c3
  have z3 := (h.1.later hb06).z3
  clear h hv hb6 hy hx5 hz6 hw6 hs5 hl5' hm5 hp hj hb06 hBl
  refine (scan1_any _ B p _ _ hB6 g3 z3).mono ?_
  rintro e w7 ⟨rfl, h7⟩
  have far : ∀ k, w.heap.size ≤ k → k < W6.heap.size → w7.heap[k]? = W6.heap[k]? := fun k hk _ => by rw [h7]; exact Below.heap_setCell _ _ _ _ (by show k ≠ p; have := HD.out.2.2.2.2.2.2.2.2.2.2.1; omega)
  have hsz : W6.heap.size ≤ w7.heap.size := by rw [h7]; simp [World.setCell]
  have hpost : Kept p room v w0 L j w7 := by rw [h7]; exact Kept.scan HD.out.1.1 HB6.out (Nat.le_of_lt (List.getElem?_eq_some_iff.1 HD.out.2.2.2.2.2.2.2.2.2.2.2).1)
  have hlow : ∀ k, k < w.heap.size → k ≠ p → some k ≠ v.ownBlock → w7.heap[k]? = w.heap[k]? := fun k hk k1 _ => by rw [h7]; exact (Below.heap_setCell _ _ _ _ k1).trans (HD.out.2.2.1.block k hk)
  clear h7 hB6 g3 z3
  have HE := Lib.hid (And.intro far (And.intro hsz (And.intro hpost hlow)))
  obtain ⟨h, hv, hb6, hy, hx5, hz6, hw6, hs5, hl5', hm5, hp, hj⟩ := HD.out
  have y0 := cell_of_row _ _ 0 _ _ _ ((far n5 (by omega) (by omega)).trans hy)
  have y1 := cell_of_row _ _ 1 _ _ _ ((far n5 (by omega) (by omega)).trans hy)
  have y2 := cell_of_row _ _ 2 _ _ _ ((far n5 (by omega) (by omega)).trans hy)
  have r7 := (far w.heap.size (Nat.le_refl _) (by omega)).trans hx5
  have x0 := cell_of_row _ _ 0 _ _ _ r7
  have x1 := cell_of_row _ _ 1 _ _ _ r7
  have x2 := cell_of_row _ _ 2 _ _ _ r7
  have t0 := frozen_of_row _ _ 0 _ _ r7
  have t1 := frozen_of_row _ _ 1 _ _ r7
  have t2 := frozen_of_row _ _ 2 _ _ r7
  clear h hv hb6 hy hx5 hz6 hw6 hs5 hl5' hm5 hp hj far hsz hpost hlow r7
  go_wp2_with fail
  obtain ⟨z0, z1, z2⟩ := three_cells (W := w7) (b := w.heap.size) _ _ _ (.int .i64 f.k) (.int .i64 f.n) (.slice (some ⟨g5, 0, none⟩) f.ws.length f.ws.length) x0 x1 x2
  obtain ⟨far, hsz, hpost, hlow⟩ := HE.out
  obtain ⟨h, hv, hb6, hy, hx5, hz6, hw6, hs5, hl5', hm5, hp, hj⟩ := HD.out
  refine bodyPost_ret (v := .tuple #[.agg #[.int .i64 f.k, .int .i64 f.n, .slice (some ⟨g5, 0, none⟩) f.ws.length f.ws.length], .bool true]) (by simp [results, Try.results29, go_sem, z0, z1, z2]) rfl ⟨_, rfl, ⟨g5, rfl, ?_, by omega, by simp [World.setCell]; omega, fun i => ?_⟩, ?_, ?_, ?_⟩
  · refine hw6.move (fun x hx hk => ⟨hk, ?_⟩) (by simp [World.setCell]; omega)
    subst hk
    rw [Below.heap_setCell _ _ _ _ (by show x ≠ w.heap.size; omega), Below.heap_setCell _ _ _ _ (by show x ≠ w.heap.size; omega), Below.heap_setCell _ _ _ _ (by show x ≠ w.heap.size; omega)]
    exact far x (by omega) hx
  · rw [World.frozen?_setCell, World.frozen?_setCell, World.frozen?_setCell]
    exact (World.frozen?_of_block (w := W6) (a := ⟨g5, i, none⟩) (far g5 (by omega) (by omega))).trans (HF6.out i)
  · have hp0 := h.1.lp
    have hl0 := h.1.fs.lt
    have hz0 := h.2.size
    exact ((hpost.box hp0 hl0 hz0 _).box hp0 hl0 hz0 _).box hp0 hl0 hz0 _
  · simp [World.setCell]
    have := hb6.size
    omega
  · intro k hk k1 k2
    rw [Below.heap_setCell _ _ _ _ (by show k ≠ w.heap.size; omega), Below.heap_setCell _ _ _ _ (by show k ≠ w.heap.size; omega), Below.heap_setCell _ _ _ _ (by show k ≠ w.heap.size; omega)]
    exact hlow k hk k1 k2

end Go.Proofs.Ytalfhcmccdnajaa
