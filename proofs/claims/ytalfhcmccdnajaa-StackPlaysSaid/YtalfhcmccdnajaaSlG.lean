/- The law's do, a frame told: its words lie in a new block. -/
import Derived.Test.YtalfhcmccdnajaaSkS
namespace Go.Proofs.Ytalfhcmccdnajaa
open Go.RowKit Go.Sort

set_option maxHeartbeats 8000000 in
theorem do_pop_some2 (p left : Nat) (room : Int) (v : Value) (M : List Fr) (f : Fr) (k n : Int) (a : Option Addr) (c : Nat) (ws : List Int) (w : World) (h : St w p room v (M ++ [f]) left)  :
    Calls Try.prog 11 #[.pointer (some ⟨p, 0, none⟩), .agg #[.int .i64 1, .int .i64 k, .int .i64 n, .slice a ws.length c]] w fun e w' => ∃ g5, e = .returned (.agg #[.int .i64 f.k, .int .i64 f.n, .slice (some ⟨g5, 0, none⟩) f.ws.length f.ws.length, .bool (decide (M.length < left)), .bool true, .int .i64 0]) ∧ WAt (fun x => x = g5) w' ⟨f.k, f.n, f.ws, some ⟨g5, 0, none⟩, f.ws.length⟩ ∧ w.heap.size ≤ g5 ∧ Did p room v w (M) ((min left M.length)) w' := by
  obtain ⟨W, hW, hb, hz, hX, hR, hT⟩ := do_boxes w 1 k n a ws.length c
  have HX := Lib.hid (And.intro hb (And.intro hz (And.intro (h.later hb) (And.intro h (And.intro hR hT)))))
  have x0 := cell_of_row _ _ 0 _ _ _ hX
  have x1 := cell_of_row _ _ 1 _ _ _ hX
  have x2 := cell_of_row _ _ 2 _ _ _ hX
  have x3 := cell_of_row _ _ 3 _ _ _ hX
  obtain ⟨fresh, hfr⟩ : ∃ b, b = decide (M.length < left) := ⟨_, rfl⟩
  rw [← hfr]
  have HFR := Lib.hid hfr
  clear hfr
  clear h hb hz hX hR hT
  go_enter Try.func11, Try.ntmps11
  go_wp2_with fail
  rw [← hW]
  clear hW
  refine (pop_some p left room v M f W HX.out.2.2.1).mono ?_
  rintro e w1 ⟨u, rfl, ⟨g5, rfl, hg2, hg3, hg4, -⟩, hk⟩
  clear x0 x1 x2 x3
  have hz := HX.out.2.1
  have hp := HX.out.2.2.2.1.lp
  have hl := HX.out.2.2.2.1.fs.lt
  rw [← HFR.out]
  have hDB : DidB p room v w W.heap.size (M) (min left M.length) w1 := DidB.of_kept HX.out.2.2.2.1 HX.out.1 hk (fun x hx => List.mem_append.2 (Or.inl hx))
  obtain ⟨v1, -, htn, -, -⟩ := hk
  have HGV := Lib.hid (And.intro hg2 hg3)
  clear hg2 hg3 hg4
  have far : ∀ b, w.heap.size ≤ b → b < W.heap.size → w1.heap[b]? = W.heap[b]? := fun b h1 h2 => htn.block b h2 (by omega) (fun e => by have := hl b e.symm; omega)
  have r1 := (far (w.heap.size + 1) (by omega) (by omega)).trans HX.out.2.2.2.2.1
  have r2 := (far (w.heap.size + 2) (by omega) (by omega)).trans HX.out.2.2.2.2.2
  have HDB := Lib.hid hDB
  clear hDB far hz hp hl
  have t0 := cell_of_row _ _ 0 _ _ _ r2
  have t1 := cell_of_row _ _ 1 _ _ _ r2
  have t2 := cell_of_row _ _ 2 _ _ _ r2
  have t3 := cell_of_row _ _ 3 _ _ _ r2
  have t4 := cell_of_row _ _ 4 _ _ _ r2
  have t5 := cell_of_row _ _ 5 _ _ _ r2
  have u0 := cell_of_row _ _ 0 _ _ _ r1
  have u1 := cell_of_row _ _ 1 _ _ _ r1
  have u2 := cell_of_row _ _ 2 _ _ _ r1
  have u3 := cell_of_row _ _ 3 _ _ _ r1
  have u4 := cell_of_row _ _ 4 _ _ _ r1
  have u5 := cell_of_row _ _ 5 _ _ _ r1
  have ft0 := frozen_of_row _ _ 0 _ _ r2
  have ft1 := frozen_of_row _ _ 1 _ _ r2
  have ft2 := frozen_of_row _ _ 2 _ _ r2
  have ft3 := frozen_of_row _ _ 3 _ _ r2
  have ft4 := frozen_of_row _ _ 4 _ _ r2
  have ft5 := frozen_of_row _ _ 5 _ _ r2
  have fu0 := frozen_of_row _ _ 0 _ _ r1
  have fu1 := frozen_of_row _ _ 1 _ _ r1
  have fu2 := frozen_of_row _ _ 2 _ _ r1
  have fu3 := frozen_of_row _ _ 3 _ _ r1
  have fu4 := frozen_of_row _ _ 4 _ _ r1
  have fu5 := frozen_of_row _ _ 5 _ _ r1
  clear r1 r2
  go_wp2_with fail
  obtain ⟨Z, hZ, z0, z1, z2, z3, z4, z5⟩ := six_cells (W := (((((w1.setCell ⟨w.heap.size + 1 + 1, 0, none⟩ (.int .i64 f.k)).setCell ⟨w.heap.size + 1 + 1, 1, none⟩ (.int .i64 f.n)).setCell ⟨w.heap.size + 1 + 1, 2, none⟩ (.slice (some ⟨g5, 0, none⟩) f.ws.length f.ws.length)).setCell ⟨w.heap.size + 1 + 1, 3, none⟩ (.bool fresh)).setCell ⟨w.heap.size + 1 + 1, 4, none⟩ (.bool true))) (b := w.heap.size + 1) (.int .i64 f.k) (.int .i64 f.n) (.slice (some ⟨g5, 0, none⟩) f.ws.length f.ws.length) (.bool fresh) (.bool true) (.int .i64 0) (by rw [World.cell?_setCell_other _ _ _ _ (by simp), World.cell?_setCell_other _ _ _ _ (by simp), World.cell?_setCell_other _ _ _ _ (by simp), World.cell?_setCell_other _ _ _ _ (by simp), World.cell?_setCell_other _ _ _ _ (by simp)]; exact u0) (by rw [World.cell?_setCell_other _ _ _ _ (by simp), World.cell?_setCell_other _ _ _ _ (by simp), World.cell?_setCell_other _ _ _ _ (by simp), World.cell?_setCell_other _ _ _ _ (by simp), World.cell?_setCell_other _ _ _ _ (by simp)]; exact u1) (by rw [World.cell?_setCell_other _ _ _ _ (by simp), World.cell?_setCell_other _ _ _ _ (by simp), World.cell?_setCell_other _ _ _ _ (by simp), World.cell?_setCell_other _ _ _ _ (by simp), World.cell?_setCell_other _ _ _ _ (by simp)]; exact u2) (by rw [World.cell?_setCell_other _ _ _ _ (by simp), World.cell?_setCell_other _ _ _ _ (by simp), World.cell?_setCell_other _ _ _ _ (by simp), World.cell?_setCell_other _ _ _ _ (by simp), World.cell?_setCell_other _ _ _ _ (by simp)]; exact u3) (by rw [World.cell?_setCell_other _ _ _ _ (by simp), World.cell?_setCell_other _ _ _ _ (by simp), World.cell?_setCell_other _ _ _ _ (by simp), World.cell?_setCell_other _ _ _ _ (by simp), World.cell?_setCell_other _ _ _ _ (by simp)]; exact u4) (by rw [World.cell?_setCell_other _ _ _ _ (by simp), World.cell?_setCell_other _ _ _ _ (by simp), World.cell?_setCell_other _ _ _ _ (by simp), World.cell?_setCell_other _ _ _ _ (by simp), World.cell?_setCell_other _ _ _ _ (by simp)]; exact u5)
  have HZ : Hid (DidB p room v w W.heap.size (M) (min left M.length) Z) := by
    have hz := HX.out.2.1
    have hp := HX.out.2.2.2.1.lp
    have hl := HX.out.2.2.2.1.fs.lt
    rw [hZ]
    exact ((((((HDB.out.box hp hl (by omega) (by omega) _).box hp hl (by omega) (by omega) _).box hp hl (by omega) (by omega) _).box hp hl (by omega) (by omega) _).box hp hl (by omega) (by omega) _)).six hp hl (by omega) (by omega) _ _ _ _ _ _
  have HG5 : Hid (WAt (fun x => x = g5) Z ⟨f.k, f.n, f.ws, some ⟨g5, 0, none⟩, f.ws.length⟩) := by
    rw [hZ]
    have hz := HX.out.2.1
    have hg := HGV.out.2
    exact (((((((((((HGV.out.1.poke (by omega) _ _).poke (by omega) _ _).poke (by omega) _ _).poke (by omega) _ _).poke (by omega) _ _).poke (by omega) _ _).poke (by omega) _ _).poke (by omega) _ _).poke (by omega) _ _).poke (by omega) _ _).poke (by omega) _ _)
  rw [← hZ]
  refine bodyPost_ret (v := .agg #[.int .i64 f.k, .int .i64 f.n, .slice (some ⟨g5, 0, none⟩) f.ws.length f.ws.length, .bool fresh, .bool true, .int .i64 0]) (by simp [results, Try.results11, go_sem, z0, z1, z2, z3, z4, z5]) rfl ⟨g5, rfl, HG5.out, (by have := HGV.out.2; have := HX.out.2.1; omega), HZ.out.did (by have := HX.out.2.1; omega)⟩

set_option maxHeartbeats 8000000 in
theorem do_top_some2 (p left : Nat) (room : Int) (v : Value) (L : List Fr) (f : Fr) (j : Nat) (k n : Int) (a : Option Addr) (c : Nat) (ws : List Int) (w : World) (h : St w p room v L left) (hj : L[j]? = some f) (hjl : L.length = j + 1) :
    Calls Try.prog 11 #[.pointer (some ⟨p, 0, none⟩), .agg #[.int .i64 2, .int .i64 k, .int .i64 n, .slice a ws.length c]] w fun e w' => ∃ g5, e = .returned (.agg #[.int .i64 f.k, .int .i64 f.n, .slice (some ⟨g5, 0, none⟩) f.ws.length f.ws.length, .bool false, .bool true, .int .i64 0]) ∧ WAt (fun x => x = g5) w' ⟨f.k, f.n, f.ws, some ⟨g5, 0, none⟩, f.ws.length⟩ ∧ w.heap.size ≤ g5 ∧ Did p room v w (L) (left) w' := by
  obtain ⟨W, hW, hb, hz, hX, hR, hT⟩ := do_boxes w 2 k n a ws.length c
  have HX := Lib.hid (And.intro hb (And.intro hz (And.intro (h.later hb) (And.intro h (And.intro hR hT)))))
  have x0 := cell_of_row _ _ 0 _ _ _ hX
  have x1 := cell_of_row _ _ 1 _ _ _ hX
  have x2 := cell_of_row _ _ 2 _ _ _ hX
  have x3 := cell_of_row _ _ 3 _ _ _ hX
  have HJ := Lib.hid (And.intro hj hjl)
  clear hj hjl
  clear h hb hz hX hR hT
  go_enter Try.func11, Try.ntmps11
  go_wp2_with fail
  rw [← hW]
  clear hW
  refine (top_some p left j room v L f W HX.out.2.2.1 HJ.out.1 HJ.out.2).mono ?_
  rintro e w1 ⟨u, rfl, ⟨g5, rfl, hg2, hg3, hg4, -⟩, hk⟩
  clear x0 x1 x2 x3
  have hz := HX.out.2.1
  have hp := HX.out.2.2.2.1.lp
  have hl := HX.out.2.2.2.1.fs.lt
  have hDB : DidB p room v w W.heap.size (L) left w1 := DidB.of_kept HX.out.2.2.2.1 HX.out.1 hk (fun x hx => hx)
  obtain ⟨v1, -, htn, -, -⟩ := hk
  have HGV := Lib.hid (And.intro hg2 hg3)
  clear hg2 hg3 hg4
  have far : ∀ b, w.heap.size ≤ b → b < W.heap.size → w1.heap[b]? = W.heap[b]? := fun b h1 h2 => htn.block b h2 (by omega) (fun e => by have := hl b e.symm; omega)
  have r1 := (far (w.heap.size + 1) (by omega) (by omega)).trans HX.out.2.2.2.2.1
  have r2 := (far (w.heap.size + 2) (by omega) (by omega)).trans HX.out.2.2.2.2.2
  have HDB := Lib.hid hDB
  clear hDB far hz hp hl
  have t0 := cell_of_row _ _ 0 _ _ _ r2
  have t1 := cell_of_row _ _ 1 _ _ _ r2
  have t2 := cell_of_row _ _ 2 _ _ _ r2
  have t3 := cell_of_row _ _ 3 _ _ _ r2
  have t4 := cell_of_row _ _ 4 _ _ _ r2
  have t5 := cell_of_row _ _ 5 _ _ _ r2
  have u0 := cell_of_row _ _ 0 _ _ _ r1
  have u1 := cell_of_row _ _ 1 _ _ _ r1
  have u2 := cell_of_row _ _ 2 _ _ _ r1
  have u3 := cell_of_row _ _ 3 _ _ _ r1
  have u4 := cell_of_row _ _ 4 _ _ _ r1
  have u5 := cell_of_row _ _ 5 _ _ _ r1
  have ft0 := frozen_of_row _ _ 0 _ _ r2
  have ft1 := frozen_of_row _ _ 1 _ _ r2
  have ft2 := frozen_of_row _ _ 2 _ _ r2
  have ft3 := frozen_of_row _ _ 3 _ _ r2
  have ft4 := frozen_of_row _ _ 4 _ _ r2
  have ft5 := frozen_of_row _ _ 5 _ _ r2
  have fu0 := frozen_of_row _ _ 0 _ _ r1
  have fu1 := frozen_of_row _ _ 1 _ _ r1
  have fu2 := frozen_of_row _ _ 2 _ _ r1
  have fu3 := frozen_of_row _ _ 3 _ _ r1
  have fu4 := frozen_of_row _ _ 4 _ _ r1
  have fu5 := frozen_of_row _ _ 5 _ _ r1
  clear r1 r2
  go_wp2_with fail
  obtain ⟨Z, hZ, z0, z1, z2, z3, z4, z5⟩ := six_cells (W := ((((w1.setCell ⟨w.heap.size + 1 + 1, 0, none⟩ (.int .i64 f.k)).setCell ⟨w.heap.size + 1 + 1, 1, none⟩ (.int .i64 f.n)).setCell ⟨w.heap.size + 1 + 1, 2, none⟩ (.slice (some ⟨g5, 0, none⟩) f.ws.length f.ws.length)).setCell ⟨w.heap.size + 1 + 1, 4, none⟩ (.bool true))) (b := w.heap.size + 1) (.int .i64 f.k) (.int .i64 f.n) (.slice (some ⟨g5, 0, none⟩) f.ws.length f.ws.length) (.bool false) (.bool true) (.int .i64 0) (by rw [World.cell?_setCell_other _ _ _ _ (by simp), World.cell?_setCell_other _ _ _ _ (by simp), World.cell?_setCell_other _ _ _ _ (by simp), World.cell?_setCell_other _ _ _ _ (by simp)]; exact u0) (by rw [World.cell?_setCell_other _ _ _ _ (by simp), World.cell?_setCell_other _ _ _ _ (by simp), World.cell?_setCell_other _ _ _ _ (by simp), World.cell?_setCell_other _ _ _ _ (by simp)]; exact u1) (by rw [World.cell?_setCell_other _ _ _ _ (by simp), World.cell?_setCell_other _ _ _ _ (by simp), World.cell?_setCell_other _ _ _ _ (by simp), World.cell?_setCell_other _ _ _ _ (by simp)]; exact u2) (by rw [World.cell?_setCell_other _ _ _ _ (by simp), World.cell?_setCell_other _ _ _ _ (by simp), World.cell?_setCell_other _ _ _ _ (by simp), World.cell?_setCell_other _ _ _ _ (by simp)]; exact u3) (by rw [World.cell?_setCell_other _ _ _ _ (by simp), World.cell?_setCell_other _ _ _ _ (by simp), World.cell?_setCell_other _ _ _ _ (by simp), World.cell?_setCell_other _ _ _ _ (by simp)]; exact u4) (by rw [World.cell?_setCell_other _ _ _ _ (by simp), World.cell?_setCell_other _ _ _ _ (by simp), World.cell?_setCell_other _ _ _ _ (by simp), World.cell?_setCell_other _ _ _ _ (by simp)]; exact u5)
  have HZ : Hid (DidB p room v w W.heap.size (L) left Z) := by
    have hz := HX.out.2.1
    have hp := HX.out.2.2.2.1.lp
    have hl := HX.out.2.2.2.1.fs.lt
    rw [hZ]
    exact (((((HDB.out.box hp hl (by omega) (by omega) _).box hp hl (by omega) (by omega) _).box hp hl (by omega) (by omega) _).box hp hl (by omega) (by omega) _)).six hp hl (by omega) (by omega) _ _ _ _ _ _
  have HG5 : Hid (WAt (fun x => x = g5) Z ⟨f.k, f.n, f.ws, some ⟨g5, 0, none⟩, f.ws.length⟩) := by
    rw [hZ]
    have hz := HX.out.2.1
    have hg := HGV.out.2
    exact ((((((((((HGV.out.1.poke (by omega) _ _).poke (by omega) _ _).poke (by omega) _ _).poke (by omega) _ _).poke (by omega) _ _).poke (by omega) _ _).poke (by omega) _ _).poke (by omega) _ _).poke (by omega) _ _).poke (by omega) _ _)
  rw [← hZ]
  refine bodyPost_ret (v := .agg #[.int .i64 f.k, .int .i64 f.n, .slice (some ⟨g5, 0, none⟩) f.ws.length f.ws.length, .bool false, .bool true, .int .i64 0]) (by simp [results, Try.results11, go_sem, z0, z1, z2, z3, z4, z5]) rfl ⟨g5, rfl, HG5.out, (by have := HGV.out.2; have := HX.out.2.1; omega), HZ.out.did (by have := HX.out.2.1; omega)⟩

set_option maxHeartbeats 8000000 in
theorem do_scan_some2 (p : Nat) (room : Int) (v : Value) (L : List Fr) (f : Fr) (j : Nat) (X k n : Int) (a : Option Addr) (c : Nat) (ws : List Int) (w : World) (h : St w p room v L (j + 1)) (hx0 : ¬ X = 0) (hx1 : ¬ X = 1) (hx2 : ¬ X = 2) (hx3 : ¬ X = 3) (hj : L[j]? = some f) :
    Calls Try.prog 11 #[.pointer (some ⟨p, 0, none⟩), .agg #[.int .i64 X, .int .i64 k, .int .i64 n, .slice a ws.length c]] w fun e w' => ∃ g5, e = .returned (.agg #[.int .i64 f.k, .int .i64 f.n, .slice (some ⟨g5, 0, none⟩) f.ws.length f.ws.length, .bool false, .bool true, .int .i64 0]) ∧ WAt (fun x => x = g5) w' ⟨f.k, f.n, f.ws, some ⟨g5, 0, none⟩, f.ws.length⟩ ∧ w.heap.size ≤ g5 ∧ Did p room v w (L) (j) w' := by
  obtain ⟨W, hW, hb, hz, hX, hR, hT⟩ := do_boxes w X k n a ws.length c
  have HX := Lib.hid (And.intro hb (And.intro hz (And.intro (h.later hb) (And.intro h (And.intro hR hT)))))
  have x0 := cell_of_row _ _ 0 _ _ _ hX
  have x1 := cell_of_row _ _ 1 _ _ _ hX
  have x2 := cell_of_row _ _ 2 _ _ _ hX
  have x3 := cell_of_row _ _ 3 _ _ _ hX
  have HJ := Lib.hid hj
  clear hj
  clear h hb hz hX hR hT
  go_enter Try.func11, Try.ntmps11
  go_wp2_with fail
  rw [← hW]
  clear hW
  refine (scan_some p j room v L f W HX.out.2.2.1 HJ.out).mono ?_
  rintro e w1 ⟨u, rfl, ⟨g5, rfl, hg2, hg3, hg4, -⟩, hk⟩
  clear x0 x1 x2 x3
  have hz := HX.out.2.1
  have hp := HX.out.2.2.2.1.lp
  have hl := HX.out.2.2.2.1.fs.lt
  have hDB : DidB p room v w W.heap.size (L) j w1 := DidB.of_kept HX.out.2.2.2.1 HX.out.1 hk (fun x hx => hx)
  obtain ⟨v1, -, htn, -, -⟩ := hk
  have HGV := Lib.hid (And.intro hg2 hg3)
  clear hg2 hg3 hg4
  have far : ∀ b, w.heap.size ≤ b → b < W.heap.size → w1.heap[b]? = W.heap[b]? := fun b h1 h2 => htn.block b h2 (by omega) (fun e => by have := hl b e.symm; omega)
  have r1 := (far (w.heap.size + 1) (by omega) (by omega)).trans HX.out.2.2.2.2.1
  have r2 := (far (w.heap.size + 2) (by omega) (by omega)).trans HX.out.2.2.2.2.2
  have HDB := Lib.hid hDB
  clear hDB far hz hp hl
  have t0 := cell_of_row _ _ 0 _ _ _ r2
  have t1 := cell_of_row _ _ 1 _ _ _ r2
  have t2 := cell_of_row _ _ 2 _ _ _ r2
  have t3 := cell_of_row _ _ 3 _ _ _ r2
  have t4 := cell_of_row _ _ 4 _ _ _ r2
  have t5 := cell_of_row _ _ 5 _ _ _ r2
  have u0 := cell_of_row _ _ 0 _ _ _ r1
  have u1 := cell_of_row _ _ 1 _ _ _ r1
  have u2 := cell_of_row _ _ 2 _ _ _ r1
  have u3 := cell_of_row _ _ 3 _ _ _ r1
  have u4 := cell_of_row _ _ 4 _ _ _ r1
  have u5 := cell_of_row _ _ 5 _ _ _ r1
  have ft0 := frozen_of_row _ _ 0 _ _ r2
  have ft1 := frozen_of_row _ _ 1 _ _ r2
  have ft2 := frozen_of_row _ _ 2 _ _ r2
  have ft3 := frozen_of_row _ _ 3 _ _ r2
  have ft4 := frozen_of_row _ _ 4 _ _ r2
  have ft5 := frozen_of_row _ _ 5 _ _ r2
  have fu0 := frozen_of_row _ _ 0 _ _ r1
  have fu1 := frozen_of_row _ _ 1 _ _ r1
  have fu2 := frozen_of_row _ _ 2 _ _ r1
  have fu3 := frozen_of_row _ _ 3 _ _ r1
  have fu4 := frozen_of_row _ _ 4 _ _ r1
  have fu5 := frozen_of_row _ _ 5 _ _ r1
  clear r1 r2
  go_wp2_with fail
  obtain ⟨Z, hZ, z0, z1, z2, z3, z4, z5⟩ := six_cells (W := ((((w1.setCell ⟨w.heap.size + 1 + 1, 0, none⟩ (.int .i64 f.k)).setCell ⟨w.heap.size + 1 + 1, 1, none⟩ (.int .i64 f.n)).setCell ⟨w.heap.size + 1 + 1, 2, none⟩ (.slice (some ⟨g5, 0, none⟩) f.ws.length f.ws.length)).setCell ⟨w.heap.size + 1 + 1, 4, none⟩ (.bool true))) (b := w.heap.size + 1) (.int .i64 f.k) (.int .i64 f.n) (.slice (some ⟨g5, 0, none⟩) f.ws.length f.ws.length) (.bool false) (.bool true) (.int .i64 0) (by rw [World.cell?_setCell_other _ _ _ _ (by simp), World.cell?_setCell_other _ _ _ _ (by simp), World.cell?_setCell_other _ _ _ _ (by simp), World.cell?_setCell_other _ _ _ _ (by simp)]; exact u0) (by rw [World.cell?_setCell_other _ _ _ _ (by simp), World.cell?_setCell_other _ _ _ _ (by simp), World.cell?_setCell_other _ _ _ _ (by simp), World.cell?_setCell_other _ _ _ _ (by simp)]; exact u1) (by rw [World.cell?_setCell_other _ _ _ _ (by simp), World.cell?_setCell_other _ _ _ _ (by simp), World.cell?_setCell_other _ _ _ _ (by simp), World.cell?_setCell_other _ _ _ _ (by simp)]; exact u2) (by rw [World.cell?_setCell_other _ _ _ _ (by simp), World.cell?_setCell_other _ _ _ _ (by simp), World.cell?_setCell_other _ _ _ _ (by simp), World.cell?_setCell_other _ _ _ _ (by simp)]; exact u3) (by rw [World.cell?_setCell_other _ _ _ _ (by simp), World.cell?_setCell_other _ _ _ _ (by simp), World.cell?_setCell_other _ _ _ _ (by simp), World.cell?_setCell_other _ _ _ _ (by simp)]; exact u4) (by rw [World.cell?_setCell_other _ _ _ _ (by simp), World.cell?_setCell_other _ _ _ _ (by simp), World.cell?_setCell_other _ _ _ _ (by simp), World.cell?_setCell_other _ _ _ _ (by simp)]; exact u5)
  have HZ : Hid (DidB p room v w W.heap.size (L) j Z) := by
    have hz := HX.out.2.1
    have hp := HX.out.2.2.2.1.lp
    have hl := HX.out.2.2.2.1.fs.lt
    rw [hZ]
    exact (((((HDB.out.box hp hl (by omega) (by omega) _).box hp hl (by omega) (by omega) _).box hp hl (by omega) (by omega) _).box hp hl (by omega) (by omega) _)).six hp hl (by omega) (by omega) _ _ _ _ _ _
  have HG5 : Hid (WAt (fun x => x = g5) Z ⟨f.k, f.n, f.ws, some ⟨g5, 0, none⟩, f.ws.length⟩) := by
    rw [hZ]
    have hz := HX.out.2.1
    have hg := HGV.out.2
    exact ((((((((((HGV.out.1.poke (by omega) _ _).poke (by omega) _ _).poke (by omega) _ _).poke (by omega) _ _).poke (by omega) _ _).poke (by omega) _ _).poke (by omega) _ _).poke (by omega) _ _).poke (by omega) _ _).poke (by omega) _ _)
  rw [← hZ]
  refine bodyPost_ret (v := .agg #[.int .i64 f.k, .int .i64 f.n, .slice (some ⟨g5, 0, none⟩) f.ws.length f.ws.length, .bool false, .bool true, .int .i64 0]) (by simp [results, Try.results11, go_sem, z0, z1, z2, z3, z4, z5]) rfl ⟨g5, rfl, HG5.out, (by have := HGV.out.2; have := HX.out.2.1; omega), HZ.out.did (by have := HX.out.2.1; omega)⟩


end Go.Proofs.Ytalfhcmccdnajaa
