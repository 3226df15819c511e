/- The document's Pop. -/
import Derived.Test.YtalfhcmccdnajaaSlA
namespace Go.Proofs.Ytalfhcmccdnajaa
open Go.RowKit Go.Sort

theorem rdo_alloc (W : World) (v0 v1 v2 v3 v4 v5 : Value) :
    ∃ W2, W2 = (W.alloc (.cells #[v0, v1, v2, v3, v4, v5] TT)).drew ∧ Below W.heap.size W W2 ∧ W2.heap.size = W.heap.size + 1 ∧ W2.heap[W.heap.size]? = some (.cells #[v0, v1, v2, v3, v4, v5] TT (0, 0)) :=
  ⟨_, rfl, ((Below.refl W.heap.size W).alloc (Nat.le_refl _) _).drew, World.size_alloc .., heap_alloc_new _ _⟩
theorem FsAt.less {W : World} {g n cap : Nat} {M : List Fr} {f : Fr} (h : FsAt W (.slice (some ⟨g, 0, none⟩) n cap) (M ++ [f])) : FsAt W (.slice (some ⟨g, 0, none⟩) M.length cap) M := by
  rcases h with ⟨h, -⟩ | ⟨g', cap', cur, hv, hg, h1, h2, h3, h4⟩
  · cases h
  · simp only [Value.slice.injEq, Option.some.injEq, Addr.mk.injEq, and_true] at hv
    obtain ⟨rfl, rfl, rfl⟩ := hv
    have hl : (M ++ [f]).length = M.length + 1 := by simp
    refine Or.inr ⟨g, cap, cur, rfl, hg, by omega, h2, h3, ?_⟩
    have h5 := congrArg (List.take (M.length * 3)) h4
    rw [List.take_take, flatF_append, hl] at h5
    rw [show min (M.length * 3) ((M.length + 1) * 3) = M.length * 3 by omega] at h5
    rw [h5, List.take_append_of_le_length (by rw [flatF_length]; omega), List.take_of_length_le (by rw [flatF_length]; omega)]
theorem BsAt.less {W : World} {g n cap : Nat} {B : List Bool} {b : Bool} (h : BsAt W (.slice (some ⟨g, 0, none⟩) n cap) (B ++ [b])) : BsAt W (.slice (some ⟨g, 0, none⟩) B.length cap) B := by
  rcases h with ⟨h, -⟩ | ⟨g', cap', cur, hv, hg, h1, h2, h3, h4⟩
  · cases h
  · simp only [Value.slice.injEq, Option.some.injEq, Addr.mk.injEq, and_true] at hv
    obtain ⟨rfl, rfl, rfl⟩ := hv
    have hl : (B ++ [b]).length = B.length + 1 := by simp
    refine Or.inr ⟨g, cap, cur, rfl, hg, by omega, h2, h3, ?_⟩
    have h5 := congrArg (List.take B.length) h4
    rw [List.take_take, List.map_append, hl] at h5
    rw [show min B.length (B.length + 1) = B.length by omega] at h5
    rw [h5, List.take_append_of_le_length (by simp), List.take_of_length_le (by simp)]
theorem todo_succ (n left : Nat) : todo (n + 1) left = todo n (min left n) ++ [decide (n < left)] := by
  symm
  refine todo_ext (by simp [todo_length]) fun j hj => ?_
  by_cases h : j < n
  · rw [List.getElem?_append_left (by rw [todo_length]; exact h), todo_get h]
    congr 1
    exact decide_eq_decide.2 (by omega)
  · have : j = n := by omega
    subst this
    rw [List.getElem?_append_right (by rw [todo_length]; omega), todo_length]
    simp
/-- The document's stack, one frame less. -/
theorem Rf.less {W W' : World} {q left gL cL gT cT n n' : Nat} {room : Int} {M : List Fr} {f : Fr} (h : Rf W q (.slice (some ⟨gL, 0, none⟩) n cL) (.slice (some ⟨gT, 0, none⟩) n' cT) room (M ++ [f]) left) (e : W' = (W.setCell ⟨q, 0, none⟩ (.slice (some ⟨gL, 0, none⟩) M.length cL)).setCell ⟨q, 1, none⟩ (.slice (some ⟨gT, 0, none⟩) M.length cT)) :
    Rf W' q (.slice (some ⟨gL, 0, none⟩) M.length cL) (.slice (some ⟨gT, 0, none⟩) M.length cT) room M (min left M.length) := by
  have far : ∀ k, k ≠ q → W'.heap[k]? = W.heap[k]? := fun k hk => by rw [e, Below.heap_setCell _ _ _ _ hk, Below.heap_setCell _ _ _ _ hk]
  have hb := h.bs
  rw [show (M ++ [f]).length = M.length + 1 by simp, todo_succ] at hb
  have hb2 := hb.less
  rw [todo_length] at hb2
  refine ⟨?_, ?_, ?_, ?_, ?_, h.fs.less.move (fun g hg => far g (fun e => h.nl (by rw [← e]; exact hg))), hb2.move (fun g hg => far g (fun e => h.nt (by rw [← e]; exact hg))), h.nl, h.nt, h.lt⟩
  · rw [e, World.cell?_setCell_other _ _ _ _ (by simp)]; exact World.cell?_setCell_same _ _ _ h.c0
  · rw [e]; exact World.cell?_setCell_same _ _ _ (by rw [World.cell?_setCell_other _ _ _ _ (by simp)]; exact h.c1)
  · rw [e, World.cell?_setCell_other _ _ _ _ (by simp), World.cell?_setCell_other _ _ _ _ (by simp)]; exact h.c2
  · rw [e, World.frozen?_setCell, World.frozen?_setCell]; exact h.z0
  · rw [e, World.frozen?_setCell, World.frozen?_setCell]; exact h.z1

set_option maxHeartbeats 2000000 in
set_option maxRecDepth 100000 in
theorem rdo_pop_some (q left : Nat) (vL vT : Value) (room k n : Int) (a : Option Addr) (m c : Nat) (M : List Fr) (f : Fr) (w : World) (h : Rf w q vL vT room (M ++ [f]) left) (hl : M.length ≤ 2047) :
    Calls Try.prog 12 #[.pointer (some ⟨q, 0, none⟩), .agg #[.int .i64 1, .int .i64 k, .int .i64 n, .slice a m c]] w fun e w' => e = .returned (.agg #[.int .i64 f.k, .int .i64 f.n, .slice f.a f.ws.length f.c, .bool (decide (M.length < left)), .bool true, .int .i64 0]) ∧ RDid q room vL vT w M (min left M.length) w' := by
  obtain ⟨W, hW, hb, hz, y0, y1⟩ := rdo_boxes w 1 k n a m c
  have hR := h.later hb
  have hlo := h.fs.lt
  have hto := h.bs.lt
  have hqo := h.lq
  have hj : (M ++ [f])[M.length]? = some f := by simp
  obtain ⟨N, hN⟩ : ∃ N, N = M.length + 1 := ⟨_, rfl⟩
  have hlen : (M ++ [f]).length = N := by rw [hN]; simp
  obtain ⟨gL, cL, hvL, hc1, hc2, hgL, k0, k1, k2⟩ := hR.fs.cell hj
  obtain ⟨gT, cT, hvT, hd1, hgT, j0, hfz⟩ := hR.bs.cell (todo_get (left := left) (show M.length < (M ++ [f]).length by omega))
  rw [todo_length, hlen] at hvT hd1
  rw [hlen] at hvL hc1
  have g0 := hR.c0
  have g1 := hR.c1
  rw [hvL] at g0
  rw [hvT] at g1
  have x0 := cell_of_row _ _ 0 _ _ _ y0
  subst hvL hvT
  have HX := Lib.hid (And.intro h (And.intro (And.intro hR (And.intro hb (And.intro hz y1))) (And.intro hlo (And.intro hto hqo))))
  have HG := Lib.hid (And.intro g0 (And.intro g1 (And.intro k0 (And.intro k1 (And.intro k2 j0)))))
  clear k0 k1 k2 j0
  rw [hW] at x0 g0
  have n0 : ¬ ((N : Int) = 0) := by omega
  have n1 : ((N : Int) - 1) = (M.length : Int) := by omega
  have n2 : (M.length : Int) < (N : Int) := by omega
  have n5 : (0 : Int) ≤ (M.length : Int) := by omega
  have n7 : M.length < N := by omega
  have n8 : IntKind.i64.wrap (M.length : Int) = (M.length : Int) := by rw [IntKind.wrap_i64]; omega
  have n3 : M.length ≤ cL := by omega
  have n4 : M.length ≤ cT := by omega
  have HN := Lib.hid hN
  clear hN
  clear h hR hb hz y0 y1 hlo hto hqo hj hlen g1
  go_enter Try.func12, Try.ntmps12
  go_wp2_with fail
  rw [← hW]
  clear hW x0 g0
  obtain ⟨g0, g1, k0, k1, k2, j0⟩ := HG.out
  have HS : Hid (∀ V, Below W.heap.size W V → V.cell? ⟨q, 0, none⟩ = some (.slice (some ⟨gL, 0, none⟩) N cL) ∧ V.cell? ⟨q, 1, none⟩ = some (.slice (some ⟨gT, 0, none⟩) N cT) ∧ V.cell? ⟨gL, M.length * 3, none⟩ = some (.int .i64 f.k) ∧ V.cell? ⟨gL, M.length * 3 + 1, none⟩ = some (.int .i64 f.n) ∧ V.cell? ⟨gL, M.length * 3 + 2, none⟩ = some (.slice f.a f.ws.length f.c) ∧ V.cell? ⟨gT, M.length, none⟩ = some (.bool (decide (M.length < left)))) := by
    intro V hV
    obtain ⟨g0, g1, k0, k1, k2, j0⟩ := HG.out
    exact ⟨(hV.cell (p := ⟨q, 0, none⟩) (World.block_lt_of_cell? _ _ g0)).trans g0, (hV.cell (p := ⟨q, 1, none⟩) (World.block_lt_of_cell? _ _ g1)).trans g1, (hV.cell (p := ⟨gL, M.length * 3, none⟩) (World.block_lt_of_cell? _ _ k0)).trans k0, (hV.cell (p := ⟨gL, M.length * 3 + 1, none⟩) (World.block_lt_of_cell? _ _ k1)).trans k1, (hV.cell (p := ⟨gL, M.length * 3 + 2, none⟩) (World.block_lt_of_cell? _ _ k2)).trans k2, (hV.cell (p := ⟨gT, M.length, none⟩) (World.block_lt_of_cell? _ _ j0)).trans j0⟩
  go_region_held3 (fun W' => W'.cell? ⟨q, 0, none⟩ = some (.slice (some ⟨gL, 0, none⟩) N cL) ∧ W'.cell? ⟨q, 1, none⟩ = some (.slice (some ⟨gT, 0, none⟩) N cT) ∧ W'.cell? ⟨gL, M.length * 3, none⟩ = some (.int .i64 f.k) ∧ W'.cell? ⟨gL, M.length * 3 + 1, none⟩ = some (.int .i64 f.n) ∧ W'.cell? ⟨gL, M.length * 3 + 2, none⟩ = some (.slice f.a f.ws.length f.c) ∧ W'.cell? ⟨gT, M.length, none⟩ = some (.bool (decide (M.length < left)))) (first | exact HS.out _ (Below.refl _ _) | exact HS.out _ (Below.refl _ _).drew | exact HS.out _ ((Below.refl _ _).alloc (Nat.le_refl _) _) | exact HS.out _ ((Below.refl _ _).alloc (Nat.le_refl _) _).drew | go_keep) (fail)
  have hA := rdo_alloc W (.int .i64 f.k) (.int .i64 f.n) (.slice f.a f.ws.length f.c) (.bool (decide (M.length < left))) (.bool true) (.int .i64 0)
  obtain ⟨W2, hW2, hbA, hz2, r6⟩ := hA
  rw [← hW2]
  have hR2 := HX.out.2.1.1.later hbA
  have r1 := (hbA.block (w.heap.size + 1) (by have := HX.out.2.1.2.2.1; omega)).trans HX.out.2.1.2.2.2
  have d0 := hR2.c0
  have d1 := hR2.c1
  have e0 := hR2.z0
  have e1 := hR2.z1
  obtain ⟨V, hV⟩ : ∃ V, V = (W2.setCell ⟨q, 0, none⟩ (.slice (some ⟨gL, 0, none⟩) M.length cL)).setCell ⟨q, 1, none⟩ (.slice (some ⟨gT, 0, none⟩) M.length cT) := ⟨_, rfl⟩
  have far : ∀ k, k ≠ q → V.heap[k]? = W2.heap[k]? := fun k hk => by rw [hV, Below.heap_setCell _ _ _ _ hk, Below.heap_setCell _ _ _ _ hk]
  have hVR := hR2.less hV
  have hq := HX.out.2.2.2.2
  have hz := HX.out.2.1.2.2.1
  have rV1 := (far (w.heap.size + 1) (by omega)).trans r1
  have rV6 := (far W.heap.size (by omega)).trans r6
  have hVs : V.heap.size = W2.heap.size := by rw [hV]; simp [World.setCell]
  have HD : Hid (RDidB q room (.slice (some ⟨gL, 0, none⟩) N cL) (.slice (some ⟨gT, 0, none⟩) N cT) w (w.heap.size + 2) M (min left M.length) V) := by
    have hbw := HX.out.2.1.2.1.trans (hbA.mono HX.out.2.1.2.1.size)
    exact ⟨_, _, hVR, ⟨by rw [hV]; exact hbw.os, by rw [hV]; exact hbw.tape, by rw [hV]; exact hbw.output, by rw [hVs]; exact hbw.size, fun k hk h1 _ _ => (far k h1).trans (hbw.block k hk)⟩, fun g hg => Or.inl hg, fun g hg => Or.inl hg⟩

  have t0 := cell_of_row _ _ 0 _ _ _ rV1
  have t1 := cell_of_row _ _ 1 _ _ _ rV1
  have t2 := cell_of_row _ _ 2 _ _ _ rV1
  have t3 := cell_of_row _ _ 3 _ _ _ rV1
  have t4 := cell_of_row _ _ 4 _ _ _ rV1
  have t5 := cell_of_row _ _ 5 _ _ _ rV1
  have ft0 := frozen_of_row _ _ 0 _ _ rV1
  have ft1 := frozen_of_row _ _ 1 _ _ rV1
  have ft2 := frozen_of_row _ _ 2 _ _ rV1
  have ft3 := frozen_of_row _ _ 3 _ _ rV1
  have ft4 := frozen_of_row _ _ 4 _ _ rV1
  have ft5 := frozen_of_row _ _ 5 _ _ rV1
  have s0 := cell_of_row _ _ 0 _ _ _ rV6
  have s1 := cell_of_row _ _ 1 _ _ _ rV6
  have s2 := cell_of_row _ _ 2 _ _ _ rV6
  have s3 := cell_of_row _ _ 3 _ _ _ rV6
  have s4 := cell_of_row _ _ 4 _ _ _ rV6
  have s5 := cell_of_row _ _ 5 _ _ _ rV6
  rw [hV] at t0 t1 t2 t3 t4 t5 ft0 ft1 ft2 ft3 ft4 ft5 s0 s1 s2 s3 s4 s5
  have HV := Lib.hid hV
  clear hV hW2 hbA hz2 r6 r1 hR2 far hVR hq rV1 rV6 hVs hz HS g0 g1 k0 k1 k2 j0
  go_wp2_with fail
  obtain ⟨Z, hZ, z0, z1, z2, z3, z4, z5⟩ := six_cells (b := w.heap.size + 1) (.int .i64 f.k) (.int .i64 f.n) (.slice f.a f.ws.length f.c) (.bool (decide (M.length < left))) (.bool true) (.int .i64 0) t0 t1 t2 t3 t4 t5
  have HZ : RDid q room (.slice (some ⟨gL, 0, none⟩) N cL) (.slice (some ⟨gT, 0, none⟩) N cT) w M (min left M.length) Z := by rw [hZ, ← HV.out]; exact (HD.out.six HX.out.2.2.2.2 HX.out.2.2.1 HX.out.2.2.2.1 (by omega) (by omega) _ _ _ _ _ _).did (by omega)
  rw [← hZ]
  exact bodyPost_ret (v := .agg #[.int .i64 f.k, .int .i64 f.n, .slice f.a f.ws.length f.c, .bool (decide (M.length < left)), .bool true, .int .i64 0]) (by simp [results, Try.results12, go_sem, z0, z1, z2, z3, z4, z5]) rfl ⟨rfl, HZ⟩

end Go.Proofs.Ytalfhcmccdnajaa
