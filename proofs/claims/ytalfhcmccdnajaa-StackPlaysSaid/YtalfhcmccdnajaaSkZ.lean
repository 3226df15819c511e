/- The document's Do: what leaves the list as it is. -/
import Derived.Test.YtalfhcmccdnajaaSkS
import Derived.Test.YtalfhcmccdnajaaSkX
import Derived.Test.YtalfhcmccdnajaaSkY
namespace Go.Proofs.Ytalfhcmccdnajaa
open Go.RowKit Go.Sort

/-- What has turned: the document's own, and nothing else. -/
structure RTurn (q : Nat) (vL vT : Value) (W W' : World) : Prop where
  os : W'.os = W.os
  tape : W'.tape = W.tape
  output : W'.output = W.output
  size : W.heap.size ≤ W'.heap.size
  block : ∀ k, k < W.heap.size → k ≠ q → some k ≠ vL.ownBlock → some k ≠ vT.ownBlock → W'.heap[k]? = W.heap[k]?
/-- What a call of the document's leaves. -/
def RDid (q : Nat) (room : Int) (vL vT : Value) (W : World) (L : List Fr) (left : Nat) (W' : World) : Prop :=
  ∃ vL' vT', Rf W' q vL' vT' room L left ∧ RTurn q vL vT W W' ∧ (∀ g, vL'.ownBlock = some g → vL.ownBlock = some g ∨ W.heap.size ≤ g) ∧ ∀ g, vT'.ownBlock = some g → vT.ownBlock = some g ∨ W.heap.size ≤ g
section
variable {W W' : World} {q left : Nat} {vL vT : Value} {room : Int} {L : List Fr}
theorem RTurn.of (hb : Below W.heap.size W W') : RTurn q vL vT W W' := ⟨hb.os, hb.tape, hb.output, hb.size, fun k hk _ _ _ => hb.block k hk⟩
theorem RDid.of (h : Rf W q vL vT room L left) (hb : Below W.heap.size W W') : RDid q room vL vT W L left W' :=
  ⟨vL, vT, h.later hb, RTurn.of hb, fun _ hg => Or.inl hg, fun _ hg => Or.inl hg⟩
end
/-- The boxes of Do. -/
theorem rdo_boxes (w : World) (X k n : Int) (a : Option Addr) (m c : Nat) :
    ∃ W, W = (w.alloc (.cells #[.int .i64 X, .int .i64 k, .int .i64 n, .slice a m c] TA)).alloc (.cells #[.int .i64 0, .int .i64 0, .slice none 0 0, .bool false, .bool false, .int .i64 0] TT) ∧ Below w.heap.size w W ∧ W.heap.size = w.heap.size + 2 ∧ W.heap[w.heap.size]? = some (.cells #[.int .i64 X, .int .i64 k, .int .i64 n, .slice a m c] TA (0, 0)) ∧ W.heap[w.heap.size + 1]? = some (.cells #[.int .i64 0, .int .i64 0, .slice none 0 0, .bool false, .bool false, .int .i64 0] TT (0, 0)) := by
  have z1 : (w.alloc (.cells #[.int .i64 X, .int .i64 k, .int .i64 n, .slice a m c] TA)).heap.size = w.heap.size + 1 := World.size_alloc ..
  refine ⟨_, rfl, ((Below.refl w.heap.size w).alloc (Nat.le_refl _) _).alloc (by omega) _, by rw [World.size_alloc, z1], ?_, ?_⟩
  · rw [Below.heap_alloc _ _ _ (by omega)]; exact heap_alloc_new _ _
  · rw [← z1]; exact heap_alloc_new _ _
theorem rdo_last (w : World) (A : Obj) (v0 v1 v2 v3 v4 v5 : Value) :
    ∃ W, W = (w.alloc A).alloc (.cells #[v0, v1, v2, v3, v4, v5] TT) ∧ Below w.heap.size w W ∧ W.heap[w.heap.size + 1]? = some (.cells #[v0, v1, v2, v3, v4, v5] TT (0, 0)) := by
  have z1 : (w.alloc A).heap.size = w.heap.size + 1 := World.size_alloc ..
  exact ⟨_, rfl, ((Below.refl w.heap.size w).alloc (Nat.le_refl _) _).alloc (by omega) _, by rw [← z1]; exact heap_alloc_new _ _⟩
theorem six_below {B : Nat} {w W : World} (h : Below B w W) {b : Nat} (hb : B ≤ b) (x0 x1 x2 x3 x4 x5 : Value) :
    Below B w ((((((W.setCell ⟨b, 0, none⟩ x0).setCell ⟨b, 1, none⟩ x1).setCell ⟨b, 2, none⟩ x2).setCell ⟨b, 3, none⟩ x3).setCell ⟨b, 4, none⟩ x4).setCell ⟨b, 5, none⟩ x5) :=
  (((((h.setCell hb _).setCell hb _).setCell hb _).setCell hb _).setCell hb _).setCell hb _
theorem rused_regrown (q left : Nat) (vL vT : Value) (room : Int) (L : List Fr) (w : World) (d : Nat) (os : Array Obj) (h : Rf w q vL vT room L left) (hu : used L ≤ 4096) :
    Calls Try.prog 15 #[.pointer (some ⟨q, 0, none⟩)] (grow (redrawn w d) os) fun e w' => e = .returned (.int .i64 (used L)) ∧ ∃ p : Regrown, w' = grow (redrawn w p.d) p.os :=
  ((rused_any q left vL vT room L _ (h.later (below_regrown w d os)) hu).mono fun _ _ h => ⟨h.1, h.2 ▸ Below.refl _ _⟩).regrown_of

set_option maxHeartbeats 4000000 in
set_option maxRecDepth 100000 in
theorem rdo_pop_none (q left : Nat) (vL vT : Value) (room k n : Int) (a : Option Addr) (m c : Nat) (w : World) (h : Rf w q vL vT room [] left) :
    Calls Try.prog 12 #[.pointer (some ⟨q, 0, none⟩), .agg #[.int .i64 1, .int .i64 k, .int .i64 n, .slice a m c]] w fun e w' => e = .returned (.agg #[.int .i64 0, .int .i64 0, .slice none 0 0, .bool false, .bool false, .int .i64 0]) ∧ RDid q room vL vT w [] left w' := by
  obtain ⟨_, rfl, hb, hz, y0, y1⟩ := rdo_boxes w 1 k n a m c
  obtain ⟨ao, cap, hv⟩ := h.fs.sl
  have g0 := (h.later hb).c0
  rw [hv] at g0
  have x0 := cell_of_row _ _ 0 _ _ _ y0
  have x1 := cell_of_row _ _ 1 _ _ _ y0
  have x2 := cell_of_row _ _ 2 _ _ _ y0
  have x3 := cell_of_row _ _ 3 _ _ _ y0
  have HX := Lib.hid (And.intro h (And.intro hb hz))
  have r1 := y1
  have t0 := cell_of_row _ _ 0 _ _ _ r1
  have t1 := cell_of_row _ _ 1 _ _ _ r1
  have t2 := cell_of_row _ _ 2 _ _ _ r1
  have t3 := cell_of_row _ _ 3 _ _ _ r1
  have t4 := cell_of_row _ _ 4 _ _ _ r1
  have t5 := cell_of_row _ _ 5 _ _ _ r1
  have ft0 := frozen_of_row _ _ 0 _ _ r1
  have ft1 := frozen_of_row _ _ 1 _ _ r1
  have ft2 := frozen_of_row _ _ 2 _ _ r1
  have ft3 := frozen_of_row _ _ 3 _ _ r1
  have ft4 := frozen_of_row _ _ 4 _ _ r1
  have ft5 := frozen_of_row _ _ 5 _ _ r1
  clear h hb hz y0 y1 hv r1
  go_enter Try.func12, Try.ntmps12
  go_wp2_with fail
  generalize hW : (w.alloc (.cells #[.int .i64 1, .int .i64 k, .int .i64 n, .slice a m c] TA)).alloc (.cells #[.int .i64 0, .int .i64 0, .slice none 0 0, .bool false, .bool false, .int .i64 0] TT) = W at HX t0 t1 t2 t3 t4 t5 ⊢
  exact bodyPost_ret (v := .agg #[.int .i64 0, .int .i64 0, .slice none 0 0, .bool false, .bool false, .int .i64 0]) (by simp [results, Try.results12, go_sem, t0, t1, t2, t3, t4, t5]) rfl ⟨rfl, RDid.of HX.out.1 HX.out.2.1⟩

set_option maxHeartbeats 4000000 in
set_option maxRecDepth 100000 in
theorem rdo_top_none (q left : Nat) (vL vT : Value) (room k n : Int) (a : Option Addr) (m c : Nat) (w : World) (h : Rf w q vL vT room [] left) :
    Calls Try.prog 12 #[.pointer (some ⟨q, 0, none⟩), .agg #[.int .i64 2, .int .i64 k, .int .i64 n, .slice a m c]] w fun e w' => e = .returned (.agg #[.int .i64 0, .int .i64 0, .slice none 0 0, .bool false, .bool false, .int .i64 0]) ∧ RDid q room vL vT w [] left w' := by
  obtain ⟨_, rfl, hb, hz, y0, y1⟩ := rdo_boxes w 2 k n a m c
  obtain ⟨ao, cap, hv⟩ := h.fs.sl
  have g0 := (h.later hb).c0
  rw [hv] at g0
  have x0 := cell_of_row _ _ 0 _ _ _ y0
  have x1 := cell_of_row _ _ 1 _ _ _ y0
  have x2 := cell_of_row _ _ 2 _ _ _ y0
  have x3 := cell_of_row _ _ 3 _ _ _ y0
  have HX := Lib.hid (And.intro h (And.intro hb hz))
  have r1 := y1
  have t0 := cell_of_row _ _ 0 _ _ _ r1
  have t1 := cell_of_row _ _ 1 _ _ _ r1
  have t2 := cell_of_row _ _ 2 _ _ _ r1
  have t3 := cell_of_row _ _ 3 _ _ _ r1
  have t4 := cell_of_row _ _ 4 _ _ _ r1
  have t5 := cell_of_row _ _ 5 _ _ _ r1
  have ft0 := frozen_of_row _ _ 0 _ _ r1
  have ft1 := frozen_of_row _ _ 1 _ _ r1
  have ft2 := frozen_of_row _ _ 2 _ _ r1
  have ft3 := frozen_of_row _ _ 3 _ _ r1
  have ft4 := frozen_of_row _ _ 4 _ _ r1
  have ft5 := frozen_of_row _ _ 5 _ _ r1
  clear h hb hz y0 y1 hv r1
  go_enter Try.func12, Try.ntmps12
  go_wp2_with fail
  generalize hW : (w.alloc (.cells #[.int .i64 2, .int .i64 k, .int .i64 n, .slice a m c] TA)).alloc (.cells #[.int .i64 0, .int .i64 0, .slice none 0 0, .bool false, .bool false, .int .i64 0] TT) = W at HX t0 t1 t2 t3 t4 t5 ⊢
  exact bodyPost_ret (v := .agg #[.int .i64 0, .int .i64 0, .slice none 0 0, .bool false, .bool false, .int .i64 0]) (by simp [results, Try.results12, go_sem, t0, t1, t2, t3, t4, t5]) rfl ⟨rfl, RDid.of HX.out.1 HX.out.2.1⟩

set_option maxHeartbeats 4000000 in
set_option maxRecDepth 100000 in
theorem rdo_push_out (q left : Nat) (vL vT : Value) (room k n : Int) (a : Option Addr) (m c : Nat) (L : List Fr) (w : World) (h : Rf w q vL vT room L left) (hu : used L ≤ 4096) (hm : m ≤ 100000) (hr : room < used L + (m : Int) + 2) :
    Calls Try.prog 12 #[.pointer (some ⟨q, 0, none⟩), .agg #[.int .i64 0, .int .i64 k, .int .i64 n, .slice a m c]] w fun e w' => e = .returned (.agg #[.int .i64 0, .int .i64 0, .slice none 0 0, .bool false, .bool false, .int .i64 13]) ∧ RDid q room vL vT w L left w' := by
  obtain ⟨_, rfl, hb, hz, y0, y1⟩ := rdo_boxes w 0 k n a m c
  obtain ⟨ao, cap, hv⟩ := h.fs.sl
  have g0 := (h.later hb).c0
  rw [hv] at g0
  have x0 := cell_of_row _ _ 0 _ _ _ y0
  have x1 := cell_of_row _ _ 1 _ _ _ y0
  have x2 := cell_of_row _ _ 2 _ _ _ y0
  have x3 := cell_of_row _ _ 3 _ _ _ y0
  have g2 := (h.later hb).c2
  have HX := Lib.hid (And.intro h (And.intro hb hz))
  have HU := Lib.hid (And.intro hu (And.intro hm hr))
  have HR := Lib.hid (h.later hb)
  have HY := Lib.hid y1
  have h0 := used_len L
  clear h hb hz y0 y1 hv
  go_enter Try.func12, Try.ntmps12
  go_wp2_with fail
  generalize hW : (w.alloc (.cells #[.int .i64 0, .int .i64 k, .int .i64 n, .slice a m c] TA)).alloc (.cells #[.int .i64 0, .int .i64 0, .slice none 0 0, .bool false, .bool false, .int .i64 0] TT) = W at HX HR HY g0 g2 x0 x1 x2 x3 ⊢
  generalize hU : used L = U at h0
  have hu := HU.out
  rw [hU] at hu
  obtain ⟨u1, u2, u3⟩ := hu
  have e0 : IntKind.i64.wrap (U + (m : Int)) = U + (m : Int) := by rw [IntKind.wrap_i64]; omega
  have e1 : IntKind.i64.wrap (U + (m : Int) + 2) = U + (m : Int) + 2 := by rw [IntKind.wrap_i64]; omega
  have e2 : U + (m : Int) + 2 > room := by omega
  generalize hb0 : w.heap.size = b at x0 x1 x2 x3 HY HX ⊢
  have HB0 := Lib.hid hb0
  have hUU := Lib.hid (show used L ≤ 4096 ∧ used L = U from ⟨HU.out.1, hU⟩)
  clear hW hb0 hU h0 u1 u2 u3
  have k0 := cell_regrown x0
  have k1 := cell_regrown x1
  have k2 := cell_regrown x2
  have k3 := cell_regrown x3
  have k4 := cell_regrown g2
  have k5 := cell_regrown g0
  refine wp_region_quiet_below (by kernel_rfl) (by kernel_rfl) ?_
  repeat (first | go_big_quiet_skip | (quiet_step (exact hUU.out.2 ▸ rused_regrown _ _ _ _ _ _ _ _ _ HR.out hUU.out.1)))
  refine wpQuiet_nil ?_
  intro _ hw'
  obtain ⟨⟨dq, osq⟩, hw''⟩ := hw'
  subst hw''
  have hbq := below_regrown W dq osq
  have r1 := (hbq.block (b + 1) (by have := HX.out.2.2; omega)).trans HY.out
  have HE := Lib.hid (HX.out.2.1.trans (hbq.mono (by have := HX.out.2.2; omega)))
  clear k0 k1 k2 k3 k4 k5 x0 x1 x2 x3 g0 g2 hbq HY HR hUU HU hu hm hr
  have t0 := cell_of_row _ _ 0 _ _ _ r1
  have t1 := cell_of_row _ _ 1 _ _ _ r1
  have t2 := cell_of_row _ _ 2 _ _ _ r1
  have t3 := cell_of_row _ _ 3 _ _ _ r1
  have t4 := cell_of_row _ _ 4 _ _ _ r1
  have t5 := cell_of_row _ _ 5 _ _ _ r1
  have ft0 := frozen_of_row _ _ 0 _ _ r1
  have ft1 := frozen_of_row _ _ 1 _ _ r1
  have ft2 := frozen_of_row _ _ 2 _ _ r1
  have ft3 := frozen_of_row _ _ 3 _ _ r1
  have ft4 := frozen_of_row _ _ 4 _ _ r1
  have ft5 := frozen_of_row _ _ 5 _ _ r1
  show Exit.then _ _ _ _ (grow (redrawn W dq) osq)
  generalize grow (redrawn W dq) osq = W9 at HE r1 t0 t1 t2 t3 t4 t5 ft0 ft1 ft2 ft3 ft4 ft5 ⊢
  clear r1
  go_wp2_with fail
  obtain ⟨Z, hZ, z0, z1, z2, z3, z4, z5⟩ := six_cells (b := b + 1) (.int .i64 0) (.int .i64 0) (.slice none 0 0) (.bool false) (.bool false) (.int .i64 13) t0 t1 t2 t3 t4 t5
  have HZ : Below w.heap.size w Z := by rw [hZ, HB0.out]; exact six_below HE.out (by omega) _ _ _ _ _ _
  rw [← hZ]
  exact bodyPost_ret (v := .agg #[.int .i64 0, .int .i64 0, .slice none 0 0, .bool false, .bool false, .int .i64 13]) (by simp [results, Try.results12, go_sem, z0, z1, z2, z3, z4, z5]) rfl ⟨rfl, RDid.of HX.out.1 HZ⟩

set_option maxHeartbeats 4000000 in
set_option maxRecDepth 100000 in
theorem rdo_top_some (q left : Nat) (vL vT : Value) (room k n : Int) (a : Option Addr) (m c : Nat) (L : List Fr) (f : Fr) (j : Nat) (w : World) (h : Rf w q vL vT room L left) (hl : L.length ≤ 2048) (hj : L[j]? = some f) (hjl : L.length = j + 1) :
    Calls Try.prog 12 #[.pointer (some ⟨q, 0, none⟩), .agg #[.int .i64 2, .int .i64 k, .int .i64 n, .slice a m c]] w fun e w' => e = .returned (.agg #[.int .i64 f.k, .int .i64 f.n, .slice f.a f.ws.length f.c, .bool false, .bool true, .int .i64 0]) ∧ RDid q room vL vT w L left w' := by
  obtain ⟨_, rfl, hb, hz, y0, y1⟩ := rdo_boxes w 2 k n a m c
  have hR := h.later hb
  have hj1 := (List.getElem?_eq_some_iff.1 hj).1
  obtain ⟨g, cap, hv, hc1, hc2, hg, k0, k1, k2⟩ := hR.fs.cell hj
  have g0 := hR.c0
  rw [hv] at g0
  have x0 := cell_of_row _ _ 0 _ _ _ y0
  have x1 := cell_of_row _ _ 1 _ _ _ y0
  have x2 := cell_of_row _ _ 2 _ _ _ y0
  have x3 := cell_of_row _ _ 3 _ _ _ y0
  have r1 := y1
  have t0 := cell_of_row _ _ 0 _ _ _ r1
  have t1 := cell_of_row _ _ 1 _ _ _ r1
  have t2 := cell_of_row _ _ 2 _ _ _ r1
  have t3 := cell_of_row _ _ 3 _ _ _ r1
  have t4 := cell_of_row _ _ 4 _ _ _ r1
  have t5 := cell_of_row _ _ 5 _ _ _ r1
  have ft0 := frozen_of_row _ _ 0 _ _ r1
  have ft1 := frozen_of_row _ _ 1 _ _ r1
  have ft2 := frozen_of_row _ _ 2 _ _ r1
  have ft3 := frozen_of_row _ _ 3 _ _ r1
  have ft4 := frozen_of_row _ _ 4 _ _ r1
  have ft5 := frozen_of_row _ _ 5 _ _ r1
  have e1 : ((L.length : Int) - 1) = (j : Int) := by omega
  have HX := Lib.hid (And.intro h (And.intro hb hz))
  have hn0 : ¬ ((L.length : Int) = 0) := by omega
  have hjj : (j : Int) < (L.length : Int) := by omega
  clear h hb hz y0 y1 hv r1 hR hj hjl hc2
  go_enter Try.func12, Try.ntmps12
  go_wp2_with fail
  obtain ⟨Z, hZ, hBZ, r1⟩ := rdo_last w (.cells #[.int .i64 2, .int .i64 k, .int .i64 n, .slice a m c] TA) (.int .i64 f.k) (.int .i64 f.n) (.slice f.a f.ws.length f.c) (.bool false) (.bool true) (.int .i64 0)
  have z0 := cell_of_row _ _ 0 _ _ _ r1
  have z1 := cell_of_row _ _ 1 _ _ _ r1
  have z2 := cell_of_row _ _ 2 _ _ _ r1
  have z3 := cell_of_row _ _ 3 _ _ _ r1
  have z4 := cell_of_row _ _ 4 _ _ _ r1
  have z5 := cell_of_row _ _ 5 _ _ _ r1
  rw [← hZ]
  exact bodyPost_ret (v := .agg #[.int .i64 f.k, .int .i64 f.n, .slice f.a f.ws.length f.c, .bool false, .bool true, .int .i64 0]) (by simp [results, Try.results12, go_sem, z0, z1, z2, z3, z4, z5]) rfl ⟨rfl, RDid.of HX.out.1 hBZ⟩

end Go.Proofs.Ytalfhcmccdnajaa
