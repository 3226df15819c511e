/- A law's call: the program's ring is asked. -/
import Derived.Test.YtbjlpmjalidfkaaRiY
namespace Go.Proofs.Ytbjlpmjalidfkaa
open Go.RowKit Go.Shelf

/-- What a law's call of the program's ring is said to do. -/
def DidSaid (s : Spot) (q : Nat) (K N : Int) (R : Rows) (w : World) : Prop :=
  Calls Try.prog 11 #[.pointer (some ⟨s.r, 0, none⟩), .pointer (some ⟨q, 0, none⟩), .agg #[.int .i64 K, .int .i64 N]] w fun e w' => e = .returned (told (tellC K R) (tellB K R) (tellE s.n K N R)) ∧ Ring s (after s.n K N R) w' ∧ Turn s w w'

/-- The act's box, the answer's place, what is told. -/
def threeBoxes (w : World) (K N : Int) : World := (twoBoxes w K N).alloc (.cells #[.int .i64 0, .bool false, .int .i64 0] 34)
theorem three_below (w : World) (K N : Int) : Below w.heap.size w (threeBoxes w K N) := (two_below w K N).alloc (two_below w K N).size _
theorem three_size (w : World) (K N : Int) : (threeBoxes w K N).heap.size = w.heap.size + 3 := by simp [threeBoxes, two_size]

/-- What lies in the boxes while the program's ring is asked. -/
structure Boxes (w : World) (K N : Int) (W : World) : Prop where
  a0 : W.cell? ⟨w.heap.size, 0, none⟩ = some (.int .i64 K)
  a1 : W.cell? ⟨w.heap.size, 1, none⟩ = some (.int .i64 N)
  r0 : W.cell? ⟨w.heap.size + 1, 0, none⟩ = some (.int .i64 0)
  r1 : W.cell? ⟨w.heap.size + 1, 1, none⟩ = some (.bool false)
  r2 : W.cell? ⟨w.heap.size + 1, 2, none⟩ = some (.int .i64 0)
  rz : ∀ j, W.frozen? ⟨w.heap.size + 1, j, none⟩ = false
  t0 : W.cell? ⟨w.heap.size + 1 + 1, 0, none⟩ = some (.int .i64 0)
  t1 : W.cell? ⟨w.heap.size + 1 + 1, 1, none⟩ = some (.bool false)
  t2 : W.cell? ⟨w.heap.size + 1 + 1, 2, none⟩ = some (.int .i64 0)
  tz : ∀ j, W.frozen? ⟨w.heap.size + 1 + 1, j, none⟩ = false

theorem Boxes.mk3 (w : World) (K N : Int) : Boxes w K N (threeBoxes w K N) := by
  unfold threeBoxes twoBoxes
  constructor
  all_goals simp [go_sem]
theorem Boxes.turn {w W W' : World} {K N : Int} (h : Boxes w K N W) {s : Spot} (l1 : s.r < w.heap.size) (l2 : s.p < w.heap.size) (l3 : s.d < w.heap.size) (ht : Turn s W W') : Boxes w K N W' := by
  have c : ∀ (b j : Nat) (z : Value), w.heap.size ≤ b → W.cell? ⟨b, j, none⟩ = some z → W'.cell? ⟨b, j, none⟩ = some z := fun b j z g hz => ht.cell hz (by simp only; omega) (by simp only; omega) (by simp only; omega)
  have f : ∀ (b j : Nat) (z : Value), w.heap.size ≤ b → W.cell? ⟨b, 0, none⟩ = some z → W.frozen? ⟨b, j, none⟩ = false → W'.frozen? ⟨b, j, none⟩ = false := fun b j z g hz h => (ht.frozen (a := ⟨b, j, none⟩) (show b < W.heap.size from World.block_lt_of_cell? _ _ hz) (by simp only; omega) (by simp only; omega) (by simp only; omega)).trans h
  exact ⟨c _ _ _ (by omega) h.a0, c _ _ _ (by omega) h.a1, c _ _ _ (by omega) h.r0, c _ _ _ (by omega) h.r1, c _ _ _ (by omega) h.r2, fun j => f _ _ _ (by omega) h.r0 (h.rz j), c _ _ _ (by omega) h.t0, c _ _ _ (by omega) h.t1, c _ _ _ (by omega) h.t2, fun j => f _ _ _ (by omega) h.t0 (h.tz j)⟩

/-- What is asked has turned the ring; the answer is laid into the boxes. -/
theorem did_close {s : Spot} {w w3 W1 : World} {R' : Rows} {K N : Int} (hu : s.under w.heap.size) (hx : Boxes w K N w3) (hR : Ring s R' w3) (ht : Turn s w w3) (h1 : One (w.heap.size + 1 + 1) w3 W1) (c : Int) (b : Bool) (e : Int) :
    (tolds W1 (w.heap.size + 1) c b e).cell? ⟨w.heap.size + 1, 0, none⟩ = some (.int .i64 c) ∧ (tolds W1 (w.heap.size + 1) c b e).cell? ⟨w.heap.size + 1, 1, none⟩ = some (.bool b) ∧ (tolds W1 (w.heap.size + 1) c b e).cell? ⟨w.heap.size + 1, 2, none⟩ = some (.int .i64 e) ∧
      Ring s R' (tolds W1 (w.heap.size + 1) c b e) ∧ Turn s w (tolds W1 (w.heap.size + 1) c b e) := by
  have hl : w.heap.size + 1 < w3.heap.size := World.block_lt_of_cell? _ _ hx.r0
  have o : ∀ j x, w3.cell? ⟨w.heap.size + 1, j, none⟩ = some x → W1.cell? ⟨w.heap.size + 1, j, none⟩ = some x := fun j x hx => (World.cell?_of_block (w := w3) (h1.block (w.heap.size + 1) hl (by omega))).trans hx
  have r0 := o _ _ hx.r0
  have r1 := o _ _ hx.r1
  have r2 := o _ _ hx.r2
  have hb : Below w.heap.size w3 (tolds W1 (w.heap.size + 1) c b e) := by
    have h2 := h1.below (B := w.heap.size) (by omega) (by omega)
    refine h2.trans ⟨rfl, rfl, rfl, by simp [tolds, World.setCell], fun k hk => ?_⟩
    unfold tolds
    exact (Below.heap_setCell _ _ _ _ (by simp only; omega)).trans ((Below.heap_setCell _ _ _ _ (by simp only; omega)).trans (Below.heap_setCell _ _ _ _ (by simp only; omega)))
  refine ⟨?_, ?_, ?_, ?_, ht.then hb⟩
  · unfold tolds
    exact (World.cell?_setCell_other _ _ _ _ (by simp)).trans ((World.cell?_setCell_other _ _ _ _ (by simp)).trans (World.cell?_setCell_same _ _ _ r0))
  · unfold tolds
    exact (World.cell?_setCell_other _ _ _ _ (by simp)).trans (World.cell?_setCell_same _ _ _ ((World.cell?_setCell_other _ _ _ _ (by simp)).trans r1))
  · unfold tolds
    exact World.cell?_setCell_same _ _ _ ((World.cell?_setCell_other _ _ _ _ (by simp)).trans ((World.cell?_setCell_other _ _ _ _ (by simp)).trans r2))
  · obtain ⟨C, F, D, hL, hI⟩ := hR
    exact ⟨C, F, D, hL.below hu hb, hI⟩

set_option maxHeartbeats 4000000 in
theorem did_begin (s : Spot) (q : Nat) (R : Rows) (w : World) (hR : Ring s R w) (N : Int) (g1 : R.frm = []) (g2 : R.grey = []) : DidSaid s q 5 N R w := by
  unfold DidSaid
  have hu : s.under w.heap.size := by
    obtain ⟨_, _, _, hl, _⟩ := hR
    exact hl.under
  have HR := Lib.hid (hR.later (three_below w 5 N))
  have HT := Lib.hid (Turn.of_below (s := s) (three_below w 5 N))
  have HX := Lib.hid (Boxes.mk3 w 5 N)
  have HU := Lib.hid hu
  obtain ⟨ec, eb, ee, ea⟩ : tellC 5 R = 0 ∧ tellB 5 R = false ∧ tellE s.n 5 N R = 0 ∧ after s.n 5 N R = R.begin := by
    exact ⟨rfl, rfl, by simp [tellE, g1, g2], by simp [after, g1, g2]⟩
  rw [ec, eb, ee, ea]
  clear ec eb ee ea hR hu
  go_enter Try.func11, Try.ntmps11
  go_wp2_with fail
  change Calls _ _ _ (threeBoxes w 5 N) _
  refine (ring_begin s _ _ HR.out g1 g2).mono ?_
  rintro _ w3 ⟨rfl, hR, ht⟩
  have hx := HX.out.turn HU.out.1 HU.out.2.1 HU.out.2.2.1 ht
  have b0 := hx.a0
  have b1 := hx.a1
  have b2 := hx.r0
  have b3 := hx.r1
  have b4 := hx.r2
  have b5 := hx.t0
  have b6 := hx.t1
  have b7 := hx.t2
  have z0 := hx.rz 0
  have z1 := hx.rz 1
  have z2 := hx.rz 2
  have y0 := hx.tz 0
  have y1 := hx.tz 1
  have y2 := hx.tz 2
  have HE := Lib.hid (And.intro hR (HT.out.trans ht))
  have HX3 := Lib.hid hx
  clear hR ht hx HR HX HT
  go_wp2_with fail
  obtain ⟨t0, t1, t2, hd⟩ := did_close (W1 := w3.setCell ⟨w.heap.size + 1 + 1, 2, none⟩ (.int .i64 0)) HU.out HX3.out HE.out.1 HE.out.2 (One.setQ (w.heap.size + 1 + 1) 2 (.int .i64 0) w3) 0 false (0)
  unfold tolds at t0 t1 t2 hd
  exact bodyPost_ret (v := told 0 false 0) (by simp [told, results, Try.results11, go_sem, t0, t1, t2]) rfl ⟨rfl, hd⟩

set_option maxHeartbeats 4000000 in
theorem did_begin_not (s : Spot) (q : Nat) (R : Rows) (w : World) (hR : Ring s R w) (N : Int) (g : ¬ (R.frm = [] ∧ R.grey = [])) : DidSaid s q 5 N R w := by
  unfold DidSaid
  have hu : s.under w.heap.size := by
    obtain ⟨_, _, _, hl, _⟩ := hR
    exact hl.under
  have HR := Lib.hid (hR.later (three_below w 5 N))
  have HT := Lib.hid (Turn.of_below (s := s) (three_below w 5 N))
  have HX := Lib.hid (Boxes.mk3 w 5 N)
  have HU := Lib.hid hu
  obtain ⟨ec, eb, ee, ea⟩ : tellC 5 R = 0 ∧ tellB 5 R = false ∧ tellE s.n 5 N R = 18 ∧ after s.n 5 N R = R := by
    exact ⟨rfl, rfl, by simp [tellE, g], by simp [after, g]⟩
  rw [ec, eb, ee, ea]
  clear ec eb ee ea hR hu
  go_enter Try.func11, Try.ntmps11
  go_wp2_with fail
  change Calls _ _ _ (threeBoxes w 5 N) _
  refine (ring_begin_not s _ _ HR.out g).mono ?_
  rintro _ w3 ⟨rfl, e3⟩
  obtain ⟨hR, ht⟩ : Ring s R w3 ∧ Turn s (threeBoxes w 5 N) w3 := by
    subst e3
    exact ⟨HR.out, Turn.refl _ _⟩
  clear e3
  have hx := HX.out.turn HU.out.1 HU.out.2.1 HU.out.2.2.1 ht
  have b0 := hx.a0
  have b1 := hx.a1
  have b2 := hx.r0
  have b3 := hx.r1
  have b4 := hx.r2
  have b5 := hx.t0
  have b6 := hx.t1
  have b7 := hx.t2
  have z0 := hx.rz 0
  have z1 := hx.rz 1
  have z2 := hx.rz 2
  have y0 := hx.tz 0
  have y1 := hx.tz 1
  have y2 := hx.tz 2
  have HE := Lib.hid (And.intro hR (HT.out.trans ht))
  have HX3 := Lib.hid hx
  clear hR ht hx HR HX HT
  go_wp2_with fail
  obtain ⟨t0, t1, t2, hd⟩ := did_close (W1 := w3.setCell ⟨w.heap.size + 1 + 1, 2, none⟩ (.int .i64 18)) HU.out HX3.out HE.out.1 HE.out.2 (One.setQ (w.heap.size + 1 + 1) 2 (.int .i64 18) w3) 0 false (18)
  unfold tolds at t0 t1 t2 hd
  exact bodyPost_ret (v := told 0 false 18) (by simp [told, results, Try.results11, go_sem, t0, t1, t2]) rfl ⟨rfl, hd⟩

set_option maxHeartbeats 4000000 in
theorem did_end (s : Spot) (q : Nat) (R : Rows) (w : World) (hR : Ring s R w) (N : Int) (g : R.grey = []) : DidSaid s q 6 N R w := by
  unfold DidSaid
  have hu : s.under w.heap.size := by
    obtain ⟨_, _, _, hl, _⟩ := hR
    exact hl.under
  have HR := Lib.hid (hR.later (three_below w 6 N))
  have HT := Lib.hid (Turn.of_below (s := s) (three_below w 6 N))
  have HX := Lib.hid (Boxes.mk3 w 6 N)
  have HU := Lib.hid hu
  obtain ⟨ec, eb, ee, ea⟩ : tellC 6 R = 0 ∧ tellB 6 R = false ∧ tellE s.n 6 N R = 0 ∧ after s.n 6 N R = R.fin := by
    exact ⟨rfl, rfl, by simp [tellE, g], by simp [after, g]⟩
  rw [ec, eb, ee, ea]
  clear ec eb ee ea hR hu
  go_enter Try.func11, Try.ntmps11
  go_wp2_with fail
  change Calls _ _ _ (threeBoxes w 6 N) _
  refine (ring_end s _ _ HR.out g).mono ?_
  rintro _ w3 ⟨rfl, hR, ht⟩
  have hx := HX.out.turn HU.out.1 HU.out.2.1 HU.out.2.2.1 ht
  have b0 := hx.a0
  have b1 := hx.a1
  have b2 := hx.r0
  have b3 := hx.r1
  have b4 := hx.r2
  have b5 := hx.t0
  have b6 := hx.t1
  have b7 := hx.t2
  have z0 := hx.rz 0
  have z1 := hx.rz 1
  have z2 := hx.rz 2
  have y0 := hx.tz 0
  have y1 := hx.tz 1
  have y2 := hx.tz 2
  have HE := Lib.hid (And.intro hR (HT.out.trans ht))
  have HX3 := Lib.hid hx
  clear hR ht hx HR HX HT
  go_wp2_with fail
  obtain ⟨t0, t1, t2, hd⟩ := did_close (W1 := w3.setCell ⟨w.heap.size + 1 + 1, 2, none⟩ (.int .i64 0)) HU.out HX3.out HE.out.1 HE.out.2 (One.setQ (w.heap.size + 1 + 1) 2 (.int .i64 0) w3) 0 false (0)
  unfold tolds at t0 t1 t2 hd
  exact bodyPost_ret (v := told 0 false 0) (by simp [told, results, Try.results11, go_sem, t0, t1, t2]) rfl ⟨rfl, hd⟩

set_option maxHeartbeats 4000000 in
theorem did_end_not (s : Spot) (q : Nat) (R : Rows) (w : World) (hR : Ring s R w) (N : Int) (g : R.grey ≠ []) : DidSaid s q 6 N R w := by
  unfold DidSaid
  have hu : s.under w.heap.size := by
    obtain ⟨_, _, _, hl, _⟩ := hR
    exact hl.under
  have HR := Lib.hid (hR.later (three_below w 6 N))
  have HT := Lib.hid (Turn.of_below (s := s) (three_below w 6 N))
  have HX := Lib.hid (Boxes.mk3 w 6 N)
  have HU := Lib.hid hu
  obtain ⟨ec, eb, ee, ea⟩ : tellC 6 R = 0 ∧ tellB 6 R = false ∧ tellE s.n 6 N R = 18 ∧ after s.n 6 N R = R := by
    exact ⟨rfl, rfl, by simp [tellE, g], by simp [after, g]⟩
  rw [ec, eb, ee, ea]
  clear ec eb ee ea hR hu
  go_enter Try.func11, Try.ntmps11
  go_wp2_with fail
  change Calls _ _ _ (threeBoxes w 6 N) _
  refine (ring_end_not s _ _ HR.out g).mono ?_
  rintro _ w3 ⟨rfl, e3⟩
  obtain ⟨hR, ht⟩ : Ring s R w3 ∧ Turn s (threeBoxes w 6 N) w3 := by
    subst e3
    exact ⟨HR.out, Turn.refl _ _⟩
  clear e3
  have hx := HX.out.turn HU.out.1 HU.out.2.1 HU.out.2.2.1 ht
  have b0 := hx.a0
  have b1 := hx.a1
  have b2 := hx.r0
  have b3 := hx.r1
  have b4 := hx.r2
  have b5 := hx.t0
  have b6 := hx.t1
  have b7 := hx.t2
  have z0 := hx.rz 0
  have z1 := hx.rz 1
  have z2 := hx.rz 2
  have y0 := hx.tz 0
  have y1 := hx.tz 1
  have y2 := hx.tz 2
  have HE := Lib.hid (And.intro hR (HT.out.trans ht))
  have HX3 := Lib.hid hx
  clear hR ht hx HR HX HT
  go_wp2_with fail
  obtain ⟨t0, t1, t2, hd⟩ := did_close (W1 := w3.setCell ⟨w.heap.size + 1 + 1, 2, none⟩ (.int .i64 18)) HU.out HX3.out HE.out.1 HE.out.2 (One.setQ (w.heap.size + 1 + 1) 2 (.int .i64 18) w3) 0 false (18)
  unfold tolds at t0 t1 t2 hd
  exact bodyPost_ret (v := told 0 false 18) (by simp [told, results, Try.results11, go_sem, t0, t1, t2]) rfl ⟨rfl, hd⟩

set_option maxHeartbeats 4000000 in
theorem did_done (s : Spot) (q : Nat) (R : Rows) (w : World) (hR : Ring s R w) (N : Int) (c : Int) (l : List Int) (g : R.grey = l ++ [c]) : DidSaid s q 4 N R w := by
  unfold DidSaid
  have hu : s.under w.heap.size := by
    obtain ⟨_, _, _, hl, _⟩ := hR
    exact hl.under
  have HR := Lib.hid (hR.later (three_below w 4 N))
  have HT := Lib.hid (Turn.of_below (s := s) (three_below w 4 N))
  have HX := Lib.hid (Boxes.mk3 w 4 N)
  have HU := Lib.hid hu
  obtain ⟨ec, eb, ee, ea⟩ : tellC 4 R = 0 ∧ tellB 4 R = false ∧ tellE s.n 4 N R = 0 ∧ after s.n 4 N R = R.done := by
    exact ⟨rfl, rfl, by simp [tellE, g], by simp [after, g]⟩
  rw [ec, eb, ee, ea]
  clear ec eb ee ea hR hu
  go_enter Try.func11, Try.ntmps11
  go_wp2_with fail
  change Calls _ _ _ (threeBoxes w 4 N) _
  refine (ring_done s _ _ HR.out c l g).mono ?_
  rintro _ w3 ⟨rfl, hR, ht⟩
  have hx := HX.out.turn HU.out.1 HU.out.2.1 HU.out.2.2.1 ht
  have b0 := hx.a0
  have b1 := hx.a1
  have b2 := hx.r0
  have b3 := hx.r1
  have b4 := hx.r2
  have b5 := hx.t0
  have b6 := hx.t1
  have b7 := hx.t2
  have z0 := hx.rz 0
  have z1 := hx.rz 1
  have z2 := hx.rz 2
  have y0 := hx.tz 0
  have y1 := hx.tz 1
  have y2 := hx.tz 2
  have HE := Lib.hid (And.intro hR (HT.out.trans ht))
  have HX3 := Lib.hid hx
  clear hR ht hx HR HX HT
  go_wp2_with fail
  obtain ⟨t0, t1, t2, hd⟩ := did_close (W1 := w3.setCell ⟨w.heap.size + 1 + 1, 2, none⟩ (.int .i64 0)) HU.out HX3.out HE.out.1 HE.out.2 (One.setQ (w.heap.size + 1 + 1) 2 (.int .i64 0) w3) 0 false (0)
  unfold tolds at t0 t1 t2 hd
  exact bodyPost_ret (v := told 0 false 0) (by simp [told, results, Try.results11, go_sem, t0, t1, t2]) rfl ⟨rfl, hd⟩

set_option maxHeartbeats 4000000 in
theorem did_done_none (s : Spot) (q : Nat) (R : Rows) (w : World) (hR : Ring s R w) (N : Int) (g : R.grey = []) : DidSaid s q 4 N R w := by
  unfold DidSaid
  have hu : s.under w.heap.size := by
    obtain ⟨_, _, _, hl, _⟩ := hR
    exact hl.under
  have HR := Lib.hid (hR.later (three_below w 4 N))
  have HT := Lib.hid (Turn.of_below (s := s) (three_below w 4 N))
  have HX := Lib.hid (Boxes.mk3 w 4 N)
  have HU := Lib.hid hu
  obtain ⟨ec, eb, ee, ea⟩ : tellC 4 R = 0 ∧ tellB 4 R = false ∧ tellE s.n 4 N R = 18 ∧ after s.n 4 N R = R := by
    exact ⟨rfl, rfl, by simp [tellE, g], by simp [after, g]⟩
  rw [ec, eb, ee, ea]
  clear ec eb ee ea hR hu
  go_enter Try.func11, Try.ntmps11
  go_wp2_with fail
  change Calls _ _ _ (threeBoxes w 4 N) _
  refine (ring_done_none s _ _ HR.out g).mono ?_
  rintro _ w3 ⟨rfl, e3⟩
  obtain ⟨hR, ht⟩ : Ring s R w3 ∧ Turn s (threeBoxes w 4 N) w3 := by
    subst e3
    exact ⟨HR.out, Turn.refl _ _⟩
  clear e3
  have hx := HX.out.turn HU.out.1 HU.out.2.1 HU.out.2.2.1 ht
  have b0 := hx.a0
  have b1 := hx.a1
  have b2 := hx.r0
  have b3 := hx.r1
  have b4 := hx.r2
  have b5 := hx.t0
  have b6 := hx.t1
  have b7 := hx.t2
  have z0 := hx.rz 0
  have z1 := hx.rz 1
  have z2 := hx.rz 2
  have y0 := hx.tz 0
  have y1 := hx.tz 1
  have y2 := hx.tz 2
  have HE := Lib.hid (And.intro hR (HT.out.trans ht))
  have HX3 := Lib.hid hx
  clear hR ht hx HR HX HT
  go_wp2_with fail
  obtain ⟨t0, t1, t2, hd⟩ := did_close (W1 := w3.setCell ⟨w.heap.size + 1 + 1, 2, none⟩ (.int .i64 18)) HU.out HX3.out HE.out.1 HE.out.2 (One.setQ (w.heap.size + 1 + 1) 2 (.int .i64 18) w3) 0 false (18)
  unfold tolds at t0 t1 t2 hd
  exact bodyPost_ret (v := told 0 false 18) (by simp [told, results, Try.results11, go_sem, t0, t1, t2]) rfl ⟨rfl, hd⟩

set_option maxHeartbeats 4000000 in
theorem did_alloc (s : Spot) (q : Nat) (R : Rows) (w : World) (hR : Ring s R w) (N : Int) (c : Int) (l : List Int) (g : R.white = c :: l) : DidSaid s q 1 N R w := by
  unfold DidSaid
  have hu : s.under w.heap.size := by
    obtain ⟨_, _, _, hl, _⟩ := hR
    exact hl.under
  have HR := Lib.hid (hR.later (three_below w 1 N))
  have HT := Lib.hid (Turn.of_below (s := s) (three_below w 1 N))
  have HX := Lib.hid (Boxes.mk3 w 1 N)
  have HU := Lib.hid hu
  obtain ⟨ec, eb, ee, ea⟩ : tellC 1 R = c ∧ tellB 1 R = false ∧ tellE s.n 1 N R = 0 ∧ after s.n 1 N R = R.alloc := by
    obtain ⟨x1, x2, x3, x4⟩ := tell_other (K := 1) (Or.inl rfl) s.n N R
    exact ⟨by rw [x1, g]; rfl, x2, by rw [x3, g]; rfl, by rw [x4, g]; rfl⟩
  rw [ec, eb, ee, ea]
  clear ec eb ee ea hR hu
  go_enter Try.func11, Try.ntmps11
  go_wp2_with fail
  change Calls _ _ _ (threeBoxes w 1 N) _
  refine (ring_alloc s _ _ HR.out c l g).mono ?_
  rintro _ w3 ⟨rfl, hR, ht⟩
  have hx := HX.out.turn HU.out.1 HU.out.2.1 HU.out.2.2.1 ht
  have b0 := hx.a0
  have b1 := hx.a1
  have b2 := hx.r0
  have b3 := hx.r1
  have b4 := hx.r2
  have b5 := hx.t0
  have b6 := hx.t1
  have b7 := hx.t2
  have z0 := hx.rz 0
  have z1 := hx.rz 1
  have z2 := hx.rz 2
  have y0 := hx.tz 0
  have y1 := hx.tz 1
  have y2 := hx.tz 2
  have HE := Lib.hid (And.intro hR (HT.out.trans ht))
  have HX3 := Lib.hid hx
  clear hR ht hx HR HX HT
  go_wp2_with fail
  obtain ⟨t0, t1, t2, hd⟩ := did_close (W1 := (w3.setCell ⟨w.heap.size + 1 + 1, 0, none⟩ (.int .i64 c)).setCell ⟨w.heap.size + 1 + 1, 2, none⟩ (.int .i64 0)) HU.out HX3.out HE.out.1 HE.out.2 ((One.setQ (w.heap.size + 1 + 1) 0 (.int .i64 c) w3).trans (One.setQ (w.heap.size + 1 + 1) 2 (.int .i64 0) (w3.setCell ⟨w.heap.size + 1 + 1, 0, none⟩ (.int .i64 c)))) c false (0)
  unfold tolds at t0 t1 t2 hd
  exact bodyPost_ret (v := told c false 0) (by simp [told, results, Try.results11, go_sem, t0, t1, t2]) rfl ⟨rfl, hd⟩

set_option maxHeartbeats 4000000 in
theorem did_alloc_full (s : Spot) (q : Nat) (R : Rows) (w : World) (hR : Ring s R w) (N : Int) (g : R.white = []) : DidSaid s q 1 N R w := by
  unfold DidSaid
  have hu : s.under w.heap.size := by
    obtain ⟨_, _, _, hl, _⟩ := hR
    exact hl.under
  have HR := Lib.hid (hR.later (three_below w 1 N))
  have HT := Lib.hid (Turn.of_below (s := s) (three_below w 1 N))
  have HX := Lib.hid (Boxes.mk3 w 1 N)
  have HU := Lib.hid hu
  obtain ⟨ec, eb, ee, ea⟩ : tellC 1 R = 0 ∧ tellB 1 R = false ∧ tellE s.n 1 N R = 2 ∧ after s.n 1 N R = R := by
    obtain ⟨x1, x2, x3, x4⟩ := tell_other (K := 1) (Or.inl rfl) s.n N R
    exact ⟨by rw [x1, g]; rfl, x2, by rw [x3, g]; rfl, by rw [x4, g]; rfl⟩
  rw [ec, eb, ee, ea]
  clear ec eb ee ea hR hu
  go_enter Try.func11, Try.ntmps11
  go_wp2_with fail
  change Calls _ _ _ (threeBoxes w 1 N) _
  refine (ring_alloc_full s _ _ HR.out g).mono ?_
  rintro _ w3 ⟨rfl, e3⟩
  obtain ⟨hR, ht⟩ : Ring s R w3 ∧ Turn s (threeBoxes w 1 N) w3 := by
    subst e3
    exact ⟨HR.out, Turn.refl _ _⟩
  clear e3
  have hx := HX.out.turn HU.out.1 HU.out.2.1 HU.out.2.2.1 ht
  have b0 := hx.a0
  have b1 := hx.a1
  have b2 := hx.r0
  have b3 := hx.r1
  have b4 := hx.r2
  have b5 := hx.t0
  have b6 := hx.t1
  have b7 := hx.t2
  have z0 := hx.rz 0
  have z1 := hx.rz 1
  have z2 := hx.rz 2
  have y0 := hx.tz 0
  have y1 := hx.tz 1
  have y2 := hx.tz 2
  have HE := Lib.hid (And.intro hR (HT.out.trans ht))
  have HX3 := Lib.hid hx
  clear hR ht hx HR HX HT
  go_wp2_with fail
  obtain ⟨t0, t1, t2, hd⟩ := did_close (W1 := (w3.setCell ⟨w.heap.size + 1 + 1, 0, none⟩ (.int .i64 0)).setCell ⟨w.heap.size + 1 + 1, 2, none⟩ (.int .i64 2)) HU.out HX3.out HE.out.1 HE.out.2 ((One.setQ (w.heap.size + 1 + 1) 0 (.int .i64 0) w3).trans (One.setQ (w.heap.size + 1 + 1) 2 (.int .i64 2) (w3.setCell ⟨w.heap.size + 1 + 1, 0, none⟩ (.int .i64 0)))) 0 false (2)
  unfold tolds at t0 t1 t2 hd
  exact bodyPost_ret (v := told 0 false 2) (by simp [told, results, Try.results11, go_sem, t0, t1, t2]) rfl ⟨rfl, hd⟩

set_option maxHeartbeats 4000000 in
theorem did_drop (s : Spot) (q : Nat) (R : Rows) (w : World) (hR : Ring s R w) (K N : Int) (hK : K < 0 ∨ 6 < K) (c : Int) (l : List Int) (g : R.white = c :: l) : DidSaid s q K N R w := by
  have k0 : (K == 0) = false := by simp; omega
  have k1 : (K == 1) = false := by simp; omega
  have k2 : (K == 2) = false := by simp; omega
  have k3 : (K == 3) = false := by simp; omega
  have k4 : (K == 4) = false := by simp; omega
  have k5 : (K == 5) = false := by simp; omega
  have k6 : (K == 6) = false := by simp; omega
  unfold DidSaid
  have hu : s.under w.heap.size := by
    obtain ⟨_, _, _, hl, _⟩ := hR
    exact hl.under
  have HR := Lib.hid (hR.later (three_below w K N))
  have HT := Lib.hid (Turn.of_below (s := s) (three_below w K N))
  have HX := Lib.hid (Boxes.mk3 w K N)
  have HU := Lib.hid hu
  obtain ⟨ec, eb, ee, ea⟩ : tellC K R = c ∧ tellB K R = false ∧ tellE s.n K N R = 0 ∧ after s.n K N R = R.drop := by
    obtain ⟨x1, x2, x3, x4⟩ := tell_other (K := K) (Or.inr hK) s.n N R
    have hk1 : ¬ K = 1 := by omega
    exact ⟨by rw [x1, g]; rfl, x2, by rw [x3, g]; rfl, by rw [x4, g]; simp [hk1]⟩
  rw [ec, eb, ee, ea]
  clear ec eb ee ea hR hu
  go_enter Try.func11, Try.ntmps11
  go_wp2_with fail
  change Calls _ _ _ (threeBoxes w K N) _
  refine (ring_drop s _ _ HR.out c l g).mono ?_
  rintro _ w3 ⟨rfl, hR, ht⟩
  have hx := HX.out.turn HU.out.1 HU.out.2.1 HU.out.2.2.1 ht
  have b0 := hx.a0
  have b1 := hx.a1
  have b2 := hx.r0
  have b3 := hx.r1
  have b4 := hx.r2
  have b5 := hx.t0
  have b6 := hx.t1
  have b7 := hx.t2
  have z0 := hx.rz 0
  have z1 := hx.rz 1
  have z2 := hx.rz 2
  have y0 := hx.tz 0
  have y1 := hx.tz 1
  have y2 := hx.tz 2
  have HE := Lib.hid (And.intro hR (HT.out.trans ht))
  have HX3 := Lib.hid hx
  clear hR ht hx HR HX HT
  go_wp2_with fail
  obtain ⟨t0, t1, t2, hd⟩ := did_close (W1 := (w3.setCell ⟨w.heap.size + 1 + 1, 0, none⟩ (.int .i64 c)).setCell ⟨w.heap.size + 1 + 1, 2, none⟩ (.int .i64 0)) HU.out HX3.out HE.out.1 HE.out.2 ((One.setQ (w.heap.size + 1 + 1) 0 (.int .i64 c) w3).trans (One.setQ (w.heap.size + 1 + 1) 2 (.int .i64 0) (w3.setCell ⟨w.heap.size + 1 + 1, 0, none⟩ (.int .i64 c)))) c false (0)
  unfold tolds at t0 t1 t2 hd
  exact bodyPost_ret (v := told c false 0) (by simp [told, results, Try.results11, go_sem, t0, t1, t2]) rfl ⟨rfl, hd⟩

set_option maxHeartbeats 4000000 in
theorem did_drop_full (s : Spot) (q : Nat) (R : Rows) (w : World) (hR : Ring s R w) (K N : Int) (hK : K < 0 ∨ 6 < K) (g : R.white = []) : DidSaid s q K N R w := by
  have k0 : (K == 0) = false := by simp; omega
  have k1 : (K == 1) = false := by simp; omega
  have k2 : (K == 2) = false := by simp; omega
  have k3 : (K == 3) = false := by simp; omega
  have k4 : (K == 4) = false := by simp; omega
  have k5 : (K == 5) = false := by simp; omega
  have k6 : (K == 6) = false := by simp; omega
  unfold DidSaid
  have hu : s.under w.heap.size := by
    obtain ⟨_, _, _, hl, _⟩ := hR
    exact hl.under
  have HR := Lib.hid (hR.later (three_below w K N))
  have HT := Lib.hid (Turn.of_below (s := s) (three_below w K N))
  have HX := Lib.hid (Boxes.mk3 w K N)
  have HU := Lib.hid hu
  obtain ⟨ec, eb, ee, ea⟩ : tellC K R = 0 ∧ tellB K R = false ∧ tellE s.n K N R = 2 ∧ after s.n K N R = R := by
    obtain ⟨x1, x2, x3, x4⟩ := tell_other (K := K) (Or.inr hK) s.n N R
    exact ⟨by rw [x1, g]; rfl, x2, by rw [x3, g]; rfl, by rw [x4, g]; rfl⟩
  rw [ec, eb, ee, ea]
  clear ec eb ee ea hR hu
  go_enter Try.func11, Try.ntmps11
  go_wp2_with fail
  change Calls _ _ _ (threeBoxes w K N) _
  refine (ring_drop_full s _ _ HR.out g).mono ?_
  rintro _ w3 ⟨rfl, e3⟩
  obtain ⟨hR, ht⟩ : Ring s R w3 ∧ Turn s (threeBoxes w K N) w3 := by
    subst e3
    exact ⟨HR.out, Turn.refl _ _⟩
  clear e3
  have hx := HX.out.turn HU.out.1 HU.out.2.1 HU.out.2.2.1 ht
  have b0 := hx.a0
  have b1 := hx.a1
  have b2 := hx.r0
  have b3 := hx.r1
  have b4 := hx.r2
  have b5 := hx.t0
  have b6 := hx.t1
  have b7 := hx.t2
  have z0 := hx.rz 0
  have z1 := hx.rz 1
  have z2 := hx.rz 2
  have y0 := hx.tz 0
  have y1 := hx.tz 1
  have y2 := hx.tz 2
  have HE := Lib.hid (And.intro hR (HT.out.trans ht))
  have HX3 := Lib.hid hx
  clear hR ht hx HR HX HT
  go_wp2_with fail
  obtain ⟨t0, t1, t2, hd⟩ := did_close (W1 := (w3.setCell ⟨w.heap.size + 1 + 1, 0, none⟩ (.int .i64 0)).setCell ⟨w.heap.size + 1 + 1, 2, none⟩ (.int .i64 2)) HU.out HX3.out HE.out.1 HE.out.2 ((One.setQ (w.heap.size + 1 + 1) 0 (.int .i64 0) w3).trans (One.setQ (w.heap.size + 1 + 1) 2 (.int .i64 2) (w3.setCell ⟨w.heap.size + 1 + 1, 0, none⟩ (.int .i64 0)))) 0 false (2)
  unfold tolds at t0 t1 t2 hd
  exact bodyPost_ret (v := told 0 false 2) (by simp [told, results, Try.results11, go_sem, t0, t1, t2]) rfl ⟨rfl, hd⟩

set_option maxHeartbeats 4000000 in
theorem did_next (s : Spot) (q : Nat) (R : Rows) (w : World) (hR : Ring s R w) (N : Int) (c : Int) (l : List Int) (g : R.grey = l ++ [c]) : DidSaid s q 3 N R w := by
  unfold DidSaid
  have hu : s.under w.heap.size := by
    obtain ⟨_, _, _, hl, _⟩ := hR
    exact hl.under
  have HR := Lib.hid (hR.later (three_below w 3 N))
  have HT := Lib.hid (Turn.of_below (s := s) (three_below w 3 N))
  have HX := Lib.hid (Boxes.mk3 w 3 N)
  have HU := Lib.hid hu
  obtain ⟨ec, eb, ee, ea⟩ : tellC 3 R = c ∧ tellB 3 R = true ∧ tellE s.n 3 N R = 0 ∧ after s.n 3 N R = R := by
    exact ⟨by simp [tellC, g], by simp [tellB, g], rfl, rfl⟩
  rw [ec, eb, ee, ea]
  clear ec eb ee ea hR hu
  go_enter Try.func11, Try.ntmps11
  go_wp2_with fail
  change Calls _ _ _ (threeBoxes w 3 N) _
  refine (ring_next s _ _ HR.out c l g).mono ?_
  rintro _ w3 ⟨rfl, hR, ht⟩
  have hx := HX.out.turn HU.out.1 HU.out.2.1 HU.out.2.2.1 ht
  have b0 := hx.a0
  have b1 := hx.a1
  have b2 := hx.r0
  have b3 := hx.r1
  have b4 := hx.r2
  have b5 := hx.t0
  have b6 := hx.t1
  have b7 := hx.t2
  have z0 := hx.rz 0
  have z1 := hx.rz 1
  have z2 := hx.rz 2
  have y0 := hx.tz 0
  have y1 := hx.tz 1
  have y2 := hx.tz 2
  have HE := Lib.hid (And.intro hR (HT.out.trans ht))
  have HX3 := Lib.hid hx
  clear hR ht hx HR HX HT
  go_wp2_with fail
  obtain ⟨t0, t1, t2, hd⟩ := did_close (W1 := ((w3.setCell ⟨w.heap.size + 1 + 1, 0, none⟩ (.int .i64 c)).setCell ⟨w.heap.size + 1 + 1, 1, none⟩ (.bool true)).setCell ⟨w.heap.size + 1 + 1, 2, none⟩ (.int .i64 0)) HU.out HX3.out HE.out.1 HE.out.2 (((One.setQ (w.heap.size + 1 + 1) 0 (.int .i64 c) w3).trans (One.setQ (w.heap.size + 1 + 1) 1 (.bool true) (w3.setCell ⟨w.heap.size + 1 + 1, 0, none⟩ (.int .i64 c)))).trans (One.setQ (w.heap.size + 1 + 1) 2 (.int .i64 0) ((w3.setCell ⟨w.heap.size + 1 + 1, 0, none⟩ (.int .i64 c)).setCell ⟨w.heap.size + 1 + 1, 1, none⟩ (.bool true)))) c true (0)
  unfold tolds at t0 t1 t2 hd
  exact bodyPost_ret (v := told c true 0) (by simp [told, results, Try.results11, go_sem, t0, t1, t2]) rfl ⟨rfl, hd⟩

set_option maxHeartbeats 4000000 in
theorem did_next_none (s : Spot) (q : Nat) (R : Rows) (w : World) (hR : Ring s R w) (N : Int) (g : R.grey = []) : DidSaid s q 3 N R w := by
  unfold DidSaid
  have hu : s.under w.heap.size := by
    obtain ⟨_, _, _, hl, _⟩ := hR
    exact hl.under
  have HR := Lib.hid (hR.later (three_below w 3 N))
  have HT := Lib.hid (Turn.of_below (s := s) (three_below w 3 N))
  have HX := Lib.hid (Boxes.mk3 w 3 N)
  have HU := Lib.hid hu
  obtain ⟨ec, eb, ee, ea⟩ : tellC 3 R = 0 ∧ tellB 3 R = false ∧ tellE s.n 3 N R = 0 ∧ after s.n 3 N R = R := by
    exact ⟨by simp [tellC, g], by simp [tellB, g], rfl, rfl⟩
  rw [ec, eb, ee, ea]
  clear ec eb ee ea hR hu
  go_enter Try.func11, Try.ntmps11
  go_wp2_with fail
  change Calls _ _ _ (threeBoxes w 3 N) _
  refine (ring_next_none s _ _ HR.out g).mono ?_
  rintro _ w3 ⟨rfl, e3⟩
  obtain ⟨hR, ht⟩ : Ring s R w3 ∧ Turn s (threeBoxes w 3 N) w3 := by
    subst e3
    exact ⟨HR.out, Turn.refl _ _⟩
  clear e3
  have hx := HX.out.turn HU.out.1 HU.out.2.1 HU.out.2.2.1 ht
  have b0 := hx.a0
  have b1 := hx.a1
  have b2 := hx.r0
  have b3 := hx.r1
  have b4 := hx.r2
  have b5 := hx.t0
  have b6 := hx.t1
  have b7 := hx.t2
  have z0 := hx.rz 0
  have z1 := hx.rz 1
  have z2 := hx.rz 2
  have y0 := hx.tz 0
  have y1 := hx.tz 1
  have y2 := hx.tz 2
  have HE := Lib.hid (And.intro hR (HT.out.trans ht))
  have HX3 := Lib.hid hx
  clear hR ht hx HR HX HT
  go_wp2_with fail
  obtain ⟨t0, t1, t2, hd⟩ := did_close (W1 := ((w3.setCell ⟨w.heap.size + 1 + 1, 0, none⟩ (.int .i64 0)).setCell ⟨w.heap.size + 1 + 1, 1, none⟩ (.bool false)).setCell ⟨w.heap.size + 1 + 1, 2, none⟩ (.int .i64 0)) HU.out HX3.out HE.out.1 HE.out.2 (((One.setQ (w.heap.size + 1 + 1) 0 (.int .i64 0) w3).trans (One.setQ (w.heap.size + 1 + 1) 1 (.bool false) (w3.setCell ⟨w.heap.size + 1 + 1, 0, none⟩ (.int .i64 0)))).trans (One.setQ (w.heap.size + 1 + 1) 2 (.int .i64 0) ((w3.setCell ⟨w.heap.size + 1 + 1, 0, none⟩ (.int .i64 0)).setCell ⟨w.heap.size + 1 + 1, 1, none⟩ (.bool false)))) 0 false (0)
  unfold tolds at t0 t1 t2 hd
  exact bodyPost_ret (v := told 0 false 0) (by simp [told, results, Try.results11, go_sem, t0, t1, t2]) rfl ⟨rfl, hd⟩

set_option maxHeartbeats 4000000 in
theorem did_grow (s : Spot) (q : Nat) (R : Rows) (w : World) (hR : Ring s R w) (N : Int) (hf : Fit s.n (N :: R.all)) (hl : R.all.length < 1000) : DidSaid s q 0 N R w := by
  unfold DidSaid
  have hu : s.under w.heap.size := by
    obtain ⟨_, _, _, hl, _⟩ := hR
    exact hl.under
  have HR := Lib.hid (hR.later (three_below w 0 N))
  have HT := Lib.hid (Turn.of_below (s := s) (three_below w 0 N))
  have HX := Lib.hid (Boxes.mk3 w 0 N)
  have HU := Lib.hid hu
  obtain ⟨ec, eb, ee, ea⟩ : tellC 0 R = 0 ∧ tellB 0 R = false ∧ tellE s.n 0 N R = 0 ∧ after s.n 0 N R = (R.grow N) := by
    obtain ⟨h1, h2⟩ := hf.rng N (by simp)
    exact ⟨rfl, rfl, by simp [tellE, h1, h2], by simp [after, h1, h2]⟩
  rw [ec, eb, ee, ea]
  clear ec eb ee ea hR hu
  go_enter Try.func11, Try.ntmps11
  go_wp2_with fail
  change Calls _ _ _ (threeBoxes w 0 N) _
  refine (ring_grow s _ _ HR.out N hf hl).mono ?_
  rintro _ w3 ⟨rfl, hR, ht⟩
  have hx := HX.out.turn HU.out.1 HU.out.2.1 HU.out.2.2.1 ht
  have b0 := hx.a0
  have b1 := hx.a1
  have b2 := hx.r0
  have b3 := hx.r1
  have b4 := hx.r2
  have b5 := hx.t0
  have b6 := hx.t1
  have b7 := hx.t2
  have z0 := hx.rz 0
  have z1 := hx.rz 1
  have z2 := hx.rz 2
  have y0 := hx.tz 0
  have y1 := hx.tz 1
  have y2 := hx.tz 2
  have HE := Lib.hid (And.intro hR (HT.out.trans ht))
  have HX3 := Lib.hid hx
  clear hR ht hx HR HX HT
  go_wp2_with fail
  obtain ⟨t0, t1, t2, hd⟩ := did_close (W1 := w3.setCell ⟨w.heap.size + 1 + 1, 2, none⟩ (.int .i64 0)) HU.out HX3.out HE.out.1 HE.out.2 (One.setQ (w.heap.size + 1 + 1) 2 (.int .i64 0) w3) 0 false (0)
  unfold tolds at t0 t1 t2 hd
  exact bodyPost_ret (v := told 0 false 0) (by simp [told, results, Try.results11, go_sem, t0, t1, t2]) rfl ⟨rfl, hd⟩

set_option maxHeartbeats 4000000 in
theorem did_grow_out (s : Spot) (q : Nat) (R : Rows) (w : World) (hR : Ring s R w) (N : Int) (ho : ¬ Rng s.n N) : DidSaid s q 0 N R w := by
  unfold DidSaid
  have hu : s.under w.heap.size := by
    obtain ⟨_, _, _, hl, _⟩ := hR
    exact hl.under
  have HR := Lib.hid (hR.later (three_below w 0 N))
  have HT := Lib.hid (Turn.of_below (s := s) (three_below w 0 N))
  have HX := Lib.hid (Boxes.mk3 w 0 N)
  have HU := Lib.hid hu
  obtain ⟨ec, eb, ee, ea⟩ : tellC 0 R = 0 ∧ tellB 0 R = false ∧ tellE s.n 0 N R = 1 ∧ after s.n 0 N R = R := by
    unfold Rng at ho
    exact ⟨rfl, rfl, by simp [tellE, ho], by simp [after, ho]⟩
  rw [ec, eb, ee, ea]
  clear ec eb ee ea hR hu
  go_enter Try.func11, Try.ntmps11
  go_wp2_with fail
  change Calls _ _ _ (threeBoxes w 0 N) _
  have hgo := HR.out.elim fun C h => h.elim fun F h => h.elim fun D h => grow_out s C F D _ h.1 N ho
  refine (hgo).mono ?_
  rintro _ w3 ⟨rfl, e3⟩
  obtain ⟨hR, ht⟩ : Ring s R w3 ∧ Turn s (threeBoxes w 0 N) w3 := by
    subst e3
    exact ⟨HR.out, Turn.refl _ _⟩
  clear e3
  have hx := HX.out.turn HU.out.1 HU.out.2.1 HU.out.2.2.1 ht
  have b0 := hx.a0
  have b1 := hx.a1
  have b2 := hx.r0
  have b3 := hx.r1
  have b4 := hx.r2
  have b5 := hx.t0
  have b6 := hx.t1
  have b7 := hx.t2
  have z0 := hx.rz 0
  have z1 := hx.rz 1
  have z2 := hx.rz 2
  have y0 := hx.tz 0
  have y1 := hx.tz 1
  have y2 := hx.tz 2
  have HE := Lib.hid (And.intro hR (HT.out.trans ht))
  have HX3 := Lib.hid hx
  clear hR ht hx HR HX HT
  go_wp2_with fail
  obtain ⟨t0, t1, t2, hd⟩ := did_close (W1 := w3.setCell ⟨w.heap.size + 1 + 1, 2, none⟩ (.int .i64 1)) HU.out HX3.out HE.out.1 HE.out.2 (One.setQ (w.heap.size + 1 + 1) 2 (.int .i64 1) w3) 0 false (1)
  unfold tolds at t0 t1 t2 hd
  exact bodyPost_ret (v := told 0 false 1) (by simp [told, results, Try.results11, go_sem, t0, t1, t2]) rfl ⟨rfl, hd⟩

end Go.Proofs.Ytbjlpmjalidfkaa
