/- A law's call: the program's ring is asked to shade. -/
import Derived.Test.YtbjlpmjalidfkaaRiZ
namespace Go.Proofs.Ytbjlpmjalidfkaa
open Go.RowKit Go.Shelf

set_option maxHeartbeats 4000000 in
theorem did_shade_none (s : Spot) (q : Nat) (R : Rows) (w : World) (hR : Ring s R w) (N : Int) (hQ : Ref w q s.n R) (hs : R.all.length ≤ 1000) (g : R.frm = []) : DidSaid s q 2 N R w := by
  unfold DidSaid
  have hu : s.under w.heap.size := by
    obtain ⟨_, _, _, hl, _⟩ := hR
    exact hl.under
  have HR := Lib.hid (hR.later (three_below w 2 N))
  have HT := Lib.hid (Turn.of_below (s := s) (three_below w 2 N))
  have HX := Lib.hid (Boxes.mk3 w 2 N)
  have HU := Lib.hid hu
  have hsh := shaded_any (threeBoxes w 2 N) q s.n R (hQ.later (three_below w 2 N)) N hs
  rw [show shadedAt N R = -1 from if_pos g] at hsh
  have HSH := Lib.hid hsh
  clear hsh hQ
  obtain ⟨ec, eb, ee, ea⟩ : tellC 2 R = 0 ∧ tellB 2 R = false ∧ tellE s.n 2 N R = 20 ∧ after s.n 2 N R = R := by
    exact ⟨rfl, rfl, by simp [tellE, g], by simp [after, g]⟩
  rw [ec, eb, ee, ea]
  clear ec eb ee ea hR hu
  go_enter Try.func11, Try.ntmps11
  go_wp2_with fail
  change Calls _ _ _ (threeBoxes w 2 N) _
  refine HSH.out.mono ?_
  rintro _ w4 ⟨rfl, e4⟩
  have hx4 := HX.out
  have z0 := hx4.rz 0
  go_wp2_with fail
  subst e4
  refine (ring_shade_none s _ _ HR.out 0 g).mono ?_
  rintro _ w3 ⟨rfl, e3⟩
  obtain ⟨hR, ht⟩ : Ring s R w3 ∧ Turn s (threeBoxes w 2 N) w3 := by
    subst e3
    exact ⟨HR.out, Turn.refl _ _⟩
  clear e3
  have hx := HX.out.turn HU.out.1 HU.out.2.1 HU.out.2.2.1 ht
  have b0 := hx.a0
  have b1 := hx.a1
  have b2 := hx.r0
  have b3 := hx.r1
  have b4 := hx.r2
  have b5 := hx.t0
  have b6 := hx.t1
  have b7 := hx.t2
  have z0 := hx.rz 0
  have z1 := hx.rz 1
  have z2 := hx.rz 2
  have y0 := hx.tz 0
  have y1 := hx.tz 1
  have y2 := hx.tz 2
  have HE := Lib.hid (And.intro hR (HT.out.trans ht))
  have HX3 := Lib.hid hx
  clear hR ht hx HR HX HT
  go_wp2_with fail
  obtain ⟨t0, t1, t2, hd⟩ := did_close (W1 := w3.setCell ⟨w.heap.size + 1 + 1, 2, none⟩ (.int .i64 20)) HU.out HX3.out HE.out.1 HE.out.2 (One.setQ (w.heap.size + 1 + 1) 2 (.int .i64 20) w3) 0 false (20)
  unfold tolds at t0 t1 t2 hd
  exact bodyPost_ret (v := told 0 false 20) (by simp [told, results, Try.results11, go_sem, t0, t1, t2]) rfl ⟨rfl, hd⟩

set_option maxHeartbeats 4000000 in
theorem did_shade (s : Spot) (q : Nat) (R : Rows) (w : World) (hR : Ring s R w) (N : Int) (hQ : Ref w q s.n R) (hp : ∀ x, x ∈ R.all → 1 ≤ x) (hs : R.all.length ≤ 1000) (g : R.frm ≠ []) : DidSaid s q 2 N R w := by
  unfold DidSaid
  have hu : s.under w.heap.size := by
    obtain ⟨_, _, _, hl, _⟩ := hR
    exact hl.under
  have HR := Lib.hid (hR.later (three_below w 2 N))
  have HT := Lib.hid (Turn.of_below (s := s) (three_below w 2 N))
  have HX := Lib.hid (Boxes.mk3 w 2 N)
  have HU := Lib.hid hu
  have hsh := shaded_any (threeBoxes w 2 N) q s.n R (hQ.later (three_below w 2 N)) N hs
  have hc : shadedAt N R ∈ R.frm := shaded_mem g
  have hc1 := hp _ (List.mem_append_right _ (List.mem_append_left _ hc))
  have HSH := Lib.hid hsh
  clear hsh hQ hp
  obtain ⟨ec, eb, ee, ea⟩ : tellC 2 R = 0 ∧ tellB 2 R = false ∧ tellE s.n 2 N R = 0 ∧ after s.n 2 N R = (R.shade (shadedAt N R)) := by
    exact ⟨rfl, rfl, by simp [tellE, g], by simp [after, g]⟩
  rw [ec, eb, ee, ea]
  clear ec eb ee ea hR hu
  go_enter Try.func11, Try.ntmps11
  go_wp2_with fail
  change Calls _ _ _ (threeBoxes w 2 N) _
  refine HSH.out.mono ?_
  rintro _ w4 ⟨rfl, e4⟩
  have hc2 : decide (shadedAt N R < 0) = false := decide_eq_false (by omega)
  have hc3 : decide (0 < shadedAt N R) = true := decide_eq_true (by omega)
  have hx4 := HX.out
  have z0 := hx4.rz 0
  go_wp2_with fail
  subst e4
  refine (ring_shade s _ _ HR.out (shadedAt N R) hc).mono ?_
  rintro _ w3 ⟨rfl, hR, ht⟩
  have hx := HX.out.turn HU.out.1 HU.out.2.1 HU.out.2.2.1 ht
  have b0 := hx.a0
  have b1 := hx.a1
  have b2 := hx.r0
  have b3 := hx.r1
  have b4 := hx.r2
  have b5 := hx.t0
  have b6 := hx.t1
  have b7 := hx.t2
  have z0 := hx.rz 0
  have z1 := hx.rz 1
  have z2 := hx.rz 2
  have y0 := hx.tz 0
  have y1 := hx.tz 1
  have y2 := hx.tz 2
  have HE := Lib.hid (And.intro hR (HT.out.trans ht))
  have HX3 := Lib.hid hx
  clear hR ht hx HR HX HT
  go_wp2_with fail
  obtain ⟨t0, t1, t2, hd⟩ := did_close (W1 := w3.setCell ⟨w.heap.size + 1 + 1, 2, none⟩ (.int .i64 0)) HU.out HX3.out HE.out.1 HE.out.2 (One.setQ (w.heap.size + 1 + 1) 2 (.int .i64 0) w3) 0 false (0)
  unfold tolds at t0 t1 t2 hd
  exact bodyPost_ret (v := told 0 false 0) (by simp [told, results, Try.results11, go_sem, t0, t1, t2]) rfl ⟨rfl, hd⟩

end Go.Proofs.Ytbjlpmjalidfkaa
