/- Pop's closure. -/
import Derived.Test.YtalfhcmccdnajaaSkF
namespace Go.Proofs.Ytalfhcmccdnajaa
open Go.RowKit Go.Sort

set_option maxHeartbeats 8000000 in
/-- What Pop does with the place of the last frame. -/
theorem pop1_any (p B1 B2 left : Nat) (room : Int) (v : Value) (M : List Fr) (f : Fr) (w0 w : World) (h : St w0 p room v (M ++ [f]) left) (hb : Below w0.heap.size w0 w) (hB1 : w.cell? ⟨B1, 0, none⟩ = some (.pointer (some ⟨p, 0, none⟩))) (u : Value) (hB2 : w.cell? ⟨B2, 0, none⟩ = some u) (hz2 : w.frozen? ⟨B2, 0, none⟩ = false)
    (l1 : w0.heap.size ≤ B1) (l2 : w0.heap.size ≤ B2) (n12 : B1 ≠ B2) (left' : Nat) (hle : left' = min left M.length) :
    Calls Try.prog 32 #[.int .i64 M.length, .pointer (some ⟨B1, 0, none⟩), .pointer (some ⟨B2, 0, none⟩)] w fun e w' => e = .returned (.tuple #[]) ∧ Kept p room v w0 M left' w' ∧ w.heap.size ≤ w'.heap.size ∧ ∀ k, k < w.heap.size → k ≠ p → some k ≠ v.ownBlock → w'.heap[k]? = (w.setCell ⟨B2, 0, none⟩ (.bool (decide (M.length < left)))).heap[k]? := by
  have hp := h.lp
  have hSw := h.later hb
  have hb1 : Below w0.heap.size w0 (w.setCell ⟨B2, 0, none⟩ (.bool (decide (M.length < left)))) := hb.setCell l2 _
  have hS1 := h.later hb1
  have hs := Lib.hid (show M.length ≤ 2048 ∧ left ≤ M.length + 1 ∧ 0 ≤ used (M ++ [f]) ∧ used (M ++ [f]) ≤ 4096 ∧ (f.ws.length : Int) + 2 ≤ used (M ++ [f]) ∧ 0 ≤ (f.ws.length : Int) by
    have h1 := h.small
    have h2 := h.le
    have h3 := h.us
    have h4 := h.r1
    have h5 := used_len M
    have h6 := used_append M f
    simp at h1 h2
    omega)
  have g3 := hSw.c3
  have z3 := hSw.z3
  have HS := Lib.hid (And.intro hS1 hb1)
  have H0 := Lib.hid h
  have hd1 : (w.setCell ⟨B2, 0, none⟩ (.bool (decide (M.length < left)))).cell? ⟨B1, 0, none⟩ = some (.pointer (some ⟨p, 0, none⟩)) := (World.cell?_setCell_other _ _ _ _ (fun e => n12 (congrArg Addr.block e).symm)).trans hB1
  have hl1 : B1 ≠ p := by omega
  clear h hb hSw hb1 hS1
  go_enter Try.func32, Try.ntmps32
  go_wp2_with fail
  clear g3 z3 hB1 hB2 hz2 n12
  generalize hW1 : w.setCell ⟨B2, 0, none⟩ (.bool (decide (M.length < left))) = W1 at HS hd1 ⊢
  have HWZ := Lib.hid (show w.setCell ⟨B2, 0, none⟩ (.bool (decide (M.length < left))) = W1 ∧ W1.heap.size = w.heap.size from ⟨hW1, by rw [← hW1]; simp [World.setCell]⟩)
  clear hW1
  have g3 := HS.out.1.c3
  have z3 := HS.out.1.z3
  have HHL : Hid (left' ≤ M.length) := (by omega : left' ≤ M.length)
  have hcase : (M.length < left ∧ left' = M.length) ∨ (¬ M.length < left ∧ left' = left) := by omega
  have hd0 := hd1
  have hcl := HS.out.1.fs
  obtain ⟨g, cap, cur, hv, hg, hc1, hc2, hc3, hc4⟩ : ∃ g cap cur, v = .slice (some ⟨g, 0, none⟩) (M ++ [f]).length cap ∧ W1.heap[g]? = some (.cells cur TF (0, 0)) ∧ (M ++ [f]).length ≤ cap ∧ cap ≤ maxLen ∧ cap * 3 ≤ cur.size ∧ cur.toList.take ((M ++ [f]).length * 3) = flatF (M ++ [f]) := by
    rcases hcl with ⟨_, h⟩ | h
    · simp at h
    · exact h
  obtain ⟨g', cap', hv', _, _, _, k0, k1, k2⟩ := HS.out.1.fs.cell (j := M.length) (f := f) (by simp)
  obtain ⟨rfl, rfl⟩ : g' = g ∧ cap' = cap := by rw [hv] at hv'; simp at hv'; exact ⟨hv'.1.symm, hv'.2.symm⟩
  have HV := Lib.hid hv
  have HG := Lib.hid (show g' ≠ p ∧ W1.heap[g']? = some (.cells cur TF (0, 0)) ∧ (M ++ [f]).length ≤ cap' ∧ cap' ≤ maxLen ∧ cap' * 3 ≤ cur.size ∧ cur.toList.take ((M ++ [f]).length * 3) = flatF (M ++ [f]) from ⟨fun e => HS.out.1.ne (by rw [hv, e]; rfl), hg, hc1, hc2, hc3, hc4⟩)
  have hcb : M.length + 1 ≤ cap' := by simpa using hc1
  clear hle hcl hv hv' hg hc1 hc2 hc3 hc4 hd1
  rcases hcase with ⟨hlt, rfl⟩ | ⟨hlt, rfl⟩
  · have hlt' : (M.length : Int) < (left : Int) := by omega
    go_still_tail 9, (by kernel_rfl)
    change wpList _ _ _ _ _ W1.drew
    have hd1 : W1.drew.cell? ⟨p, 3, none⟩ = some (.int .i64 left) := g3
    have hd2 : W1.drew.frozen? ⟨p, 3, none⟩ = false := z3
    go_wp2_with fail
    clear hd1 hd2 g3 z3
    have q0 : (W1.setCell ⟨p, 3, none⟩ (.int .i64 M.length)).drew.cell? ⟨B1, 0, none⟩ = some (.pointer (some ⟨p, 0, none⟩)) := (World.cell?_setCell_other _ _ _ _ (fun e => hl1 (congrArg Addr.block e).symm)).trans hd0
    have q1 : (W1.setCell ⟨p, 3, none⟩ (.int .i64 M.length)).drew.cell? ⟨p, 1, none⟩ = some (.int .i64 (used (M ++ [f]))) := (World.cell?_setCell_other _ _ _ _ (by simp)).trans HS.out.1.c1
    have q2 : (W1.setCell ⟨p, 3, none⟩ (.int .i64 M.length)).drew.cell? ⟨p, 2, none⟩ = some (.slice (some ⟨g', 0, none⟩) (M.length + 1) cap') := (World.cell?_setCell_other _ _ _ _ (by simp)).trans (HS.out.1.c2.trans (by rw [HV.out]; simp))
    have q4 : (W1.setCell ⟨p, 3, none⟩ (.int .i64 M.length)).drew.cell? ⟨g', M.length * 3, none⟩ = some (.int .i64 f.k) := (World.cell?_setCell_other _ _ _ _ (fun e => HG.out.1 (congrArg Addr.block e).symm)).trans k0
    have q5 : (W1.setCell ⟨p, 3, none⟩ (.int .i64 M.length)).drew.cell? ⟨g', M.length * 3 + 1, none⟩ = some (.int .i64 f.n) := (World.cell?_setCell_other _ _ _ _ (fun e => HG.out.1 (congrArg Addr.block e).symm)).trans k1
    have q6 : (W1.setCell ⟨p, 3, none⟩ (.int .i64 M.length)).drew.cell? ⟨g', M.length * 3 + 2, none⟩ = some (.slice f.a f.ws.length f.c) := (World.cell?_setCell_other _ _ _ _ (fun e => HG.out.1 (congrArg Addr.block e).symm)).trans k2
    have qz : (W1.setCell ⟨p, 3, none⟩ (.int .i64 M.length)).drew.frozen? ⟨p, 1, none⟩ = false := (World.frozen?_setCell _ _ _ _).trans HS.out.1.z1
    generalize hW2 : (W1.setCell ⟨p, 3, none⟩ (.int .i64 M.length)).drew = W2 at q0 q1 q2 q4 q5 q6 qz ⊢
    have HW2 := Lib.hid hW2
    have hwz : W2.heap.size = W1.heap.size := by rw [← hW2]; simp [World.setCell, World.drew]
    have HZ := Lib.hid (show p < W2.heap.size ∧ B1 < W2.heap.size ∧ g' < W2.heap.size from ⟨World.block_lt_of_cell? _ _ q1, World.block_lt_of_cell? _ _ q0, World.block_lt_of_cell? _ _ q4⟩)
    clear hW2 hwz hd0 k0 k1 k2
    have hix : (M.length : Int) < (M.length : Int) + 1 := by omega
    have hU : IntKind.i64.wrap (used (M ++ [f]) - ((f.ws.length : Int) + 2)) = used M := by
      have h1 := hs.out
      have h2 := used_all M f
      rw [IntKind.wrap_i64]
      omega
    go_region_law (refine step_wanted rfl ?_; go_simp; go_at_call 28; refine (takes_any _ _ _ _ _ _ (by have := hs.out; omega)).mono ?_; rintro e w11 ⟨rfl, hb11⟩; have HB11 : Hid (Below W2.heap.size W2 w11) := (⟨hb11.os, hb11.tape, hb11.output, hb11.size, hb11.block⟩ : Below W2.heap.size W2 w11); have f0 := (World.cell?_of_block (w := W2) (a := ⟨B1, 0, none⟩) (HB11.out.block B1 HZ.out.2.1)).trans q0; have f1 := (World.cell?_of_block (w := W2) (a := ⟨p, 1, none⟩) (HB11.out.block p HZ.out.1)).trans q1; have f2 := (World.frozen?_of_block (w := W2) (a := ⟨p, 1, none⟩) (HB11.out.block p HZ.out.1)).trans qz; have f3 := (World.cell?_of_block (w := W2) (a := ⟨p, 2, none⟩) (HB11.out.block p HZ.out.1)).trans q2; clear hb11)
    all_goals clear q0 q1 q2 q4 q5 q6 qz
    all_goals
      have f4 : (w11.setCell ⟨p, 1, none⟩ (.int .i64 (used M))).cell? ⟨B1, 0, none⟩ = some (.pointer (some ⟨p, 0, none⟩)) := (World.cell?_setCell_other _ _ _ _ (fun e => hl1 (congrArg Addr.block e).symm)).trans f0
      have f5 : (w11.setCell ⟨p, 1, none⟩ (.int .i64 (used M))).cell? ⟨p, 2, none⟩ = some (.slice (some ⟨g', 0, none⟩) (M.length + 1) cap') := (World.cell?_setCell_other _ _ _ _ (by simp)).trans f3
      have f6 : (w11.setCell ⟨p, 1, none⟩ (.int .i64 (used M))).frozen? ⟨p, 2, none⟩ = false := (World.frozen?_setCell _ _ _ _).trans ((World.frozen?_of_block (w := W2) (a := ⟨p, 2, none⟩) (HB11.out.block p HZ.out.1)).trans (by rw [← HW2.out]; exact (World.frozen?_setCell _ _ _ _).trans HS.out.1.z2))
      have f7 : (w11.setCell ⟨p, 1, none⟩ (.int .i64 (used M))).heap[g']? = some (.cells cur TF (0, 0)) := by
        rw [Below.heap_setCell _ _ _ _ HG.out.1, HB11.out.block g' HZ.out.2.2, ← HW2.out]
        exact (Below.heap_setCell _ _ _ _ HG.out.1).trans HG.out.2.1
      clear f0 f1 f2 f3
      generalize hW4 : w11.setCell ⟨p, 1, none⟩ (.int .i64 (used M)) = W4 at f4 f5 f6 f7 ⊢
      have HW4 := Lib.hid (And.intro hW4 (And.intro f5 (And.intro f6 f7)))
      clear hW4 f5 f6 f7
      go_wp2_with fail
      refine (cut_any p g' M.length cap' (min (2 * M.length) cap') cur W4 HW4.out.2.1 HW4.out.2.2.1 HW4.out.2.2.2 (by have := HG.out.2.2.1; simpa using this) HG.out.2.2.2.1 HG.out.2.2.2.2.1 HG.out.1 (by have := hs.out; omega) rfl).mono ?_
      rintro e W5 ⟨rfl, hW5⟩
      have HW5 := Lib.hid hW5
      clear hW5
      go_wp2_with fail
      go_end0
      have h0 := H0.out
      have hvv := HV.out
      rw [hvv] at h0 ⊢
      obtain ⟨h1, h2, h3⟩ := pop_state (f := f) h0 HS.out.2 HW4.out.2.2.2 HG.out.2.2.1 HG.out.2.2.2.1 HG.out.2.2.2.2.1 HG.out.2.2.2.2.2 ((Below.refl W1.heap.size W1).drew) rfl (by have h := HB11.out; rw [← HW2.out] at h; exact ⟨h.os, h.tape, h.output, h.size, h.block⟩) HW4.out.1.symm rfl HHL.out HW5.out
      exact ⟨rfl, h1, by have h4 := HWZ.out.2; omega, fun k hk k1 k2 => (h3 k (by have h4 := HWZ.out.2; omega) k1 (fun e => k2 (by rw [e]; rfl))).trans (by rw [← HWZ.out.1]; first | done | rfl | simp [hlt])⟩
  · have hlt' : ¬ (M.length : Int) < (left' : Int) := by omega
    go_still_tail 9, (by kernel_rfl)
    change wpList _ _ _ _ _ W1.drew
    have hd1 : W1.drew.cell? ⟨p, 3, none⟩ = some (.int .i64 left') := g3
    have hd2 : W1.drew.frozen? ⟨p, 3, none⟩ = false := z3
    go_wp2_with fail
    clear hd1 hd2 g3 z3
    have q0 : (W1.setCell ⟨p, 3, none⟩ (.int .i64 left')).drew.cell? ⟨B1, 0, none⟩ = some (.pointer (some ⟨p, 0, none⟩)) := (World.cell?_setCell_other _ _ _ _ (fun e => hl1 (congrArg Addr.block e).symm)).trans hd0
    have q1 : (W1.setCell ⟨p, 3, none⟩ (.int .i64 left')).drew.cell? ⟨p, 1, none⟩ = some (.int .i64 (used (M ++ [f]))) := (World.cell?_setCell_other _ _ _ _ (by simp)).trans HS.out.1.c1
    have q2 : (W1.setCell ⟨p, 3, none⟩ (.int .i64 left')).drew.cell? ⟨p, 2, none⟩ = some (.slice (some ⟨g', 0, none⟩) (M.length + 1) cap') := (World.cell?_setCell_other _ _ _ _ (by simp)).trans (HS.out.1.c2.trans (by rw [HV.out]; simp))
    have q4 : (W1.setCell ⟨p, 3, none⟩ (.int .i64 left')).drew.cell? ⟨g', M.length * 3, none⟩ = some (.int .i64 f.k) := (World.cell?_setCell_other _ _ _ _ (fun e => HG.out.1 (congrArg Addr.block e).symm)).trans k0
    have q5 : (W1.setCell ⟨p, 3, none⟩ (.int .i64 left')).drew.cell? ⟨g', M.length * 3 + 1, none⟩ = some (.int .i64 f.n) := (World.cell?_setCell_other _ _ _ _ (fun e => HG.out.1 (congrArg Addr.block e).symm)).trans k1
    have q6 : (W1.setCell ⟨p, 3, none⟩ (.int .i64 left')).drew.cell? ⟨g', M.length * 3 + 2, none⟩ = some (.slice f.a f.ws.length f.c) := (World.cell?_setCell_other _ _ _ _ (fun e => HG.out.1 (congrArg Addr.block e).symm)).trans k2
    have qz : (W1.setCell ⟨p, 3, none⟩ (.int .i64 left')).drew.frozen? ⟨p, 1, none⟩ = false := (World.frozen?_setCell _ _ _ _).trans HS.out.1.z1
    generalize hW2 : (W1.setCell ⟨p, 3, none⟩ (.int .i64 left')).drew = W2 at q0 q1 q2 q4 q5 q6 qz ⊢
    have HW2 := Lib.hid hW2
    have hwz : W2.heap.size = W1.heap.size := by rw [← hW2]; simp [World.setCell, World.drew]
    have HZ := Lib.hid (show p < W2.heap.size ∧ B1 < W2.heap.size ∧ g' < W2.heap.size from ⟨World.block_lt_of_cell? _ _ q1, World.block_lt_of_cell? _ _ q0, World.block_lt_of_cell? _ _ q4⟩)
    clear hW2 hwz hd0 k0 k1 k2
    have hix : (M.length : Int) < (M.length : Int) + 1 := by omega
    have hU : IntKind.i64.wrap (used (M ++ [f]) - ((f.ws.length : Int) + 2)) = used M := by
      have h1 := hs.out
      have h2 := used_all M f
      rw [IntKind.wrap_i64]
      omega
    go_region_law (refine step_wanted rfl ?_; go_simp; go_at_call 28; refine (takes_any _ _ _ _ _ _ (by have := hs.out; omega)).mono ?_; rintro e w11 ⟨rfl, hb11⟩; have HB11 : Hid (Below W2.heap.size W2 w11) := (⟨hb11.os, hb11.tape, hb11.output, hb11.size, hb11.block⟩ : Below W2.heap.size W2 w11); have f0 := (World.cell?_of_block (w := W2) (a := ⟨B1, 0, none⟩) (HB11.out.block B1 HZ.out.2.1)).trans q0; have f1 := (World.cell?_of_block (w := W2) (a := ⟨p, 1, none⟩) (HB11.out.block p HZ.out.1)).trans q1; have f2 := (World.frozen?_of_block (w := W2) (a := ⟨p, 1, none⟩) (HB11.out.block p HZ.out.1)).trans qz; have f3 := (World.cell?_of_block (w := W2) (a := ⟨p, 2, none⟩) (HB11.out.block p HZ.out.1)).trans q2; clear hb11)
    all_goals clear q0 q1 q2 q4 q5 q6 qz
    all_goals
      have f4 : (w11.setCell ⟨p, 1, none⟩ (.int .i64 (used M))).cell? ⟨B1, 0, none⟩ = some (.pointer (some ⟨p, 0, none⟩)) := (World.cell?_setCell_other _ _ _ _ (fun e => hl1 (congrArg Addr.block e).symm)).trans f0
      have f5 : (w11.setCell ⟨p, 1, none⟩ (.int .i64 (used M))).cell? ⟨p, 2, none⟩ = some (.slice (some ⟨g', 0, none⟩) (M.length + 1) cap') := (World.cell?_setCell_other _ _ _ _ (by simp)).trans f3
      have f6 : (w11.setCell ⟨p, 1, none⟩ (.int .i64 (used M))).frozen? ⟨p, 2, none⟩ = false := (World.frozen?_setCell _ _ _ _).trans ((World.frozen?_of_block (w := W2) (a := ⟨p, 2, none⟩) (HB11.out.block p HZ.out.1)).trans (by rw [← HW2.out]; exact (World.frozen?_setCell _ _ _ _).trans HS.out.1.z2))
      have f7 : (w11.setCell ⟨p, 1, none⟩ (.int .i64 (used M))).heap[g']? = some (.cells cur TF (0, 0)) := by
        rw [Below.heap_setCell _ _ _ _ HG.out.1, HB11.out.block g' HZ.out.2.2, ← HW2.out]
        exact (Below.heap_setCell _ _ _ _ HG.out.1).trans HG.out.2.1
      clear f0 f1 f2 f3
      generalize hW4 : w11.setCell ⟨p, 1, none⟩ (.int .i64 (used M)) = W4 at f4 f5 f6 f7 ⊢
      have HW4 := Lib.hid (And.intro hW4 (And.intro f5 (And.intro f6 f7)))
      clear hW4 f5 f6 f7
      go_wp2_with fail
      refine (cut_any p g' M.length cap' (min (2 * M.length) cap') cur W4 HW4.out.2.1 HW4.out.2.2.1 HW4.out.2.2.2 (by have := HG.out.2.2.1; simpa using this) HG.out.2.2.2.1 HG.out.2.2.2.2.1 HG.out.1 (by have := hs.out; omega) rfl).mono ?_
      rintro e W5 ⟨rfl, hW5⟩
      have HW5 := Lib.hid hW5
      clear hW5
      go_wp2_with fail
      go_end0
      have h0 := H0.out
      have hvv := HV.out
      rw [hvv] at h0 ⊢
      obtain ⟨h1, h2, h3⟩ := pop_state (f := f) h0 HS.out.2 HW4.out.2.2.2 HG.out.2.2.1 HG.out.2.2.2.1 HG.out.2.2.2.2.1 HG.out.2.2.2.2.2 ((Below.refl W1.heap.size W1).drew) rfl (by have h := HB11.out; rw [← HW2.out] at h; exact ⟨h.os, h.tape, h.output, h.size, h.block⟩) HW4.out.1.symm rfl HHL.out HW5.out
      exact ⟨rfl, h1, by have h4 := HWZ.out.2; omega, fun k hk k1 k2 => (h3 k (by have h4 := HWZ.out.2; omega) k1 (fun e => k2 (by rw [e]; rfl))).trans (by rw [← HWZ.out.1]; first | done | rfl | simp [hlt])⟩

end Go.Proofs.Ytalfhcmccdnajaa
