/- Push where there is room. -/
import Derived.Test.YtalfhcmccdnajaaSkD
namespace Go.Proofs.Ytalfhcmccdnajaa
open Go.RowKit Go.Sort

/-- What a push leaves, step by step. -/
theorem push_state {w W5 W6 W9 W10 W11 : World} {p left g : Nat} {room U : Int} {v v' : Value} {L : List Fr} {f : Fr} {o : Obj} (h : St w p room v L left) (h1 : Below w.heap.size w W5) (h2 : WAt (fun x => x = g) W5 f) (h3 : w.heap.size ≤ g) (h3' : g < W5.heap.size)
    (e6 : W6 = W5.alloc o) (h4 : FsAt W9 v' (L ++ [f])) (h5 : W6.grownBy W9 v.ownBlock) (h6 : v'.ownBlock = v.ownBlock ∨ v'.ownBlock = some W6.heap.size)
    (h7 : Below (W9.setCell ⟨p, 2, none⟩ v').heap.size (W9.setCell ⟨p, 2, none⟩ v') W10) (e11 : W11 = W10.setCell ⟨p, 1, none⟩ (.int .i64 U)) (hU : U = used L + ((f.ws.length : Int) + 2)) (hr : U ≤ room) :
    Did p room v w (L ++ [f]) left W11 ∧ WAt (fun x => w.heap.size ≤ x) W11 f := by
  subst e6 e11 hU
  have hz : (W5.alloc o).heap.size = W5.heap.size + 1 := World.size_alloc ..
  have hp := h.lp
  have hlt := h.fs.lt
  have s1 := h1.size
  have s5 := h5.size
  have s9 : (W9.setCell ⟨p, 2, none⟩ v').heap.size = W9.heap.size := by simp [World.setCell]
  have s7 := h7.size
  have hpv : some p ≠ v.ownBlock := fun e => h.ne e.symm
  -- what was there, and is no block of the stack's
  have keep9 : ∀ k, k < W5.heap.size → some k ≠ v.ownBlock → W9.heap[k]? = W5.heap[k]? := fun k hk hv => (h5.block k (by omega) hv).trans (Below.heap_alloc _ _ _ hk)
  have keepA : ∀ k, k < W9.heap.size → k ≠ p → (W10.setCell ⟨p, 1, none⟩ (.int .i64 (used L + ((f.ws.length : Int) + 2)))).heap[k]? = W9.heap[k]? := fun k hk hp => (Below.heap_setCell _ _ _ _ hp).trans ((h7.block k (by omega)).trans (Below.heap_setCell _ _ _ _ hp))
  have hp9 : W9.heap[p]? = w.heap[p]? := (keep9 p (by omega) hpv).trans (h1.block p hp)
  have hpA : W10.heap[p]? = (W9.setCell ⟨p, 2, none⟩ v').heap[p]? := h7.block p (by omega)
  have cA : ∀ j, W10.cell? ⟨p, j, none⟩ = (W9.setCell ⟨p, 2, none⟩ v').cell? ⟨p, j, none⟩ := fun j => World.cell?_of_block (w := W9.setCell ⟨p, 2, none⟩ v') hpA
  have c9 : ∀ j, W9.cell? ⟨p, j, none⟩ = w.cell? ⟨p, j, none⟩ := fun j => World.cell?_of_block (w := w) hp9
  have zA : ∀ j, W10.frozen? ⟨p, j, none⟩ = w.frozen? ⟨p, j, none⟩ := fun j => (World.frozen?_of_block (w := W9.setCell ⟨p, 2, none⟩ v') hpA).trans ((World.frozen?_setCell _ _ _ _).trans (World.frozen?_of_block (w := w) hp9))
  have hlt9 := h4.lt
  have own' : ∀ x, v'.ownBlock = some x → v.ownBlock = some x ∨ x = W5.heap.size + 1 := fun x hx => by
    rcases h6 with e | e
    · exact Or.inl (e ▸ hx)
    · rw [e, hz] at hx; right; have := Option.some.inj hx; omega
  have ne' : v'.ownBlock ≠ some p := fun e => by rcases own' p e with h' | h' <;> first | exact h.ne h' | omega
  have hgv0 : some g ≠ v.ownBlock := fun e => by have := hlt g e.symm; omega
  refine ⟨⟨v', ⟨?_, ?_, ?_, ?_, ?_, ?_, ?_, ?_, ne', ?_, ?_, h.r0, h.r1, ?_⟩, ?_, ?_⟩, h2.move (fun x hx hk => by subst hk; exact ⟨h3, (keepA x (by omega) (by omega)).trans (keep9 x hx hgv0)⟩) (by simp [World.setCell] at s7 ⊢; omega)⟩
  · rw [World.cell?_setCell_other _ _ _ _ (by simp), cA, World.cell?_setCell_other _ _ _ _ (by simp), c9]; exact h.c0
  · rw [used_append]; exact World.cell?_setCell_same _ _ _ (by rw [cA, World.cell?_setCell_other _ _ _ _ (by simp), c9]; exact h.c1)
  · rw [World.cell?_setCell_other _ _ _ _ (by simp), cA]; exact World.cell?_setCell_same _ _ _ (by rw [c9]; exact h.c2)
  · rw [World.cell?_setCell_other _ _ _ _ (by simp), cA, World.cell?_setCell_other _ _ _ _ (by simp), c9]; exact h.c3
  · rw [World.frozen?_setCell, zA]; exact h.z1
  · rw [World.frozen?_setCell, zA]; exact h.z2
  · rw [World.frozen?_setCell, zA]; exact h.z3
  · exact h4.move fun x hx => keepA x (hlt9 x hx) (fun e => ne' (e ▸ hx))
  · intro f' hf'
    rcases List.mem_append.1 hf' with hf' | hf'
    · refine (h.ws f' hf').move (fun x hx hk => ⟨⟨hk.1, fun e => ?_⟩, ?_⟩) (by simp [World.setCell] at s7 ⊢; omega)
      · rcases own' x e.symm with h' | h' <;> first | exact hk.2 h'.symm | omega
      · exact (keepA x (by omega) hk.1).trans ((keep9 x (by omega) hk.2).trans (h1.block x hx))
    · simp only [List.mem_singleton] at hf'
      subst hf'
      have hgv : some g ≠ v.ownBlock := fun e => by have := hlt g e.symm; omega
      refine h2.move (fun x hx hk => ?_) (by simp [World.setCell] at s7 ⊢; omega)
      subst hk
      refine ⟨⟨by omega, fun e => ?_⟩, (keepA x (by omega) (by omega)).trans (keep9 x hx hgv)⟩
      rcases own' x e.symm with h' | h' <;> first | exact hgv h'.symm | omega
  · have := h.le; simp; omega
  · rw [used_append]; exact hr
  · refine ⟨?_, ?_, ?_, by simp [World.setCell] at s7 ⊢; omega, fun k hk h1' h2' => (keepA k (by omega) h1').trans ((keep9 k (by omega) h2').trans (h1.block k hk))⟩
    · exact h7.os.trans (h5.os.trans h1.os)
    · exact h7.tape.trans (h5.tape.trans h1.tape)
    · exact h7.output.trans (h5.output.trans h1.output)
  · intro x hx
    rcases own' x hx with h' | h'
    · exact Or.inl h'
    · right; omega

def Pushed (p : Nat) (room : Int) (v : Value) (w : World) (L : List Fr) (left : Nat) (k n : Int) (ws : List Int) (e : Ending) (w' : World) : Prop :=
  e = .returned (.int .i64 0) ∧ ∃ f : Fr, f.told = (k, n, ws) ∧ Did p room v w (L ++ [f]) left w' ∧ WAt (fun x => w.heap.size ≤ x) w' f

set_option maxHeartbeats 4000000 in
theorem push_in (p left : Nat) (room : Int) (v : Value) (L : List Fr) (k n : Int) (a : Option Addr) (c : Nat) (ws : List Int) (K : Nat → Prop) (w : World) (h : St w p room v L left) (hw : WAt K w ⟨k, n, ws, a, c⟩) (hr : (ws.length : Int) + 2 ≤ room - used L) :
    Calls Try.prog 20 #[.pointer (some ⟨p, 0, none⟩), .agg #[.int .i64 k, .int .i64 n, .slice a ws.length c]] w (Pushed p room v w L left k n ws) := by
  have hb := (Below.refl w.heap.size w).alloc (Nat.le_refl _) (.cells #[.int .i64 k, .int .i64 n, .slice a ws.length c] TF)
  have hx := box_cells (w := w) (u0 := .int .i64 k) (u1 := .int .i64 n) (u2 := .slice a ws.length c) (T := TF)
  have h' := h.later hb
  have hs := Lib.hid (show 0 ≤ room ∧ room ≤ 4096 ∧ 0 ≤ used L ∧ used L ≤ 4096 ∧ L.length ≤ 2048 by have := h.r0; have := h.r1; have := h.us; have := used_len L; omega)
  have hm : ws.length ≤ 4096 := by have := hs.out; omega
  have HM : Hid (ws.length ≤ 4096) := hm
  have hR := Lib.hid hr
  have q0 := cell_of_row _ _ 0 _ _ _ hx
  have q1 := cell_of_row _ _ 1 _ _ _ hx
  have q2 := cell_of_row _ _ 2 _ _ _ hx
  have hB := Lib.hid (And.intro h (And.intro hb hw))
  have g0 := h'.c0
  have g1 := h'.c1
  clear h h' hx hr hw hm
  go_enter Try.func20, Try.ntmps20
  go_wp2_with fail
  clear hb
  generalize hW : w.alloc (.cells #[.int .i64 k, .int .i64 n, .slice a ws.length c] TF) = W at q0 q1 q2 g0 g1 ⊢
  generalize hb : w.heap.size = b at q0 q1 q2 ⊢
  generalize hU : used L = U at g1 ⊢
  rw [hU] at hs hR
  have HW := Lib.hid (And.intro hW (And.intro hb hU))
  clear hW hU hb
  have k0 := cell_regrown q0
  have k1 := cell_regrown q1
  have k2 := cell_regrown q2
  have k3 := cell_regrown g0
  have k4 := cell_regrown g1
  refine wp_region_quiet_below (by kernel_rfl) (by kernel_rfl) ?_
  repeat (quiet_step (exact takes_regrown _ _ _ _ _ _ _ _ (by have := HM.out; omega)))
  refine wpQuiet_nil ?_
  intro _ hw'
  obtain ⟨⟨dq, osq⟩, hw''⟩ := hw'
  subst hw''
  replace q0 := k0 dq osq
  replace q1 := k1 dq osq
  replace q2 := k2 dq osq
  have hE0 := Lib.hid (show Below w.heap.size w (grow (redrawn W dq) osq) by have hW := HW.out.1; subst hW; exact hB.out.2.1.trans ((below_regrown _ dq osq).mono hB.out.2.1.size))
  have e0 : IntKind.i64.wrap (room - U) = room - U := by rw [IntKind.wrap_i64]; have := hs.out; omega
  have e1 : ¬ room - U < (ws.length : Int) + 2 := by have := hR.out; omega
  clear k0 k1 k2 k3 k4 g0 g1
  show Exit.then _ _ _ _ (grow (redrawn W dq) osq)
  generalize hW1 : grow (redrawn W dq) osq = W1 at q0 q1 q2 hE0 ⊢
  clear hW1
  have h1 := hB.out.1.later hE0.out
  have HS1 := Lib.hid (And.intro h1 (hB.out.2.2.move (fun g hg hk => ⟨hk, hE0.out.block g hg⟩) hE0.out.size))
  have HB1 : Hid (b < W1.heap.size) := World.block_lt_of_cell? _ _ q0
  obtain ⟨ao, cap, hv⟩ := h1.fs.sl
  have HV := Lib.hid hv
  have g2 := h1.c2
  rw [hv] at g2
  clear h1 hv
  go_wp2_with fail
  go_region_law
    (first
      | (refine step_push rfl _ _ rfl (w5.alloc (.cells #[.int .i64 k, .int .i64 n, .slice (some ⟨g, 0, none⟩) ws.length ws.length] TF)) (.slice ao L.length cap) L rfl (by have hL := (HS1.out.1.later HC5.out.2.2.2).fs; rw [HV.out] at hL; exact hL.move fun x hx => Below.heap_alloc _ _ _ (hL.lt x hx)) (by have := hs.out; omega) w5.heap.size 1 rfl ⟨k, n, ws, some ⟨g, 0, none⟩, ws.length⟩ (World.news_of_block (heap_alloc_new _ _)) ?_; intro v' w9 h1 h2 h3; obtain ⟨ao', cap', hv'⟩ : ∃ ao' cap', v' = .slice ao' (L.length + 1) cap' := (by obtain ⟨x, y, e⟩ := h1.sl; exact ⟨x, y, by rw [e]; simp⟩); subst hv'; have H9 := Lib.hid (And.intro h1 (And.intro h2 h3)); have hlp := Nat.lt_of_lt_of_le HS1.out.1.lp HC5.out.2.2.2.size; have hnp : some p ≠ (Value.slice ao L.length cap).ownBlock := (by rw [← HV.out]; exact fun e => HS1.out.1.ne e.symm); have hb9 := (h2.block p (by rw [World.size_alloc]; omega) hnp).trans ((Below.heap_alloc _ _ _ hlp).trans (HC5.out.2.2.2.block p HS1.out.1.lp)); have e92 := (World.cell?_of_block (w := W1) (a := ⟨p, 2, none⟩) hb9).trans g2; have z92 := (World.frozen?_of_block (w := W1) (a := ⟨p, 2, none⟩) hb9).trans HS1.out.1.z2; clear hlp hnp hb9 h1 h2 h3)
      | (refine step_wanted rfl ?_; go_simp; go_at_call 27; refine (copied_any k n a c ws K _ (by first | exact HS1.out.2 | exact HS1.out.2.move (fun g hg hk => ⟨hk, rfl⟩) (Nat.le_refl _)) (by have := HM.out; omega)).mono ?_; rintro e w5 ⟨g, rfl, hc1, hc2, hc3, hc4, -⟩; have HC5 : Hid (WAt (fun x => x = g) w5 ⟨k, n, ws, some ⟨g, 0, none⟩, ws.length⟩ ∧ W1.heap.size ≤ g ∧ g < w5.heap.size ∧ Below W1.heap.size W1 w5) := ⟨hc1, hc2, hc3, ⟨hc4.os, hc4.tape, hc4.output, hc4.size, hc4.block⟩⟩; have d2 := (World.cell?_of_block (w := W1) (hc4.block p (HS1.out.1.lp))).trans g2; have d3 : (w5.alloc (.cells #[.int .i64 k, .int .i64 n, .slice (some ⟨g, 0, none⟩) ws.length ws.length] TF)).cell? ⟨p, 2, none⟩ = some (.slice ao L.length cap) := (World.cell?_of_block (w := w5) (Below.heap_alloc _ _ _ (World.block_lt_of_cell? _ _ d2))).trans d2; clear hc1 hc2 hc3 hc4))
  all_goals
    have hB5 := HC5.out.2.2.2
    obtain ⟨h91, h92, h93⟩ := H9.out
    have hbb := HW.out.2.1
    have hpb : p < b := hbb ▸ hB.out.1.lp
    have hvb : some b ≠ (Value.slice ao L.length cap).ownBlock := by rw [← HV.out]; exact fun e => by have := hB.out.1.fs.lt b e.symm; omega
    have hvp : some p ≠ (Value.slice ao L.length cap).ownBlock := by rw [← HV.out]; exact fun e => hB.out.1.ne e.symm
    have hs5 := hB5.size
    have hs1 := HB1.out
    have hb9 : w9.heap[b]? = W1.heap[b]? := (h92.block b (by rw [World.size_alloc]; omega) hvb).trans ((Below.heap_alloc _ _ _ (by omega)).trans (hB5.block b hs1))
    have hp9 : w9.heap[p]? = W1.heap[p]? := (h92.block p (by rw [World.size_alloc]; omega) hvp).trans ((Below.heap_alloc _ _ _ (by omega)).trans (hB5.block p (by omega)))
    have hs9 := h92.size
    have hpz : p < (w9.setCell ⟨p, 2, none⟩ (.slice ao' (L.length + 1) cap')).heap.size := by simp [World.setCell] at hs9 ⊢; omega
    have r0 : (w9.setCell ⟨p, 2, none⟩ (.slice ao' (L.length + 1) cap')).cell? ⟨b, 0, none⟩ = some (.int .i64 k) := (World.cell?_setCell_other _ _ _ _ (by simp)).trans ((World.cell?_of_block (w := W1) hb9).trans q0)
    have r1 : (w9.setCell ⟨p, 2, none⟩ (.slice ao' (L.length + 1) cap')).cell? ⟨b, 1, none⟩ = some (.int .i64 n) := (World.cell?_setCell_other _ _ _ _ (by simp)).trans ((World.cell?_of_block (w := W1) hb9).trans q1)
    have r2 : (w9.setCell ⟨p, 2, none⟩ (.slice ao' (L.length + 1) cap')).cell? ⟨b, 2, none⟩ = some (.slice a ws.length c) := (World.cell?_setCell_other _ _ _ _ (by simp)).trans ((World.cell?_of_block (w := W1) hb9).trans q2)
    have r3 : (w9.setCell ⟨p, 2, none⟩ (.slice ao' (L.length + 1) cap')).cell? ⟨p, 1, none⟩ = some (.int .i64 U) := (World.cell?_setCell_other _ _ _ _ (by simp)).trans ((World.cell?_of_block (w := W1) hp9).trans (HS1.out.1.c1.trans (by rw [HW.out.2.2])))
    have z3 : (w9.setCell ⟨p, 2, none⟩ (.slice ao' (L.length + 1) cap')).frozen? ⟨p, 1, none⟩ = false := (World.frozen?_setCell _ _ _ _).trans ((World.frozen?_of_block (w := W1) hp9).trans HS1.out.1.z1)
    have HP := Lib.hid (And.intro h91 (And.intro h92 (And.intro h93 hpz)))
    have hU1 : IntKind.i64.wrap (U + ((ws.length : Int) + 2)) = U + ((ws.length : Int) + 2) := by rw [IntKind.wrap_i64]; have := hs.out; have := hR.out; omega
    clear hB5 h91 h92 h93 hbb hpb hvb hvp hs5 hs1 hb9 hp9 hs9 hpz q0 q1 q2 d2 e92 z92 g2 e0 e1
    try clear d3
    generalize hq : w9.setCell ⟨p, 2, none⟩ (.slice ao' (L.length + 1) cap') = W10 at r0 r1 r2 r3 z3 ⊢
    have HQ := Lib.hid hq
    clear hq
    go_wp2_with fail
    go_region_law (refine step_wanted rfl ?_; go_simp; go_at_call 28; refine (takes_any _ _ _ _ _ _ (by have := HM.out; omega)).mono ?_; rintro e w11 ⟨rfl, hb11⟩; have HB11 : Hid (Below W10.heap.size W10 w11) := (⟨hb11.os, hb11.tape, hb11.output, hb11.size, hb11.block⟩ : Below W10.heap.size W10 w11); have hpz : p < W10.heap.size := (by rw [← HQ.out]; exact HP.out.2.2.2); have f1 := (World.cell?_of_block (w := W10) (a := ⟨p, 1, none⟩) (HB11.out.block p hpz)).trans r3; have f2 := (World.frozen?_of_block (w := W10) (a := ⟨p, 1, none⟩) (HB11.out.block p hpz)).trans z3; clear hb11 hpz)
    all_goals
      go_wp2_with fail
      go_ret
      obtain ⟨h91, h92, h93, -⟩ := HP.out
      have hU2 := HW.out.2.2
      refine ⟨rfl, ⟨k, n, ws, some ⟨g, 0, none⟩, ws.length⟩, rfl, push_state hB.out.1 (hE0.out.trans (HC5.out.2.2.2.mono hE0.out.size)) HC5.out.1 (by have := hE0.out.size; have := HC5.out.2.1; omega) HC5.out.2.2.1 rfl h91 (by rw [HV.out]; exact h92) (by rw [HV.out]; exact h93) (by have := HB11.out; rw [← HQ.out] at this; exact this) rfl (by rw [hU2]) (by have := hR.out; omega)⟩

end Go.Proofs.Ytalfhcmccdnajaa
