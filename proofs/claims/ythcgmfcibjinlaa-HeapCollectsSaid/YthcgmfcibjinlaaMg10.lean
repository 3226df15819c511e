import Derived.Test.YthcgmfcibjinlaaMg9
/- No ring has a cell of a colour. -/
namespace Go.Proofs.Ythcgmfcibjinlaa
open Go.RowKit Go.Shelf

attribute [local go_sem] Oper.semAt_some

/-- In the midst of has. -/
structure HasI (x : HSpot) (T : Nat → Nat) (D : Nat → Int) (R : Nat → Rows) (top par : Int) (L : List (Int × Int)) (c : Int) (cb cap : Nat) (w : World) (W : World) : Prop where
  lies : HLies x T D R top par L W
  b0 : W.cell? ⟨w.heap.size, 0, none⟩ = some (.int .i64 c)
  b1 : W.cell? ⟨w.heap.size + 1, 0, none⟩ = some (.bool false)
  z1 : ∀ j, W.frozen? ⟨w.heap.size + 1, j, none⟩ = false
  b2 : W.cell? ⟨w.heap.size + 1 + 1, 0, none⟩ = some (.pointer (some ⟨x.h, 0, none⟩))
  cl : W.cell? ⟨x.h, 1, none⟩ = some (.slice (some ⟨cb, 0, none⟩) x.k cap)
  turn : HTurn T T w W
  size : w.heap.size + 3 ≤ W.heap.size
theorem HasI.same {x : HSpot} {T : Nat → Nat} {D : Nat → Int} {R : Nat → Rows} {top par : Int} {L : List (Int × Int)} {c : Int} {cb cap : Nat} {w W W' : World} (h : HasI x T D R top par L c cb cap w W) (hT : ∀ b, w.heap.size ≤ b → T b = 1000) (hk : ∀ b, b < w.heap.size + 3 → W'.heap[b]? = W.heap[b]?) (hs : W.heap.size ≤ W'.heap.size)
    (h1 : W'.os = W.os) (h2 : W'.tape = W.tape) (h3 : W'.output = W.output) : HasI x T D R top par L c cb cap w W' := by
  have o : ∀ b j v, b < w.heap.size + 3 → W.cell? ⟨b, j, none⟩ = some v → W'.cell? ⟨b, j, none⟩ = some v := fun b j v hb hv => (World.cell?_of_block (w := W) (hk b hb)).trans hv
  obtain ⟨_, _, _, ht, _⟩ := h.lies.rest
  have hh : x.h < w.heap.size := Nat.lt_of_not_le fun e => by have := hT _ e; rw [ht.h] at this; omega
  exact ⟨h.lies.others hT (fun b hb => hk b (by omega)) hs, o _ _ _ (by omega) h.b0, o _ _ _ (by omega) h.b1, fun j => (World.frozen?_of_block (w := W) (hk (w.heap.size + 1) (by omega))).trans (h.z1 j), o _ _ _ (by omega) h.b2, o _ _ _ (by omega) h.cl,
    ⟨h1.trans h.turn.os, h2.trans h.turn.tape, h3.trans h.turn.output, Nat.le_trans h.turn.size hs, fun b hb ht => ⟨ht, (hk b (by omega)).trans (h.turn.block b hb ht).2⟩⟩, Nat.le_trans h.size hs⟩
theorem HasI.seen {x : HSpot} {T : Nat → Nat} {D : Nat → Int} {R : Nat → Rows} {top par : Int} {L : List (Int × Int)} {c : Int} {cb cap : Nat} {w W : World} (h : HasI x T D R top par L c cb cap w W) :
    ∀ i, i < x.k → W.cell? ⟨cb, i * 2, none⟩ = some (.int .i64 (x.sz i)) ∧ W.cell? ⟨cb, i * 2 + 1, none⟩ = some (.pointer (some ⟨(x.S i).r, 0, none⟩)) := by
  obtain ⟨cb', cap', g, -, hc, hcs, -⟩ := h.lies.rest
  have e := hc.symm.trans h.cl
  simp only [Option.some.injEq, Value.slice.injEq, Addr.mk.injEq, and_true, true_and] at e
  obtain ⟨rfl, _⟩ := e
  exact hcs

def NoneSaid (x : HSpot) (T : Nat → Nat) (D : Nat → Int) (R : Nat → Rows) (top par : Int) (L : List (Int × Int)) (w : World) (e : Ending) (w' : World) : Prop :=
  e = .returned (.bool false) ∧ ∃ T', HLies x T' D R top par L w' ∧ HTurn T T' w w'

set_option maxRecDepth 100000 in
set_option maxHeartbeats 8000000 in
theorem has_none (x : HSpot) (T : Nat → Nat) (D : Nat → Int) (R : Nat → Rows) (top par : Int) (L : List (Int × Int)) (w : World) (h : HLies x T D R top par L w) (c : Nat) (hc4 : c < 4) (hR : ∀ i, i ≤ x.k → (R i).row c = []) :
    Calls Try.prog 61 #[.pointer (some ⟨x.h, 0, none⟩), .int .i64 c] w (NoneSaid x T D R top par L w) := by
  have H := Lib.hid h
  have HRR := Lib.hid hR
  clear h hR
  refine (callsIn_wide (n := 4)).1 ?_
  refine callsIn_of_wp_marks Try.func61 rfl trivial ?_ rfl
  simp only [Try.ntmps61, List.size_toArray, List.length_cons, List.length_nil, Nat.reduceAdd, Nat.reduceSub, Array.replicate_succ, Array.replicate_zero, List.push_toArray, List.append_toArray, List.nil_append, List.cons_append]
  gi_wp2_with fail
  refine ⟨trivial, ?_⟩
  refine (callsIn_wide.2 (rings_any x.h _)).mono ?_
  rintro e w' ⟨rfl, rfl⟩
  gi_wp2_with fail
  obtain ⟨cb, cap, g, hTg, hcl, -, -⟩ := H.out.rest
  have k6 := H.out.k6
  obtain ⟨h1, t1⟩ := H.out.retag
  have hT : ∀ b, w.heap.size ≤ b → retag T w.heap.size b = 1000 := fun b hb => if_neg (by omega)
  have hb0 : Below w.heap.size w (((w.alloc (.cells #[.int .i64 c] 3)).alloc (.cells #[.bool false] 4)).alloc (.cells #[.pointer (some ⟨x.h, 0, none⟩)] 46)) := (((Below.refl _ _).alloc (Nat.le_refl _) _).alloc (by simp) _).alloc (by simp; omega) _
  have hE0 : HasI x (retag T w.heap.size) D R top par L c cb cap w (((w.alloc (.cells #[.int .i64 c] 3)).alloc (.cells #[.bool false] 4)).alloc (.cells #[.pointer (some ⟨x.h, 0, none⟩)] 46)) :=
    ⟨h1.later hb0, by simp [go_sem], by simp [go_sem], fun j => by simp [go_sem], by simp [go_sem], later' hb0 hcl, HTurn.of_below hb0, by simp⟩
  have hs0 : (((w.alloc (.cells #[.int .i64 c] 3)).alloc (.cells #[.bool false] 4)).alloc (.cells #[.pointer (some ⟨x.h, 0, none⟩)] 46)).heap.size = w.heap.size + 3 := by simp
  have HE0 := Lib.hid hE0
  have HT := Lib.hid (And.intro t1 hT)
  clear h1 t1 hT hb0 hE0 H hcl hTg g
  generalize (((w.alloc (.cells #[.int .i64 c] 3)).alloc (.cells #[.bool false] 4)).alloc (.cells #[.pointer (some ⟨x.h, 0, none⟩)] 46)) = w0 at *
  generalize retag T w.heap.size = T1 at *
  have hmix : Try.prog.follows .mixedOrders = true := by kernel_rfl
  refine range_by (gf := 90) (lb := #[.pointer (some ⟨w.heap.size + 1 + 1, 0, none⟩)]) rfl (enters_of Try.func90 (by kernel_rfl) rfl) (fun i : Nat => #[.pointer (some ⟨(x.S i).r, 0, none⟩)]) (fun _ => rfl) (List.range (x.k + 1)) (fun _ W => HasI x T1 D R top par L c cb cap w W) ?hput ?h0
    (fun i => { tmps := #[.pointer (some ⟨x.h, 0, none⟩), .int .i64 c, undef, .pointer (some ⟨w.heap.size, 0, none⟩), .pointer (some ⟨w.heap.size + 1, 0, none⟩), .pointer (some ⟨(x.S i).r, 0, none⟩), .pointer (some ⟨x.h, 0, none⟩), .func (.func 90) #[] #[.pointer (some ⟨w.heap.size + 1 + 1, 0, none⟩)], .pointer (some ⟨(x.S i).r, 0, none⟩), undef, undef, undef, undef, undef], defers := [] }) ?assign ?body ?iter ?done
  case hput =>
    intro pre W l o o' hm hl ho hoc
    exact hm.same HT.out.2 (fun b hb => World.putObj_heap_other (by omega)) (by simp) rfl rfl rfl
  case h0 =>
    intro o o'
    have hb := ((Below.refl w0.heap.size w0).alloc (Nat.le_refl _) o).alloc (by simp) o'
    exact HE0.out.same HT.out.2 (fun b hb' => hb.block b (by omega)) hb.size hb.os hb.tape hb.output
  case assign =>
    intro l y W K hK
    gi_wp2
    exact hK
  case body =>
    intro l pre y W hm hp
    obtain ⟨rfl, hlt⟩ := prefix_range hp
    clear hp
    generalize pre.length = m at *
    have hb := hm.b0
    have hrow := HRR.out m (by omega)
    have hcnt := ring_counts (x.S m) (R m) W.drew ((hm.lies.rings m (by omega)).later (Below.refl W.heap.size W).drew).ring
    have hpi : ∀ W, (Instr.index 128 (.agg #[.int .i64 (R m).white.length, .int .i64 (R m).frm.length, .int .i64 (R m).grey.length, .int .i64 (R m).black.length]) (.int .i64 c)).run Try.prog W = .ok (.int .i64 0) W := fun W => by
      have := pick4 (R m).white.length (R m).frm.length (R m).grey.length (R m).black.length c hc4 W
      rw [this]
      obtain rfl | rfl | rfl | rfl : c = 0 ∨ c = 1 ∨ c = 2 ∨ c = 3 := by omega
      all_goals (simp only [Rows.row] at hrow; simp [hrow])
    have HC := Lib.hid hcnt
    have HM := Lib.hid hm
    generalize ((R m).white.length : Int) = n0 at *
    generalize ((R m).frm.length : Int) = n1 at *
    generalize ((R m).grey.length : Int) = n2 at *
    generalize ((R m).black.length : Int) = n3 at *
    clear hcnt hm hrow
    gi_wp2_with fail
    gi_region_with_o (first
      | (gi_at_call 89; refine (CallsIn.inRound l (callsIn_wide.2 HC.out)).mono ?_; rintro e W3 ⟨rfl, hb3⟩; have c3 := later' hb3 hb)
      | (refine ⟨trivial, (CallsIn.inRound l (callsIn_wide.2 HC.out)).mono ?_⟩; rintro e W3 ⟨rfl, hb3⟩; have c3 := later' hb3 hb))
    all_goals gi_wp2_with fail
    all_goals exact ⟨⟨hb3.size, fun k o hk _ => (hb3.block k (Array.getElem?_eq_some_iff.1 hk).1).trans hk⟩, HM.out.same HT.out.2 (fun b hb' => hb3.block b (by have := HM.out.size; show b < W.heap.size; omega)) hb3.size hb3.os hb3.tape hb3.output⟩
  case iter =>
    intro r W1 hY h0 hB
    refine (rings_each 3 (by decide) (w0.heap.size + 1) (w.heap.size + 1 + 1) x k6 (fun m W => HasI x T1 D R top par L c cb cap w W ∧ Book w0.heap.size r W) cb cap (fun m W h => ⟨h.1.b2, h.1.lies.large, h.1.cl, h.1.seen⟩) ?_ ?_ W1 ⟨h0, hB⟩).mono ?_
    · rintro m W o ⟨hm, hb⟩
      have hbl := (Below.refl W.heap.size W).alloc (Nat.le_refl _) o
      have hlt := hb.lt
      exact ⟨hm.same HT.out.2 (fun b hb' => hbl.block b (by have := hm.size; omega)) hbl.size hbl.os hbl.tape hbl.output, hb.kept (hbl.block _ (by omega)) (hbl.block _ (by omega))⟩
    · rintro m W ⟨hm, hb⟩ hmk
      obtain ⟨fn, tmps, assign, body, h1, h2⟩ := hY (List.range m) m W hm hb (range_one hmk)
      refine ⟨fn, tmps, assign, body, h1, h2.mono ?_⟩
      rintro e W' ⟨rfl, h3, h4⟩
      exact ⟨rfl, h3, h4⟩
    · rintro e W' ⟨h1, h2, h3⟩
      exact ⟨h1, h2, h3⟩
  case done =>
    intro D' W hD hm hK
    have b1 := hm.b1
    have z1 := hm.z1 0
    have HM := Lib.hid hm
    clear hm
    gi_wp2_with fail
    have hK' : (W.setCell ⟨w.heap.size + 1, 0, none⟩ (.bool false)).heap[D']? = some (.deferred (some [])) := (Below.heap_setCell _ _ _ _ (by simp only; omega)).trans hK
    have c1 : (W.setCell ⟨w.heap.size + 1, 0, none⟩ (.bool false)).cell? ⟨w.heap.size + 1, 0, none⟩ = some (.bool false) := World.cell?_setCell_same _ _ _ b1
    have hne : D' ≠ w.heap.size + 1 := by omega
    have c2 : ((W.setCell ⟨w.heap.size + 1, 0, none⟩ (.bool false)).putObj D' (.deferred none)).cell? ⟨w.heap.size + 1, 0, none⟩ = some (.bool false) := (World.cell?_of_block (w := W.setCell ⟨w.heap.size + 1, 0, none⟩ (.bool false)) (World.putObj_heap_other (Ne.symm hne))).trans c1
    have hlies : HLies x T1 D R top par L ((W.setCell ⟨w.heap.size + 1, 0, none⟩ (.bool false)).putObj D' (.deferred none)) := HM.out.lies.others HT.out.2 (fun b hb => (World.putObj_heap_other (by omega)).trans (Below.heap_setCell _ _ _ _ (by simp only; omega))) (by simp [World.setCell])
    have hturn : HTurn T1 T1 w ((W.setCell ⟨w.heap.size + 1, 0, none⟩ (.bool false)).putObj D' (.deferred none)) := by
      have h0 := HM.out.turn
      exact ⟨h0.os, h0.tape, h0.output, by simp [World.setCell]; exact h0.size, fun b hb ht => ⟨ht, ((World.putObj_heap_other (by omega)).trans (Below.heap_setCell _ _ _ _ (by simp only; omega))).trans (h0.block b hb ht).2⟩⟩
    have HF := Lib.hid (And.intro hlies (HT.out.1.trans hturn))
    clear hlies hturn
    refine ⟨by simp, .inl ⟨_, _, rfl, run_takeDeferred hK', ?_⟩⟩
    exact ⟨.bool false, by simp [results, Try.results61, go_sem, c2], rfl, T1, HF.out.1, HF.out.2⟩

end Go.Proofs.Ythcgmfcibjinlaa

/- Begin, End. -/
namespace Go.Proofs.Ythcgmfcibjinlaa
open Go.RowKit

/-- A heap's parity turns. -/
theorem HLies.setPar {x : HSpot} {T : Nat → Nat} {D : Nat → Int} {R : Nat → Rows} {top par : Int} {L : List (Int × Int)} {w : World} (h : HLies x T D R top par L w) (t : Int) :
    HLies x T D R top t L (w.setCell ⟨x.h, 6, none⟩ (.int .i64 t)) ∧ HTurn T T w (w.setCell ⟨x.h, 6, none⟩ (.int .i64 t)) := by
  obtain ⟨cb, cap, g, hT, hc, hcs, hR⟩ := h.rest
  obtain ⟨u, hu⟩ := h.at
  have hS : ∀ b, T b ≠ 0 → (w.setCell ⟨x.h, 6, none⟩ (.int .i64 t)).heap[b]? = w.heap[b]? := fun b hb => Below.heap_setCell _ _ _ _ (fun e => hb (by rw [e]; exact hT.h))
  have o : ∀ (j : Nat) (v : Value), j ≠ 6 → w.cell? ⟨x.h, j, none⟩ = some v → (w.setCell ⟨x.h, 6, none⟩ (.int .i64 t)).cell? ⟨x.h, j, none⟩ = some v := fun j v hj hv => (World.cell?_setCell_other _ _ _ _ (fun e => hj (by cases e; rfl))).trans hv
  have sz : (w.setCell ⟨x.h, 6, none⟩ (.int .i64 t)).heap.size = w.heap.size := by simp [World.setCell]
  have oc : ∀ (b j : Nat) (v : Value), T b ≠ 0 → w.cell? ⟨b, j, none⟩ = some v → (w.setCell ⟨x.h, 6, none⟩ (.int .i64 t)).cell? ⟨b, j, none⟩ = some v := fun b j v hb hv => (World.cell?_of_block (w := w) (hS b hb)).trans hv
  have hA : At (w.setCell ⟨x.h, 6, none⟩ (.int .i64 t)) x.p x.d x.n D u := hu.move (hS _ (by rw [hT.p]; omega)) (hS _ (by rw [hT.d]; omega)) (by rw [sz]; omega)
  refine ⟨⟨o 0 _ (by omega) h.arena, o 2 _ (by omega) h.large, o 3 _ (by omega) h.room, o 4 _ (by omega) h.top, o 5 _ (by omega) h.lim, World.cell?_setCell_same _ _ _ h.par, fun j => (World.frozen?_setCell _ _ _ _).trans (h.fz j), fun i hi => ?_, h.sp, h.k1, h.k6,
    cb, cap, g, hT, o 1 _ (by omega) hc, fun i hi => ⟨oc _ _ _ (by rw [hT.cb]; omega) (hcs i hi).1, oc _ _ _ (by rw [hT.cb]; omega) (hcs i hi).2⟩, hR.move (hS _ (by rw [hT.rp]; omega)) (hS _ (by rw [hT.g]; omega)) (by rw [sz]; omega)⟩,
    rfl, rfl, rfl, by rw [sz]; omega, fun b _ hb => ⟨hb, hS b (by omega)⟩⟩
  obtain ⟨e1, e2, e3⟩ := h.sp i hi
  exact (h.rings i hi).anew (by rw [sz]; omega) (fun b hb => hS b (by rw [hT.s i hi b hb]; omega)) ⟨u, by rw [e1, e2, e3]; exact hA⟩ (fun _ _ => rfl)


/-- What a heap's call leaves, when all rings were asked. -/
def AllAsked (x : HSpot) (T : Nat → Nat) (D : Nat → Int) (R : Nat → Rows) (F : Rows → Rows) (top par : Int) (L : List (Int × Int)) (w w' : World) : Prop := ∃ T', HLies x T' D (mix F R (x.k + 1)) top par L w' ∧ HTurn T T' w w'

set_option maxRecDepth 100000 in
set_option maxHeartbeats 4000000 in
theorem hbegin_any (x : HSpot) (T : Nat → Nat) (D : Nat → Int) (R : Nat → Rows) (top par : Int) (L : List (Int × Int)) (w : World) (h : HLies x T D R top par L w) (hn : 0 < x.n) (hp : par = 0 ∨ par = 1) (hF : ∀ i, i ≤ x.k → (R i).frm = []) (hG : ∀ i, i ≤ x.k → (R i).grey = []) :
    Calls Try.prog 23 #[.pointer (some ⟨x.h, 0, none⟩)] w fun e w' => e = .returned (.int .i64 0) ∧ AllAsked x T D R Rows.begin top (1 - par) L w w' := by
  have H := Lib.hid h
  have H1 := Lib.hid (has_none x T D R top par L w h 1 (by decide) (fun i hi => hF i hi))
  have HFG := Lib.hid (And.intro hF hG)
  have ew : IntKind.i64.wrap (1 - par) = 1 - par := by rw [IntKind.wrap_i64]; omega
  clear h hF hG hp
  go_enter Try.func23, Try.ntmps23
  go_wp2_with fail
  refine H1.out.mono ?_
  rintro e w2 ⟨rfl, T2, h2, t2⟩
  have H2 := Lib.hid (And.intro h2 t2)
  clear h2 t2 H1
  go_wp2_with fail
  refine (has_none x T2 D R top par L w2 H2.out.1 2 (by decide) (fun i hi => HFG.out.2 i hi)).mono ?_
  rintro e w3 ⟨rfl, T3, h3, t3⟩
  have H3 := Lib.hid (And.intro h3 (H2.out.2.trans t3))
  clear h3 t3 H2
  go_wp2_with fail
  refine (each_any x T3 D R top par L w3 H3.out.1 hn 37 Rows.begin (enters_of Try.func37 (by kernel_rfl) rfl) (fun i hi W hW => ringd_begin (x.S i) (R i) W D hW (HFG.out.1 i hi) (HFG.out.2 i hi))).mono ?_
  rintro e w4 ⟨⟨v, rfl⟩, T4, h4, t4⟩
  have H4 := Lib.hid (And.intro h4 (H3.out.2.trans t4))
  have c6 := h4.par
  have z6 := h4.fz 6
  clear h4 t4 H3
  go_wp2_with fail
  go_ret
  obtain ⟨h5, t5⟩ := H4.out.1.setPar (1 - par)
  exact ⟨rfl, T4, h5, H4.out.2.trans t5⟩

set_option maxRecDepth 100000 in
set_option maxHeartbeats 4000000 in
theorem hend_any (x : HSpot) (T : Nat → Nat) (D : Nat → Int) (R : Nat → Rows) (top par : Int) (L : List (Int × Int)) (w : World) (h : HLies x T D R top par L w) (hn : 0 < x.n) (hG : ∀ i, i ≤ x.k → (R i).grey = []) :
    Calls Try.prog 27 #[.pointer (some ⟨x.h, 0, none⟩)] w fun e w' => e = .returned (.int .i64 0) ∧ AllAsked x T D R Rows.fin top par L w w' := by
  have H1 := Lib.hid (has_none x T D R top par L w h 2 (by decide) (fun i hi => hG i hi))
  have HFG := Lib.hid hG
  clear h hG
  go_enter Try.func27, Try.ntmps27
  go_wp2_with fail
  refine H1.out.mono ?_
  rintro e w2 ⟨rfl, T2, h2, t2⟩
  have H2 := Lib.hid (And.intro h2 t2)
  clear h2 t2 H1
  go_wp2_with fail
  refine (each_any x T2 D R top par L w2 H2.out.1 hn 46 Rows.fin (enters_of Try.func46 (by kernel_rfl) rfl) (fun i hi W hW => ringd_end (x.S i) (R i) W D hW (HFG.out i hi))).mono ?_
  rintro e w4 ⟨⟨v, rfl⟩, T4, h4, t4⟩
  have H4 := Lib.hid (And.intro h4 (H2.out.2.trans t4))
  clear h4 t4 H2
  go_wp2_with fail
  go_ret
  exact ⟨rfl, T4, H4.out.1, H4.out.2⟩

end Go.Proofs.Ythcgmfcibjinlaa

/- Sweep. -/
namespace Go.Proofs.Ythcgmfcibjinlaa
open Go.RowKit

theorem Head.size {D : Nat → Int} {c k s a m : Int} (h : Head D c k s a m) : Ce.sb (D c.toNat) = s := (Ce.parts_of h.fit h.word).2.1
theorem dropped_mem {R : Rows} {c a : Int} {l : List Int} (hw : R.white = c :: l) (h : a ∈ R.drop.all) : a ∈ R.all := by
  unfold Rows.all Rows.drop at *
  rw [hw] at *
  simp only [List.tail_cons, List.mem_append, List.mem_cons] at *
  rcases h with h | h
  · exact Or.inl (Or.inr h)
  · exact Or.inr h
theorem dropped_len {R : Rows} {c : Int} {l : List Int} (hw : R.white = c :: l) : R.drop.all.length < R.all.length := by
  unfold Rows.all Rows.drop
  rw [hw]
  simp
theorem dropped_ne {R : Rows} {c a : Int} {l : List Int} (hw : R.white = c :: l) (hnd : R.all.Nodup) (h : a ∈ R.drop.all) : a ≠ c := by
  unfold Rows.all Rows.drop at *
  rw [hw] at *
  simp only [List.tail_cons, List.cons_append, List.nodup_cons] at *
  rintro rfl
  exact hnd.1 h

/-- A large one's room is given. -/
theorem big_given {x : HSpot} {D : Nat → Int} {R : Nat → Rows} {top : Int} {L : List (Int × Int)} (h : HInv x D R top L) (hGd : Ex.Good x.lim (x.lim + (x.n - x.lim : Int)) L) {c k s a m : Int} (hc : c ∈ (R x.k).all) (hd : Head D c k s a m) : Ex.gErr x.lim (x.n - x.lim : Int) c (s + 3) L = 0 := by
  obtain ⟨b1, b2, b3⟩ := h.big c hc
  have hw : wid x D x.k c = s + 3 := by unfold wid; rw [if_neg (Nat.lt_irrefl _), hd.size]
  have hs := hd.fit.2.1
  rw [hw] at b2 b3
  have hin : Ex.within x.lim (x.n - x.lim : Int) c (s + 3) := ⟨by omega, b1, by omega⟩
  unfold Ex.gErr
  rw [if_pos hin]
  have : Ex.hits c (s + 3) L = false := by
    unfold Ex.hits
    rw [List.any_eq_false]
    intro y hy hh
    simp only [Bool.and_eq_true, decide_eq_true_eq] at hh
    by_cases g : c ≤ y.1
    · have hp := (Ex.good_mem hGd hy).2.1
      exact b3 y.1 g (by omega) ⟨y, hy, Int.le_refl _, by omega⟩
    · exact b3 c (Int.le_refl _) (by omega) ⟨y, hy, by omega, hh.1⟩
  rw [this]
  rfl

/-- What Sweep leaves. -/
def SweptSaid (x : HSpot) (T : Nat → Nat) (D : Nat → Int) (R : Nat → Rows) (top par : Int) (L : List (Int × Int)) (c s : Int) (w : World) (e : Ending) (w' : World) : Prop :=
  e = .returned (.bool true) ∧ ∃ T' D' M, HLies x T' D' (put1 R x.k (R x.k).drop) top par M w' ∧ HTurn T T' w w' ∧ SameBut (R x.k) D D' ∧ Ex.Given x.lim (x.lim + (x.n - x.lim : Int)) x.lim (x.n - x.lim : Int) c (s + 3) L M

set_option maxRecDepth 100000 in
set_option maxHeartbeats 4000000 in
theorem sweep_any (x : HSpot) (T : Nat → Nat) (D : Nat → Int) (R : Nat → Rows) (top par : Int) (L : List (Int × Int)) (w : World) (h : HLies x T D R top par L w) (hI : HInv x D R top L) (c : Int) (l : List Int) (hW : (R x.k).white = c :: l) (k s a m : Int) (hd : Head D c k s a m) :
    Calls Try.prog 33 #[.pointer (some ⟨x.h, 0, none⟩)] w (SweptSaid x T D R top par L c s w) := by
  have hc : c ∈ (R x.k).all := List.mem_append_left _ (by rw [hW]; exact List.mem_cons_self ..)
  have hw3 : wid x D x.k c = s + 3 := by unfold wid; rw [if_neg (Nat.lt_irrefl _), hd.size]
  have hO : Obj1 x R c s := hI.obj (Nat.le_refl _) hc (by omega)
  have hs := hd.fit.2.1
  have hfar := hI.far
  have H1 := Lib.hid (ringd_drop (x.S x.k) (R x.k) w D (h.rings x.k (Nat.le_refl _)) c l hW)
  have c2 := h.large
  have h1 := hO.one
  have h2 := hO.le
  have e1 : IntKind.i64.wrap (s + 3) = s + 3 := by rw [IntKind.wrap_i64]; omega
  have n6 := hI.n6
  have hwd := hO.word (by omega) x.k (Nat.le_refl _)
  have H := Lib.hid (And.intro h (And.intro hd (And.intro hfar hwd)))
  clear h hI hW hc hw3 hO hd hfar hwd
  go_enter Try.func33, Try.ntmps33
  go_wp2_with fail
  refine H1.out.mono ?_
  rintro e w2 ⟨rfl, ⟨D', h3, hD⟩, ht⟩
  have hdm : ∀ b, b ∈ (R x.k).drop.all → b ∈ (R x.k).all := fun b hb => by
    unfold Rows.all Rows.drop at *
    simp only [List.mem_append] at *
    rcases hb with hb | hb
    · exact Or.inl (List.mem_of_mem_tail hb)
    · exact Or.inr hb
  have h4 := H.out.1.ring (Nat.le_refl x.k) h3 ht (fun j hj hji q hq => hD q (by
    rintro ⟨b, hb, hbq⟩
    obtain ⟨b', hb', hbq'⟩ := hq
    have := H.out.2.2.1 j hj x.k (Nat.le_refl _) hji b' hb' b hb
    omega))
  have hd2 : Head D' c k s a m := ⟨H.out.2.1.fit, (hD c.toNat (fun hl => H.out.2.2.2 c.toNat hl (by omega))).trans H.out.2.1.word⟩
  have H4 := Lib.hid (And.intro h4.1 (And.intro h4.2 (And.intro hD hd2)))
  clear h3 hD ht h4 hd2 H1 c2 hdm
  go_wp2_with fail
  refine (cell_any x T D' _ top par L w2 H4.out.1 c k s a m h1 (by omega) H4.out.2.2.2).mono ?_
  rintro e w3 ⟨rfl, hS⟩
  have HS := Lib.hid (And.intro hS.1 (H4.out.2.1.trans hS.2))
  clear hS
  go_wp2_with fail
  have hx := (Below.refl w3.heap.size w3).alloc (Nat.le_refl _) (.cells #[.int .i64 k, .int .i64 s, .int .i64 a, .int .i64 m] 69)
  have b1 : (w3.alloc (.cells #[.int .i64 k, .int .i64 s, .int .i64 a, .int .i64 m] 69)).cell? ⟨w3.heap.size, 1, none⟩ = some (.int .i64 s) := by simp [go_sem]
  have H50 := Lib.hid (And.intro (HS.out.1.later hx) (HS.out.2.trans (HTurn.of_below hx)))
  generalize (w3.alloc (.cells #[.int .i64 k, .int .i64 s, .int .i64 a, .int .i64 m] 69)) = W at *
  have hdr := (Below.refl W.heap.size W).drew
  have H5 := Lib.hid (And.intro (H50.out.1.later hdr) (H50.out.2.trans (HTurn.of_below hdr)))
  have b1d := later' hdr b1
  have c3 := H5.out.1.room
  clear hx HS H50 b1 hdr
  obtain ⟨cb, cap, g, hT, hcl, hcs, hRm⟩ := H5.out.1.rest
  have hgl := hRm.lg
  have hrl := hRm.lp
  have HRm := Lib.hid hRm
  have HC := Lib.hid (And.intro hT (And.intro hcl hcs))
  clear hRm hT hcl hcs
  go_region_with (go_at_call 68; refine (Ex.room_give x.rp g x.lim (x.n - x.lim : Int) c (s + 3) L _ HRm.out (by omega)).mono ?_; rintro e w4 ⟨rfl, g', M, hR', hG, hq, hg'⟩)
  all_goals
    obtain ⟨T', h', t'⟩ := H5.out.1.setRoom HC.out.1 hR' hq hg' hgl ⟨cap, HC.out.2.1⟩ HC.out.2.2 hrl
    have H6 := Lib.hid (And.intro h' (And.intro (H5.out.2.trans t') hG))
    clear h' t' hG hq hg' hR' HRm HC hgl hrl c3 b1d
    go_wp2_with fail
    go_ret
    exact ⟨rfl, T', D', M, H6.out.1, H6.out.2.1, H4.out.2.2.1, H6.out.2.2⟩

set_option maxRecDepth 100000 in
set_option maxHeartbeats 4000000 in
theorem sweep_none (x : HSpot) (T : Nat → Nat) (D : Nat → Int) (R : Nat → Rows) (top par : Int) (L : List (Int × Int)) (w : World) (h : HLies x T D R top par L w) (hW : (R x.k).white = []) :
    Calls Try.prog 33 #[.pointer (some ⟨x.h, 0, none⟩)] w fun e w' => e = .returned (.bool false) ∧ w' = w := by
  have H1 := Lib.hid (ring_drop_full (x.S x.k) (R x.k) w (h.rings x.k (Nat.le_refl _)).ring hW)
  have c2 := h.large
  clear h hW
  go_enter Try.func33, Try.ntmps33
  go_wp2_with fail
  refine H1.out.mono ?_
  rintro e w2 ⟨rfl, rfl⟩
  go_wp2_with fail
  go_ret
  exact ⟨rfl, rfl⟩

/-- What holds of the cells behind a sweep. -/
theorem sweep_inv {x : HSpot} {D D' : Nat → Int} {R : Nat → Rows} {top : Int} {L M : List (Int × Int)} (hI : HInv x D R top L) {c s k a m : Int} {l : List Int} (hW : (R x.k).white = c :: l) (hd : Head D c k s a m) (hnd : (R x.k).all.Nodup)
    (hD : SameBut (R x.k) D D') (hG : Ex.Given x.lim (x.lim + (x.n - x.lim : Int)) x.lim (x.n - x.lim : Int) c (s + 3) L M) : HInv x D' (put1 R x.k (R x.k).drop) top M := by
  have hc : c ∈ (R x.k).all := List.mem_append_left _ (by rw [hW]; exact List.mem_cons_self ..)
  have hw3 : wid x D x.k c = s + 3 := by unfold wid; rw [if_neg (Nat.lt_irrefl _), hd.size]
  have old : ∀ i b, b ∈ (put1 R x.k (R x.k).drop i).all → b ∈ (R i).all := fun i b hb => by
    unfold put1 at hb
    by_cases e : i = x.k
    · rw [if_pos e] at hb
      rw [e]
      exact dropped_mem hW hb
    · rw [if_neg e] at hb
      exact hb
  have hwd : ∀ i, i ≤ x.k → ∀ b, b ∈ (R i).all → wid x D' i b = wid x D i b := fun i hi b hb => by
    unfold wid
    by_cases g : i < x.k
    · rw [if_pos g, if_pos g]
    · rw [if_neg g, if_neg g]
      obtain rfl : i = x.k := by omega
      have b1 := hI.one x.k (Nat.le_refl _) b hb
      rw [hD b.toNat]
      intro hl
      have hO := (hI.obj (Nat.le_refl _) hb (s := Ce.sb (D b.toNat)) (by unfold wid; rw [if_neg (Nat.lt_irrefl _)]; omega)).word (sb_nonneg _) x.k (Nat.le_refl _) b.toNat hl
      omega
  refine ⟨hI.t0, hI.t1, hI.ln, hI.n6, hI.sz, fun i hi b hb => hI.one i hi b (old i b hb), fun i hi b hb => hI.cell i hi b (old i b hb), fun b hb => ?_, fun i hi j hj b hb b' hb' hne => ?_, fun i hi => ?_⟩
  · have hb2 := old _ b hb
    obtain ⟨b1, b2, b3⟩ := hI.big b hb2
    rw [hwd _ (Nat.le_refl _) b hb2]
    refine ⟨b1, b2, fun q q1 q2 hq => ?_⟩
    rcases (hG.2.1 q).1 hq with hq | ⟨-, p1, p2⟩
    · exact b3 q q1 q2 hq
    · have hbc : b ≠ c := by
        unfold put1 at hb
        rw [if_pos rfl] at hb
        exact dropped_ne hW hnd hb
      have := hI.apart x.k (Nat.le_refl _) x.k (Nat.le_refl _) b hb2 c hc (fun _ => hbc)
      rw [hw3] at this
      omega
  · rw [hwd i hi b (old i b hb), hwd j hj b' (old j b' hb')]
    exact hI.apart i hi j hj b (old i b hb) b' (old j b' hb') hne
  · unfold put1
    by_cases e : i = x.k
    · rw [if_pos e]
      have := dropped_len hW
      have := hI.len x.k (Nat.le_refl _)
      omega
    · rw [if_neg e]
      exact hI.len i hi

end Go.Proofs.Ythcgmfcibjinlaa

/- An object is marked. -/
namespace Go.Proofs.Ythcgmfcibjinlaa
open Go.RowKit

set_option maxHeartbeats 4000000 in
set_option maxRecDepth 100000 in
theorem ringfor_any (x : HSpot) (T : Nat → Nat) (D : Nat → Int) (R : Nat → Rows) (top par : Int) (L : List (Int × Int)) (w : World) (h : HLies x T D R top par L w) (size : Int) (i : Nat) (hC : Cls x.sz x.k size i) :
    Calls Try.prog 63 #[.pointer (some ⟨x.h, 0, none⟩), .int .i64 size] w fun e w' => e = .returned (.pointer (some ⟨(x.S i).r, 0, none⟩)) ∧ Below w.heap.size w w' := by
  have H := Lib.hid h
  have H1 := Lib.hid (class_for x T D R top par L w h size i hC)
  clear h
  go_enter Try.func63, Try.ntmps63
  go_wp2_with fail
  refine H1.out.mono ?_
  rintro e w2 ⟨rfl, hb⟩
  have HB := Lib.hid (And.intro hb (H.out.later hb))
  clear hb H1
  by_cases hi : i < x.k
  · rw [if_pos hi]
    have hx := (Below.refl w2.heap.size w2).alloc (Nat.le_refl _) (.cells #[.int .i64 (x.sz i), .pointer (some ⟨(x.S i).r, 0, none⟩)] 101)
    have HX := Lib.hid (onB' HB.out.1 hx)
    clear hx
    go_wp2_with fail
    go_ret
    exact ⟨rfl, HX.out⟩
  · rw [if_neg hi]
    obtain rfl : i = x.k := by have := hC.le; omega
    have hx := (Below.refl w2.heap.size w2).alloc (Nat.le_refl _) (.cells #[.int .i64 0, .pointer none] 101)
    have c2 := later' hx HB.out.2.large
    have HX := Lib.hid (onB' HB.out.1 hx)
    clear hx
    go_wp2_with fail
    go_ret
    exact ⟨rfl, HX.out⟩

/-- What Shade leaves. -/
def ShadeSaid (x : HSpot) (T : Nat → Nat) (D : Nat → Int) (R : Nat → Rows) (top par : Int) (L : List (Int × Int)) (i : Nat) (c v : Int) (w : World) (e : Ending) (w' : World) : Prop :=
  e = .returned (.tuple #[.bool true, .int .i64 0]) ∧ ∃ T' D', SameBut (R i) D D' ∧ HLies x T' (putW D' c v) (fun j => if j = i then (R i).shade c else R j) top par L w' ∧ HTurn T T' w w'

theorem shade_all {R : Rows} {c b : Int} (hc : c ∈ R.frm) (h : b ∈ (R.shade c).all) : b ∈ R.all := by
  unfold Rows.all Rows.shade at *
  simp only [List.mem_append, List.mem_singleton] at *
  rcases h with h | h | (h | h) | h
  · exact Or.inl h
  · exact Or.inr (Or.inl (List.mem_of_mem_erase h))
  · exact Or.inr (Or.inr (Or.inl h))
  · subst h; exact Or.inr (Or.inl hc)
  · exact Or.inr (Or.inr (Or.inr h))

set_option maxHeartbeats 8000000 in
set_option maxRecDepth 100000 in
theorem hshade_any (x : HSpot) (T : Nat → Nat) (D : Nat → Int) (R : Nat → Rows) (top par : Int) (L : List (Int × Int)) (w : World) (h : HLies x T D R top par L w) (hI : HInv x D R top L) (i : Nat) (c k s a m : Int) (hC : Cls x.sz x.k s i) (hc : c ∈ (R i).frm) (hd : Head D c k s a m) (hm : m ≠ par) (hp : par = 0 ∨ par = 1) :
    Calls Try.prog 24 #[.pointer (some ⟨x.h, 0, none⟩), .int .i64 c] w (ShadeSaid x T D R top par L i c (Ce.pw k s a par) w) := by
  have hca : c ∈ (R i).all := List.mem_append_right _ (List.mem_append_left _ hc)
  have hO : Obj1 x R c 0 := hI.obj hC.le hca (by have := wid_three hI i c; omega)
  have h1 := hO.one
  have h2 := hO.le
  have hwd := hO.word (by omega)
  have hpe : Ce.pe k s a par = 0 := Ce.pe_ok ⟨hd.fit.1, hd.fit.2.1, hd.fit.2.2.1, by omega⟩
  have H1 := Lib.hid (cell_any x T D R top par L w h c k s a m h1 (by omega) hd)
  have HS := Lib.hid (fun W hW => ringd_shade (x.S i) (R i) W D hW c hc)
  have HF := Lib.hid (And.intro hI.far (And.intro hwd hc))
  have HT := Lib.hid (fun T D R (hl : ∀ i, i ≤ x.k → ∀ q, Links (R i) q → (q : Int) ≠ c) W hW => turn_any x T D R top par L W hW c k s a par h1 (show c < x.n by omega) hpe hl)
  have gm : (m == par) = false := by simpa using hm
  clear h hI hca hO hwd hpe hd hc hm hp
  go_enter Try.func24, Try.ntmps24
  go_wp2_with fail
  refine H1.out.mono ?_
  rintro e w2 ⟨rfl, hS⟩
  have HS2 := Lib.hid hS
  clear hS H1
  have hx := (Below.refl w2.heap.size w2).alloc (Nat.le_refl _) (.cells #[.int .i64 k, .int .i64 s, .int .i64 a, .int .i64 m] 69)
  have hret := HS2.out.1.retag
  have hT1 : ∀ b, w2.heap.size ≤ b → retag T w2.heap.size b = 1000 := fun b hb => if_neg (by omega)
  have HX := Lib.hid (And.intro (hret.1.later hx) ((HS2.out.2.trans hret.2).trans (HTurn.of_below hx)))
  have hun := (HS2.out.1.rings i hC.le).under
  have hsz2 := HS2.out.2.size
  have HU := Lib.hid (And.intro hun (And.intro hT1 hsz2))
  have hle2 : w2.heap.size < (w2.alloc (.cells #[.int .i64 k, .int .i64 s, .int .i64 a, .int .i64 m] 69)).heap.size := by simp
  clear hret hun hT1
  generalize retag T w2.heap.size = T1 at *
  have b0 : (w2.alloc (.cells #[.int .i64 k, .int .i64 s, .int .i64 a, .int .i64 m] 69)).cell? ⟨w2.heap.size, 0, none⟩ = some (.int .i64 k) := by simp [go_sem]
  have b1 : (w2.alloc (.cells #[.int .i64 k, .int .i64 s, .int .i64 a, .int .i64 m] 69)).cell? ⟨w2.heap.size, 1, none⟩ = some (.int .i64 s) := by simp [go_sem]
  have b2 : (w2.alloc (.cells #[.int .i64 k, .int .i64 s, .int .i64 a, .int .i64 m] 69)).cell? ⟨w2.heap.size, 2, none⟩ = some (.int .i64 a) := by simp [go_sem]
  have b3 : (w2.alloc (.cells #[.int .i64 k, .int .i64 s, .int .i64 a, .int .i64 m] 69)).cell? ⟨w2.heap.size, 3, none⟩ = some (.int .i64 m) := by simp [go_sem]
  have zb : ∀ j, (w2.alloc (.cells #[.int .i64 k, .int .i64 s, .int .i64 a, .int .i64 m] 69)).frozen? ⟨w2.heap.size, j, none⟩ = false := fun j => by simp [go_sem]
  clear hx
  go_wp2_with fail
  generalize (w2.alloc (.cells #[.int .i64 k, .int .i64 s, .int .i64 a, .int .i64 m] 69)) = W at *
  have hdr := (Below.refl W.heap.size W).drew
  have HD := Lib.hid (And.intro (HX.out.1.later hdr) (HX.out.2.trans (HTurn.of_below hdr)))
  have c6 : W.drew.cell? ⟨x.h, 6, none⟩ = some (.int .i64 par) := HD.out.1.par
  replace b0 := later' hdr b0
  replace b1 := later' hdr b1
  replace b2 := later' hdr b2
  replace b3 := later' hdr b3
  replace zb : ∀ j, W.drew.frozen? ⟨w2.heap.size, j, none⟩ = false := zb
  replace hle2 : w2.heap.size < W.drew.heap.size := hle2
  clear hdr HX HS2
  go_region
  go_wp2_with fail
  generalize W.drew = V at *
  refine (ringfor_any x T1 D R top par L V HD.out.1 s i hC).mono ?_
  rintro e w5 ⟨rfl, hb5⟩
  replace b0 := later' hb5 b0
  replace b2 := later' hb5 b2
  replace b1 := later' hb5 b1
  replace b3 := later' hb5 b3
  replace zb : ∀ j, w5.frozen? ⟨w2.heap.size, j, none⟩ = false := fun j => (World.frozen?_of_block (w := V) (hb5.block w2.heap.size hle2)).trans (zb j)
  replace hle2 : w2.heap.size < w5.heap.size := Nat.lt_of_lt_of_le hle2 hb5.size
  have H5 := Lib.hid (And.intro (HD.out.1.later hb5) (HD.out.2.trans (HTurn.of_below hb5)))
  clear hb5 HD c6
  go_wp2_with fail
  refine (HS.out w5 (H5.out.1.rings i hC.le)).mono ?_
  rintro e w6 ⟨rfl, ⟨D', hR, hD'⟩, ht⟩
  have hk6 : w6.heap[w2.heap.size]? = w5.heap[w2.heap.size]? := ht.block _ hle2 (by have := HU.out.1.2.2 _ (Or.inl rfl); omega) (by have := HU.out.1.1; omega) (by have := HU.out.1.2.1; omega)
  have h6 := H5.out.1.ring hC.le hR ht (fun j hj hji q hq => hD' q (by
    rintro ⟨b, hb, hbq⟩
    obtain ⟨b', hb', hbq'⟩ := hq
    have := HF.out.1 j hj i hC.le hji b' hb' b hb
    omega))
  have H6 := Lib.hid (And.intro h6.1 (And.intro (H5.out.2.trans h6.2) hD'))
  replace b0 := (World.cell?_of_block (w := w5) (a := ⟨w2.heap.size, 0, none⟩) hk6).trans b0
  replace b1 := (World.cell?_of_block (w := w5) (a := ⟨w2.heap.size, 1, none⟩) hk6).trans b1
  replace b2 := (World.cell?_of_block (w := w5) (a := ⟨w2.heap.size, 2, none⟩) hk6).trans b2
  replace b3 := (World.cell?_of_block (w := w5) (a := ⟨w2.heap.size, 3, none⟩) hk6).trans b3
  replace zb : ∀ j, w6.frozen? ⟨w2.heap.size, j, none⟩ = false := fun j => (World.frozen?_of_block (w := w5) hk6).trans (zb j)
  have c6 := h6.1.par
  clear h6 hR hD' ht hk6 H5 HS
  go_wp2_with fail
  have hsame : ∀ b, b < w2.heap.size → (w6.setCell ⟨w2.heap.size, 3, none⟩ (.int .i64 par)).heap[b]? = w6.heap[b]? := fun b hb => Below.heap_setCell _ _ _ _ (by simp only; omega)
  have hl7 := H6.out.1.others HU.out.2.1 hsame (by simp [World.setCell])
  have ht7 : HTurn T T1 w (w6.setCell ⟨w2.heap.size, 3, none⟩ (.int .i64 par)) := by
    have h0 := H6.out.2.1
    exact ⟨h0.os, h0.tape, h0.output, by simp [World.setCell]; exact h0.size, fun b hb ht => ⟨(h0.block b hb ht).1, (hsame b (by have := HU.out.2.2; omega)).trans (h0.block b hb ht).2⟩⟩
  have H7 := Lib.hid (And.intro hl7 ht7)
  clear hl7 ht7 hsame b0 b1 b2 b3 zb c6
  generalize (w6.setCell ⟨w2.heap.size, 3, none⟩ (.int .i64 par)) = w7 at *
  refine (HT.out T1 D' (fun j => if j = i then (R i).shade c else R j) (fun j hj q hq => by
    by_cases e : j = i
    · rw [if_pos e] at hq
      obtain ⟨b, hb, hbq⟩ := hq
      exact HF.out.2.1 i hC.le q ⟨b, shade_all HF.out.2.2 hb, hbq⟩
    · rw [if_neg e] at hq
      exact HF.out.2.1 j hj q hq) w7 H7.out.1).mono ?_
  rintro e w8 ⟨rfl, hS⟩
  have H8 := Lib.hid (And.intro hS.1 (H7.out.2.trans hS.2))
  clear hS HT
  go_wp2_with fail
  refine bodyPost_ret (v := .tuple #[.bool true, .int .i64 0]) (by simp [results, Try.results24, go_sem]) rfl ?_
  exact ⟨rfl, T1, D', H6.out.2.2, H8.out.1, H8.out.2⟩

/-- One that is marked is not shaded again. -/
def NotShaded (x : HSpot) (T : Nat → Nat) (D : Nat → Int) (R : Nat → Rows) (top par : Int) (L : List (Int × Int)) (w : World) (e : Ending) (w' : World) : Prop :=
  e = .returned (.tuple #[.bool false, .int .i64 0]) ∧ Stays x T D R top par L w w'

set_option maxHeartbeats 8000000 in
set_option maxRecDepth 100000 in
theorem hshade_not (x : HSpot) (T : Nat → Nat) (D : Nat → Int) (R : Nat → Rows) (top par : Int) (L : List (Int × Int)) (w : World) (h : HLies x T D R top par L w) (c k s a : Int) (h1 : 1 ≤ c) (h2 : c < x.n) (hd : Head D c k s a par) :
    Calls Try.prog 24 #[.pointer (some ⟨x.h, 0, none⟩), .int .i64 c] w (NotShaded x T D R top par L w) := by
  have H1 := Lib.hid (cell_any x T D R top par L w h c k s a par h1 h2 hd)
  clear h hd
  go_enter Try.func24, Try.ntmps24
  go_wp2_with fail
  refine H1.out.mono ?_
  rintro e w2 ⟨rfl, hS⟩
  have HS2 := Lib.hid hS
  clear hS H1
  have hx := (Below.refl w2.heap.size w2).alloc (Nat.le_refl _) (.cells #[.int .i64 k, .int .i64 s, .int .i64 a, .int .i64 par] 69)
  have HX := Lib.hid (show Stays x T D R top par L w (w2.alloc (.cells #[.int .i64 k, .int .i64 s, .int .i64 a, .int .i64 par] 69)) from ⟨HS2.out.1.later hx, HS2.out.2.trans (HTurn.of_below hx)⟩)
  have b3 : (w2.alloc (.cells #[.int .i64 k, .int .i64 s, .int .i64 a, .int .i64 par] 69)).cell? ⟨w2.heap.size, 3, none⟩ = some (.int .i64 par) := by simp [go_sem]
  clear hx
  go_wp2_with fail
  generalize (w2.alloc (.cells #[.int .i64 k, .int .i64 s, .int .i64 a, .int .i64 par] 69)) = W at *
  have hdr := (Below.refl W.heap.size W).drew
  have HD := Lib.hid (show Stays x T D R top par L w W.drew from ⟨HX.out.1.later hdr, HX.out.2.trans (HTurn.of_below hdr)⟩)
  have c6 : W.drew.cell? ⟨x.h, 6, none⟩ = some (.int .i64 par) := HD.out.1.par
  replace b3 := later' hdr b3
  clear hdr HX HS2
  go_region
  go_wp2_with fail
  refine bodyPost_ret (v := .tuple #[.bool false, .int .i64 0]) (by simp [results, Try.results24, go_sem]) rfl ?_
  exact ⟨rfl, HD.out⟩

end Go.Proofs.Ythcgmfcibjinlaa

/- An object is done; the rows of the large ones. -/
namespace Go.Proofs.Ythcgmfcibjinlaa
open Go.RowKit

/-- What Done leaves. -/
def DoneSaid (x : HSpot) (T : Nat → Nat) (D : Nat → Int) (R : Nat → Rows) (top par : Int) (L : List (Int × Int)) (i : Nat) (w : World) (e : Ending) (w' : World) : Prop :=
  e = .returned (.int .i64 0) ∧ Stays x T D (fun j => if j = i then (R i).done else R j) top par L w w'

theorem HLies.rings_eq {x : HSpot} {T : Nat → Nat} {D : Nat → Int} {R R' : Nat → Rows} {top par : Int} {L : List (Int × Int)} {w : World} (h : HLies x T D R top par L w) (e : ∀ j, R' j = R j) : HLies x T D R' top par L w := by
  obtain rfl : R' = R := funext e
  exact h

set_option maxHeartbeats 8000000 in
set_option maxRecDepth 100000 in
theorem hdone_any (x : HSpot) (T : Nat → Nat) (D : Nat → Int) (R : Nat → Rows) (top par : Int) (L : List (Int × Int)) (w : World) (h : HLies x T D R top par L w) (i : Nat) (c k s a m : Int) (l : List Int) (hC : Cls x.sz x.k s i) (hg : (R i).grey = l ++ [c]) (hd : Head D c k s a m) (h1 : 1 ≤ c) (h2 : c < x.n) :
    Calls Try.prog 26 #[.pointer (some ⟨x.h, 0, none⟩), .int .i64 c] w (DoneSaid x T D R top par L i w) := by
  have H1 := Lib.hid (cell_any x T D R top par L w h c k s a m h1 h2 hd)
  have HN := Lib.hid (fun W hW => ringd_next (x.S i) (R i) W D hW c l hg)
  have HE := Lib.hid (fun W hW => ringd_done (x.S i) (R i) W D hW c l hg)
  clear h hd hg
  go_enter Try.func26, Try.ntmps26
  go_wp2_with fail
  refine H1.out.mono ?_
  rintro e w2 ⟨rfl, hS⟩
  have HS2 := Lib.hid hS
  clear hS H1
  have hx := (Below.refl w2.heap.size w2).alloc (Nat.le_refl _) (.cells #[.int .i64 k, .int .i64 s, .int .i64 a, .int .i64 m] 69)
  have HX := Lib.hid (show Stays x T D R top par L w (w2.alloc (.cells #[.int .i64 k, .int .i64 s, .int .i64 a, .int .i64 m] 69)) from ⟨HS2.out.1.later hx, HS2.out.2.trans (HTurn.of_below hx)⟩)
  have b1 : (w2.alloc (.cells #[.int .i64 k, .int .i64 s, .int .i64 a, .int .i64 m] 69)).cell? ⟨w2.heap.size, 1, none⟩ = some (.int .i64 s) := by simp [go_sem]
  clear hx
  go_wp2_with fail
  generalize (w2.alloc (.cells #[.int .i64 k, .int .i64 s, .int .i64 a, .int .i64 m] 69)) = W at *
  refine (ringfor_any x T D R top par L W HX.out.1 s i hC).mono ?_
  rintro e w5 ⟨rfl, hb5⟩
  have H5 := Lib.hid (show Stays x T D R top par L w w5 from ⟨HX.out.1.later hb5, HX.out.2.trans (HTurn.of_below hb5)⟩)
  clear hb5 HX HS2
  go_wp2_with fail
  refine (HN.out w5 (H5.out.1.rings i hC.le)).mono ?_
  rintro e w6 ⟨rfl, hR, ht⟩
  have h6 := H5.out.1.ring hC.le hR ht (fun _ _ _ _ _ => rfl)
  have H6 := Lib.hid (show Stays x T D R top par L w w6 from ⟨h6.1.rings_eq (fun j => by by_cases e : j = i <;> simp [e]), H5.out.2.trans h6.2⟩)
  clear h6 hR ht H5 HN
  go_wp2_with fail
  refine (HE.out w6 (H6.out.1.rings i hC.le)).mono ?_
  rintro e w7 ⟨rfl, ⟨D', hR, rfl⟩, ht⟩
  have h7 := H6.out.1.ring hC.le hR ht (fun _ _ _ _ _ => rfl)
  have H7 := Lib.hid (show Stays x T D' (fun j => if j = i then (R i).done else R j) top par L w w7 from ⟨h7.1, H6.out.2.trans h7.2⟩)
  clear h7 hR ht H6 HE
  go_wp2_with fail
  go_ret
  exact ⟨rfl, H7.out⟩

/-- What Large tells. -/
def ListSaid (x : HSpot) (T : Nat → Nat) (D : Nat → Int) (R : Nat → Rows) (top par : Int) (L : List (Int × Int)) (i : Nat) (w : World) (e : Ending) (w' : World) : Prop :=
  ∃ v0 v1 v2 v3, e = .returned (.agg #[v0, v1, v2, v3]) ∧ Row w' w.heap.size w'.heap.size v0 (R i).white ∧ Row w' w.heap.size w'.heap.size v1 (R i).frm ∧ Row w' w.heap.size w'.heap.size v2 (R i).grey ∧ Row w' w.heap.size w'.heap.size v3 (R i).black ∧ ∃ T', HLies x T' D R top par L w' ∧ HTurn T T' w w'

set_option maxHeartbeats 8000000 in
set_option maxRecDepth 100000 in
theorem hlarge_any (x : HSpot) (T : Nat → Nat) (D : Nat → Int) (R : Nat → Rows) (top par : Int) (L : List (Int × Int)) (w : World) (h : HLies x T D R top par L w) :
    Calls Try.prog 29 #[.pointer (some ⟨x.h, 0, none⟩)] w (ListSaid x T D R top par L x.k w) := by
  have hx := (Below.refl w.heap.size w).alloc (Nat.le_refl _) (.cells #[.slice none 0 0, .slice none 0 0, .slice none 0 0, .slice none 0 0] 40)
  have hret := h.retag
  have hT1 : ∀ b, w.heap.size ≤ b → retag T w.heap.size b = 1000 := fun b hb => if_neg (by omega)
  have H := Lib.hid (And.intro (hret.1.later hx) (hret.2.trans (HTurn.of_below hx)))
  have HU := Lib.hid (And.intro (h.rings x.k (Nat.le_refl _)).under hT1)
  have c2 := (h.later hx).large
  have hz : (w.alloc (.cells #[.slice none 0 0, .slice none 0 0, .slice none 0 0, .slice none 0 0] 40)).heap.size = w.heap.size + 1 := by simp
  have b0 : (w.alloc (.cells #[.slice none 0 0, .slice none 0 0, .slice none 0 0, .slice none 0 0] 40)).cell? ⟨w.heap.size, 0, none⟩ = some (.slice none 0 0) := by simp [go_sem]
  have b1 : (w.alloc (.cells #[.slice none 0 0, .slice none 0 0, .slice none 0 0, .slice none 0 0] 40)).cell? ⟨w.heap.size, 1, none⟩ = some (.slice none 0 0) := by simp [go_sem]
  have b2 : (w.alloc (.cells #[.slice none 0 0, .slice none 0 0, .slice none 0 0, .slice none 0 0] 40)).cell? ⟨w.heap.size, 2, none⟩ = some (.slice none 0 0) := by simp [go_sem]
  have b3 : (w.alloc (.cells #[.slice none 0 0, .slice none 0 0, .slice none 0 0, .slice none 0 0] 40)).cell? ⟨w.heap.size, 3, none⟩ = some (.slice none 0 0) := by simp [go_sem]
  have zb : ∀ j, (w.alloc (.cells #[.slice none 0 0, .slice none 0 0, .slice none 0 0, .slice none 0 0] 40)).frozen? ⟨w.heap.size, j, none⟩ = false := fun j => by simp [go_sem]
  clear h hx hret hT1
  generalize retag T w.heap.size = T1 at *
  go_enter Try.func29, Try.ntmps29
  go_wp2_with fail
  generalize (w.alloc (.cells #[.slice none 0 0, .slice none 0 0, .slice none 0 0, .slice none 0 0] 40)) = W at *
  refine (ringd_list (x.S x.k) (R x.k) W D (H.out.1.rings x.k (Nat.le_refl _))).mono ?_
  rintro e w2 ⟨v0, v1, v2, v3, rfl, r0, r1, r2, r3, hR, ht⟩
  have q0 := r0
  have q1 := r1
  have q2 := r2
  have q3 := r3
  obtain ⟨o0, n0, rfl, -⟩ := q0
  obtain ⟨o1, n1, rfl, -⟩ := q1
  obtain ⟨o2, n2, rfl, -⟩ := q2
  obtain ⟨o3, n3, rfl, -⟩ := q3
  have h6 := H.out.1.ring (Nat.le_refl x.k) hR ht (fun _ _ _ _ _ => rfl)
  have hk6 : w2.heap[w.heap.size]? = W.heap[w.heap.size]? := ht.block _ (by omega) (by have := HU.out.1.2.2 _ (Or.inl rfl); omega) (by have := HU.out.1.1; omega) (by have := HU.out.1.2.1; omega)
  have H6 := Lib.hid (And.intro (And.intro r0 (And.intro r1 (And.intro r2 r3))) (And.intro (h6.1.rings_eq (R' := R) (fun j => by by_cases e : j = x.k <;> simp [e])) (And.intro (H.out.2.trans h6.2) h6.2.size)))
  replace b0 := (World.cell?_of_block (w := W) (a := ⟨w.heap.size, 0, none⟩) hk6).trans b0
  replace b1 := (World.cell?_of_block (w := W) (a := ⟨w.heap.size, 1, none⟩) hk6).trans b1
  replace b2 := (World.cell?_of_block (w := W) (a := ⟨w.heap.size, 2, none⟩) hk6).trans b2
  replace b3 := (World.cell?_of_block (w := W) (a := ⟨w.heap.size, 3, none⟩) hk6).trans b3
  replace zb : ∀ j, w2.frozen? ⟨w.heap.size, j, none⟩ = false := fun j => (World.frozen?_of_block (w := W) hk6).trans (zb j)
  clear h6 r0 r1 r2 r3 hR ht c2 hk6
  go_wp2_with fail
  have hsame : ∀ b, b ≠ w.heap.size → ((((w2.setCell ⟨w.heap.size, 0, none⟩ (.slice o0 (R x.k).white.length ((R x.k).white.length + n0))).setCell ⟨w.heap.size, 1, none⟩ (.slice o1 (R x.k).frm.length ((R x.k).frm.length + n1))).setCell ⟨w.heap.size, 2, none⟩ (.slice o2 (R x.k).grey.length ((R x.k).grey.length + n2))).setCell ⟨w.heap.size, 3, none⟩ (.slice o3 (R x.k).black.length ((R x.k).black.length + n3))).heap[b]? = w2.heap[b]? := fun b hb => by
    rw [Below.heap_setCell _ _ _ _ hb, Below.heap_setCell _ _ _ _ hb, Below.heap_setCell _ _ _ _ hb, Below.heap_setCell _ _ _ _ hb]
  have hvz : ((((w2.setCell ⟨w.heap.size, 0, none⟩ (.slice o0 (R x.k).white.length ((R x.k).white.length + n0))).setCell ⟨w.heap.size, 1, none⟩ (.slice o1 (R x.k).frm.length ((R x.k).frm.length + n1))).setCell ⟨w.heap.size, 2, none⟩ (.slice o2 (R x.k).grey.length ((R x.k).grey.length + n2))).setCell ⟨w.heap.size, 3, none⟩ (.slice o3 (R x.k).black.length ((R x.k).black.length + n3))).heap.size = w2.heap.size := by simp [World.setCell]
  have e0 : ((((w2.setCell ⟨w.heap.size, 0, none⟩ (.slice o0 (R x.k).white.length ((R x.k).white.length + n0))).setCell ⟨w.heap.size, 1, none⟩ (.slice o1 (R x.k).frm.length ((R x.k).frm.length + n1))).setCell ⟨w.heap.size, 2, none⟩ (.slice o2 (R x.k).grey.length ((R x.k).grey.length + n2))).setCell ⟨w.heap.size, 3, none⟩ (.slice o3 (R x.k).black.length ((R x.k).black.length + n3))).cell? ⟨w.heap.size, 0, none⟩ = some (.slice o0 (R x.k).white.length ((R x.k).white.length + n0)) := by
    rw [World.cell?_setCell_other _ _ _ _ (by simp), World.cell?_setCell_other _ _ _ _ (by simp), World.cell?_setCell_other _ _ _ _ (by simp)]
    exact World.cell?_setCell_same _ _ _ b0
  have e1 : ((((w2.setCell ⟨w.heap.size, 0, none⟩ (.slice o0 (R x.k).white.length ((R x.k).white.length + n0))).setCell ⟨w.heap.size, 1, none⟩ (.slice o1 (R x.k).frm.length ((R x.k).frm.length + n1))).setCell ⟨w.heap.size, 2, none⟩ (.slice o2 (R x.k).grey.length ((R x.k).grey.length + n2))).setCell ⟨w.heap.size, 3, none⟩ (.slice o3 (R x.k).black.length ((R x.k).black.length + n3))).cell? ⟨w.heap.size, 1, none⟩ = some (.slice o1 (R x.k).frm.length ((R x.k).frm.length + n1)) := by
    rw [World.cell?_setCell_other _ _ _ _ (by simp), World.cell?_setCell_other _ _ _ _ (by simp)]
    refine World.cell?_setCell_same _ _ _ (u := .slice none 0 0) ?_
    rw [World.cell?_setCell_other _ _ _ _ (by simp)]
    exact b1
  have e2 : ((((w2.setCell ⟨w.heap.size, 0, none⟩ (.slice o0 (R x.k).white.length ((R x.k).white.length + n0))).setCell ⟨w.heap.size, 1, none⟩ (.slice o1 (R x.k).frm.length ((R x.k).frm.length + n1))).setCell ⟨w.heap.size, 2, none⟩ (.slice o2 (R x.k).grey.length ((R x.k).grey.length + n2))).setCell ⟨w.heap.size, 3, none⟩ (.slice o3 (R x.k).black.length ((R x.k).black.length + n3))).cell? ⟨w.heap.size, 2, none⟩ = some (.slice o2 (R x.k).grey.length ((R x.k).grey.length + n2)) := by
    rw [World.cell?_setCell_other _ _ _ _ (by simp)]
    refine World.cell?_setCell_same _ _ _ (u := .slice none 0 0) ?_
    rw [World.cell?_setCell_other _ _ _ _ (by simp), World.cell?_setCell_other _ _ _ _ (by simp)]
    exact b2
  have e3 : ((((w2.setCell ⟨w.heap.size, 0, none⟩ (.slice o0 (R x.k).white.length ((R x.k).white.length + n0))).setCell ⟨w.heap.size, 1, none⟩ (.slice o1 (R x.k).frm.length ((R x.k).frm.length + n1))).setCell ⟨w.heap.size, 2, none⟩ (.slice o2 (R x.k).grey.length ((R x.k).grey.length + n2))).setCell ⟨w.heap.size, 3, none⟩ (.slice o3 (R x.k).black.length ((R x.k).black.length + n3))).cell? ⟨w.heap.size, 3, none⟩ = some (.slice o3 (R x.k).black.length ((R x.k).black.length + n3)) := by
    refine World.cell?_setCell_same _ _ _ (u := .slice none 0 0) ?_
    rw [World.cell?_setCell_other _ _ _ _ (by simp), World.cell?_setCell_other _ _ _ _ (by simp), World.cell?_setCell_other _ _ _ _ (by simp)]
    exact b3
  have hl7 := H6.out.2.1.others (z := w.heap.size) HU.out.2 (fun b hb => hsame b (by omega)) (by rw [hvz]; exact Nat.le_refl _)
  have ht7 : HTurn T T1 w ((((w2.setCell ⟨w.heap.size, 0, none⟩ (.slice o0 (R x.k).white.length ((R x.k).white.length + n0))).setCell ⟨w.heap.size, 1, none⟩ (.slice o1 (R x.k).frm.length ((R x.k).frm.length + n1))).setCell ⟨w.heap.size, 2, none⟩ (.slice o2 (R x.k).grey.length ((R x.k).grey.length + n2))).setCell ⟨w.heap.size, 3, none⟩ (.slice o3 (R x.k).black.length ((R x.k).black.length + n3))) := by
    have h0 := H6.out.2.2.1
    exact ⟨h0.os, h0.tape, h0.output, by rw [hvz]; exact h0.size, fun b hb ht => ⟨(h0.block b hb ht).1, (hsame b (by omega)).trans (h0.block b hb ht).2⟩⟩
  have hrow : ∀ v l, Row w2 W.heap.size w2.heap.size v l → Row ((((w2.setCell ⟨w.heap.size, 0, none⟩ (.slice o0 (R x.k).white.length ((R x.k).white.length + n0))).setCell ⟨w.heap.size, 1, none⟩ (.slice o1 (R x.k).frm.length ((R x.k).frm.length + n1))).setCell ⟨w.heap.size, 2, none⟩ (.slice o2 (R x.k).grey.length ((R x.k).grey.length + n2))).setCell ⟨w.heap.size, 3, none⟩ (.slice o3 (R x.k).black.length ((R x.k).black.length + n3))) w.heap.size ((((w2.setCell ⟨w.heap.size, 0, none⟩ (.slice o0 (R x.k).white.length ((R x.k).white.length + n0))).setCell ⟨w.heap.size, 1, none⟩ (.slice o1 (R x.k).frm.length ((R x.k).frm.length + n1))).setCell ⟨w.heap.size, 2, none⟩ (.slice o2 (R x.k).grey.length ((R x.k).grey.length + n2))).setCell ⟨w.heap.size, 3, none⟩ (.slice o3 (R x.k).black.length ((R x.k).black.length + n3))).heap.size v l := fun v l hr => by
    rw [hvz]
    exact (hr.same (W' := ((((w2.setCell ⟨w.heap.size, 0, none⟩ (.slice o0 (R x.k).white.length ((R x.k).white.length + n0))).setCell ⟨w.heap.size, 1, none⟩ (.slice o1 (R x.k).frm.length ((R x.k).frm.length + n1))).setCell ⟨w.heap.size, 2, none⟩ (.slice o2 (R x.k).grey.length ((R x.k).grey.length + n2))).setCell ⟨w.heap.size, 3, none⟩ (.slice o3 (R x.k).black.length ((R x.k).black.length + n3)))) (fun b o hb _ ho _ => (hsame b (by omega)).trans ho)).mono (by omega) (Nat.le_refl _)
  have HE := Lib.hid (show ListSaid x T D R top par L x.k w (.returned (.agg #[.slice o0 (R x.k).white.length ((R x.k).white.length + n0), .slice o1 (R x.k).frm.length ((R x.k).frm.length + n1), .slice o2 (R x.k).grey.length ((R x.k).grey.length + n2), .slice o3 (R x.k).black.length ((R x.k).black.length + n3)])) ((((w2.setCell ⟨w.heap.size, 0, none⟩ (.slice o0 (R x.k).white.length ((R x.k).white.length + n0))).setCell ⟨w.heap.size, 1, none⟩ (.slice o1 (R x.k).frm.length ((R x.k).frm.length + n1))).setCell ⟨w.heap.size, 2, none⟩ (.slice o2 (R x.k).grey.length ((R x.k).grey.length + n2))).setCell ⟨w.heap.size, 3, none⟩ (.slice o3 (R x.k).black.length ((R x.k).black.length + n3))) from ⟨_, _, _, _, rfl, hrow _ _ H6.out.1.1, hrow _ _ H6.out.1.2.1, hrow _ _ H6.out.1.2.2.1, hrow _ _ H6.out.1.2.2.2, T1, hl7, ht7⟩)
  refine bodyPost_ret (v := .agg #[.slice o0 (R x.k).white.length ((R x.k).white.length + n0), .slice o1 (R x.k).frm.length ((R x.k).frm.length + n1), .slice o2 (R x.k).grey.length ((R x.k).grey.length + n2), .slice o3 (R x.k).black.length ((R x.k).black.length + n3)]) ?_ rfl HE.out
  simp [results, Try.results29, go_sem, e0, e1, e2, e3]

end Go.Proofs.Ythcgmfcibjinlaa

/- A range over the rings that may stop early; the heap's Next. -/
namespace Go.Proofs.Ythcgmfcibjinlaa
open Go.RowKit Go.Shelf

attribute [local go_sem] Oper.semAt_some

/-- A body that goes on, or returns. -/
def goesOrStops (T X : World → Prop) : Exit → Act → World → Prop
  | .normal, _, W => T W
  | .ret, _, W => X W
  | _, _, _ => False

section
variable {P : Program} {n : Nat}

set_option maxHeartbeats 1000000 in
theorem range_until {α : Type} {g : Operand} {ps : Array Tmp} {assign body : Code} {Q : Exit → Act → World → Prop} {a : Act} {w : World} {gf : Nat} {lb : Array Value}
    (hg : a.eval g = .func (.func gf) #[] lb) (eg : ∀ args w, (callFunc gf args).run P w = .ok (.enter gf args) w)
    (encs : α → Array Value) (hps : ∀ x, (encs x).size = ps.size) (xs : List α) (I : List α → World → Prop) (X : World → Prop)
    (hput : ∀ pre W l o o', I pre W → w.heap.size ≤ l → W.heap[l]? = some o → o.isCells = false → I pre (W.putObj l o'))
    (hputX : ∀ W l o o', X W → w.heap.size ≤ l → W.heap[l]? = some o → o.isCells = false → X (W.putObj l o'))
    (h0 : ∀ o o', I [] ((w.alloc o).alloc o')) (a₁ : α → Act)
    (hassign : ∀ (l : Nat) (x : α) (W : World) (K : Act → World → Prop), K (a₁ x) W →
      assign.wpIn (Fence.wide.inRound l) (n - 1 - 1) P (Exit.then K (fun _ _ _ => False)) { tmps := (ps.zip (encs x)).foldl (fun t (p, v) => t.setIfInBounds p v) a.tmps, defers := [] } W)
    (hbody : ∀ (l : Nat) (pre : List α) (x : α) (W : World), I pre W → pre ++ [x] <+: xs → body.wpIn (Fence.wide.inRound l) (n - 1 - 1) P (goesOrStops (fun W' => KeepsOthers W W' ∧ I (pre ++ [x]) W') (fun W' => KeepsOthers W W' ∧ X W')) (a₁ x) W)
    (hiter : ∀ (r rx : Obj) (W1 : World),
      (∀ pre x W, I pre W → Book w.heap.size r W → pre ++ [x] <+: xs → YieldAt Fence.wide (n - 1 - 1) P (w.heap.size + 1) (encs x) W fun e W' => (e = .returned (.bool true) ∧ I (pre ++ [x]) W' ∧ Book w.heap.size r W') ∨ (e = .returned (.bool false) ∧ X W' ∧ Book w.heap.size rx W')) →
      I [] W1 → Book w.heap.size r W1 →
      CallsIn Fence.wide (n - 1) P gf (#[.func (.yield (w.heap.size + 1)) #[] #[]] ++ lb) W1 fun e W' => (∃ v, e = .returned v) ∧ ((I xs W' ∧ Book w.heap.size r W') ∨ (X W' ∧ Book w.heap.size rx W')))
    (hdone : ∀ (D : Nat) (W : World), w.heap.size ≤ D → I xs W → W.heap[D]? = some (.deferred (some [])) → Q .normal { a with defers := { target := .collected D, args := #[] } :: a.defers } W)
    (hstop : ∀ (D : Nat) (W : World), w.heap.size ≤ D → X W → W.heap[D]? = some (.deferred (some [])) → Code.ret.wpIn Fence.wide n P Q { a with defers := { target := .collected D, args := #[] } :: a.defers } W) :
    (Code.rangeFunc g ps assign body).wpIn Fence.wide n P Q a w := by
  refine wpIn_rangeFunc ?_
  intro fn hfn
  let L : LoopState → Loop := fun st => { state := st, pending := none, fn, tmps := a.tmps, params := ps, assign, body, defers := w.heap.size }
  have hrec : ∀ o : Obj, ((w.alloc o).alloc (.loop (L .ready))).heap[w.heap.size + 1]? = some (.loop (L .ready)) := fun o => by
    have := World.alloc_heap_new (w.alloc o) (.loop (L .ready))
    rwa [World.size_alloc] at this
  have hdef : ((w.alloc (.deferred (some []))).alloc (.loop (L .ready))).heap[w.heap.size]? = some (.deferred (some [])) :=
    (Below.heap_alloc _ _ _ (by simp)).trans (World.alloc_heap_new w _)
  refine ⟨w.heap.size + 1, [{ target := .collected w.heap.size, args := #[] }], (w.alloc (.deferred (some []))).alloc (.loop (L .ready)), { target := .fn (.func gf) lb, args := #[.func (.yield (w.heap.size + 1)) #[] #[]] }, (w.alloc (.deferred (some []))).alloc (.loop (L .ready)), gf,
    #[.func (.yield (w.heap.size + 1)) #[] #[]] ++ lb, (w.alloc (.deferred (some []))).alloc (.loop (L .ready)), run_enterLoop_outer _ _ _ _ _, ?_, fun (_ : FuncId) _ => trivial, ?_, fun h => (by cases h), ?_⟩
  · simp only [resolve, hg]
    simp [go_sem]
  · simp [invoke, go_sem, eg, L]
  refine (hiter (.loop (L .ready)) (.loop { L .done with pending := some .ret }) _ ?_ (h0 _ _) ⟨hrec _, hdef⟩).mono ?_
  · intro pre x W hi hb hx
    have hy := run_yield (P := P) (args := encs x) hb.turns (hps x)
    refine ⟨fn, _, assign, body, hy, roundIn_of_wpIn hfn (hassign _ x W _ ⟨_, run_beginRound hb.turns rfl, ?_⟩)⟩
    have hb1 : (W.putObj (w.heap.size + 1) (.loop { L .ready with state := .busy })).heap[w.heap.size + 1]? = some (.loop (L .busy)) := World.putObj_heap_same hb.lt
    have hb2 : (W.putObj (w.heap.size + 1) (.loop { L .ready with state := .busy })).heap[w.heap.size]? = some (.deferred (some [])) := (World.putObj_heap_other (by omega)).trans hb.late
    refine wpIn_mono (hbody _ pre x _ (hput _ _ _ _ _ hi (by omega) hb.turns rfl) hx) ?_
    intro e a3 W3 hp
    cases e with
    | normal =>
      obtain ⟨hk, hi3⟩ := hp
      have h1 := hk.same _ _ hb1 rfl
      have h2 := hk.same _ _ hb2 rfl
      exact ⟨_, _, run_endRound (P := P) none h1, .inl ⟨rfl, hput _ _ _ _ _ hi3 (by omega) h1 rfl, World.putObj_heap_same (Array.getElem?_eq_some_iff.1 h1).1, (World.putObj_heap_other (by omega)).trans h2⟩⟩
    | ret =>
      obtain ⟨hk, hx3⟩ := hp
      have h1 := hk.same _ _ hb1 rfl
      have h2 := hk.same _ _ hb2 rfl
      exact ⟨_, _, run_endRound (P := P) (some .ret) h1, .inr ⟨rfl, hputX _ _ _ _ hx3 (by omega) h1 rfl, World.putObj_heap_same (Array.getElem?_eq_some_iff.1 h1).1, (World.putObj_heap_other (by omega)).trans h2⟩⟩
    | exit id => exact hp.elim
    | goto t => exact hp.elim
    | panic ch => exact hp.elim
    | outgrown => exact hp.elim
  · rintro e W2 ⟨⟨v, rfl⟩, (⟨hi, hb⟩ | ⟨hx, hb⟩)⟩
    · exact ⟨none, _, run_endLoop (P := P) hb.turns (by simp [L]), hdone _ _ (Nat.le_refl _) (hput _ _ _ _ _ hi (by omega) hb.turns rfl) ((World.putObj_heap_other (by omega)).trans hb.late)⟩
    · exact ⟨some .ret, _, run_endLoop (P := P) hb.turns (by simp), hstop _ _ (Nat.le_refl _) (hputX _ _ _ _ hx (by omega) hb.turns rfl) ((World.putObj_heap_other (by omega)).trans hb.late)⟩
end

set_option maxRecDepth 100000 in
set_option maxHeartbeats 4000000 in
theorem rings_until (n : Nat) (hn : 2 ≤ n) (l bx : Nat) (x : HSpot) (k6 : x.k ≤ 6) (J : Nat → World → Prop) (X : World → Prop) (cb cap : Nat)
    (hJ : ∀ m W, J m W → W.cell? ⟨bx, 0, none⟩ = some (.pointer (some ⟨x.h, 0, none⟩)) ∧ W.cell? ⟨x.h, 2, none⟩ = some (.pointer (some ⟨(x.S x.k).r, 0, none⟩)) ∧ W.cell? ⟨x.h, 1, none⟩ = some (.slice (some ⟨cb, 0, none⟩) x.k cap) ∧
      ∀ i, i < x.k → W.cell? ⟨cb, i * 2, none⟩ = some (.int .i64 (x.sz i)) ∧ W.cell? ⟨cb, i * 2 + 1, none⟩ = some (.pointer (some ⟨(x.S i).r, 0, none⟩)))
    (hA : ∀ m W o, J m W → J m (W.alloc o))
    (hY : ∀ m W, J m W → m ≤ x.k → YieldAt Fence.wide (n - 1) Try.prog l #[.pointer (some ⟨(x.S m).r, 0, none⟩)] W fun e W' => (e = .returned (.bool true) ∧ J (m + 1) W') ∨ (e = .returned (.bool false) ∧ X W'))
    (W : World) (h0 : J 0 W) :
    CallsIn Fence.wide n Try.prog 90 #[.func (.yield l) #[] #[], .pointer (some ⟨bx, 0, none⟩)] W fun e W' => (∃ v, e = .returned v) ∧ (J (x.k + 1) W' ∨ X W') := by
  obtain ⟨hb0, hl0, hc0, -⟩ := hJ _ _ h0
  have h1n : 1 ≤ n := by omega
  have HJ := Lib.hid hJ
  have HA := Lib.hid hA
  have HY := Lib.hid hY
  have H0 := Lib.hid h0
  clear hJ hA hY h0 hl0
  refine callsIn_of_wp Try.func90 rfl trivial ?_ rfl
  simp only [Try.ntmps90, List.size_toArray, List.length_cons, List.length_nil, Nat.reduceAdd, Nat.reduceSub, Array.replicate_succ, Array.replicate_zero, List.push_toArray, List.append_toArray, List.nil_append, List.cons_append]
  gi_wp2_with fail
  clear hb0 hc0
  gi_loopw [10] (fun s10 wr => ∃ m : Nat, m ≤ x.k ∧ s10 = .int .i64 m ∧ J m wr) (fun s10 _ => x.k - (intOf s10).toNat)
  case atStart => exact ⟨0, Nat.zero_le _, rfl, H0.out⟩
  case round =>
    obtain ⟨m, hm, rfl, hj⟩ := hrel
    have HJM := Lib.hid hj
    obtain ⟨b0, l0, c1, hcs⟩ := HJ.out _ _ hj
    clear hj
    by_cases hlt : m < x.k
    · have hlt' : (m : Int) < (x.k : Int) := by omega
      obtain ⟨d0, d1⟩ := hcs m hlt
      have hja := HA.out m wr (.cells #[.int .i64 (x.sz m), .pointer (some ⟨(x.S m).r, 0, none⟩)] 101) HJM.out
      obtain ⟨fn, tmps, assign, body, hyy, hRR⟩ := HY.out _ _ hja (by omega)
      clear hcs
      gi_wp2_with fail
      refine hRR.mono ?_
      rintro e W3 (⟨rfl, hj3⟩ | ⟨rfl, hj3⟩)
      · have HJ3 := Lib.hid hj3
        clear hRR hyy hj3 hja
        gi_wp2_with fail
        exact ⟨⟨m + 1, by omega, by go_num, HJ3.out⟩, by simp [intOf]; omega⟩
      · have HJ3 := Lib.hid hj3
        clear hRR hyy hj3 hja
        gi_wp2_with fail
        refine bodyPost_ret (v := .tuple #[]) (by simp [results, Try.results90, go_sem]) rfl ?_
        exact ⟨⟨_, rfl⟩, Or.inr HJ3.out⟩
    · obtain rfl : m = x.k := by omega
      obtain ⟨fn, tmps, assign, body, hyy, hRR⟩ := HY.out _ _ HJM.out (Nat.le_refl _)
      clear hcs
      gi_wp2_with fail
      refine hRR.mono ?_
      rintro e W3 (⟨rfl, hj3⟩ | ⟨rfl, hj3⟩)
      · have HJ3 := Lib.hid hj3
        clear hRR hyy hj3
        gi_wp2_with fail
        go_end0
        exact ⟨⟨_, rfl⟩, Or.inl HJ3.out⟩
      · have HJ3 := Lib.hid hj3
        clear hRR hyy hj3
        gi_wp2_with fail
        go_end0
        exact ⟨⟨_, rfl⟩, Or.inr HJ3.out⟩

end Go.Proofs.Ythcgmfcibjinlaa
