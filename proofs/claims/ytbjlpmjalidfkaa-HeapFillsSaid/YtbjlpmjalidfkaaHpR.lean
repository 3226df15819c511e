/- No ring has a cell of a colour. -/
import Derived.Test.YtbjlpmjalidfkaaHpQ
namespace Go.Proofs.Ytbjlpmjalidfkaa
open Go.RowKit Go.Shelf

attribute [local go_sem] Oper.semAt_some

/-- In the midst of has. -/
structure HasI (x : HSpot) (T : Nat → Nat) (D : Nat → Int) (R : Nat → Rows) (top par : Int) (L : List (Int × Int)) (c : Int) (cb cap : Nat) (w : World) (W : World) : Prop where
  lies : HLies x T D R top par L W
  b0 : W.cell? ⟨w.heap.size, 0, none⟩ = some (.int .i64 c)
  b1 : W.cell? ⟨w.heap.size + 1, 0, none⟩ = some (.bool false)
  z1 : ∀ j, W.frozen? ⟨w.heap.size + 1, j, none⟩ = false
  b2 : W.cell? ⟨w.heap.size + 1 + 1, 0, none⟩ = some (.pointer (some ⟨x.h, 0, none⟩))
  cl : W.cell? ⟨x.h, 1, none⟩ = some (.slice (some ⟨cb, 0, none⟩) x.k cap)
  turn : HTurn T T w W
  size : w.heap.size + 3 ≤ W.heap.size
theorem HasI.same {x : HSpot} {T : Nat → Nat} {D : Nat → Int} {R : Nat → Rows} {top par : Int} {L : List (Int × Int)} {c : Int} {cb cap : Nat} {w W W' : World} (h : HasI x T D R top par L c cb cap w W) (hT : ∀ b, w.heap.size ≤ b → T b = 1000) (hk : ∀ b, b < w.heap.size + 3 → W'.heap[b]? = W.heap[b]?) (hs : W.heap.size ≤ W'.heap.size)
    (h1 : W'.os = W.os) (h2 : W'.tape = W.tape) (h3 : W'.output = W.output) : HasI x T D R top par L c cb cap w W' := by
  have o : ∀ b j v, b < w.heap.size + 3 → W.cell? ⟨b, j, none⟩ = some v → W'.cell? ⟨b, j, none⟩ = some v := fun b j v hb hv => (World.cell?_of_block (w := W) (hk b hb)).trans hv
  obtain ⟨_, _, _, ht, _⟩ := h.lies.rest
  have hh : x.h < w.heap.size := Nat.lt_of_not_le fun e => by have := hT _ e; rw [ht.h] at this; omega
  exact ⟨h.lies.others hT (fun b hb => hk b (by omega)) hs, o _ _ _ (by omega) h.b0, o _ _ _ (by omega) h.b1, fun j => (World.frozen?_of_block (w := W) (hk (w.heap.size + 1) (by omega))).trans (h.z1 j), o _ _ _ (by omega) h.b2, o _ _ _ (by omega) h.cl,
    ⟨h1.trans h.turn.os, h2.trans h.turn.tape, h3.trans h.turn.output, Nat.le_trans h.turn.size hs, fun b hb ht => ⟨ht, (hk b (by omega)).trans (h.turn.block b hb ht).2⟩⟩, Nat.le_trans h.size hs⟩
theorem HasI.seen {x : HSpot} {T : Nat → Nat} {D : Nat → Int} {R : Nat → Rows} {top par : Int} {L : List (Int × Int)} {c : Int} {cb cap : Nat} {w W : World} (h : HasI x T D R top par L c cb cap w W) :
    ∀ i, i < x.k → W.cell? ⟨cb, i * 2, none⟩ = some (.int .i64 (x.sz i)) ∧ W.cell? ⟨cb, i * 2 + 1, none⟩ = some (.pointer (some ⟨(x.S i).r, 0, none⟩)) := by
  obtain ⟨cb', cap', g, -, hc, hcs, -⟩ := h.lies.rest
  have e := hc.symm.trans h.cl
  simp only [Option.some.injEq, Value.slice.injEq, Addr.mk.injEq, and_true, true_and] at e
  obtain ⟨rfl, _⟩ := e
  exact hcs

def NoneSaid (x : HSpot) (T : Nat → Nat) (D : Nat → Int) (R : Nat → Rows) (top par : Int) (L : List (Int × Int)) (w : World) (e : Ending) (w' : World) : Prop :=
  e = .returned (.bool false) ∧ ∃ T', HLies x T' D R top par L w' ∧ HTurn T T' w w'

set_option maxRecDepth 100000 in
set_option maxHeartbeats 8000000 in
theorem has_none (x : HSpot) (T : Nat → Nat) (D : Nat → Int) (R : Nat → Rows) (top par : Int) (L : List (Int × Int)) (w : World) (h : HLies x T D R top par L w) (c : Nat) (hc4 : c < 4) (hR : ∀ i, i ≤ x.k → (R i).row c = []) :
    Calls Try.prog 61 #[.pointer (some ⟨x.h, 0, none⟩), .int .i64 c] w (NoneSaid x T D R top par L w) := by
  have H := Lib.hid h
  have HRR := Lib.hid hR
  clear h hR
  refine (callsIn_wide (n := 4)).1 ?_
  refine callsIn_of_wp_marks Try.func61 rfl trivial ?_ rfl
  simp only [Try.ntmps61, List.size_toArray, List.length_cons, List.length_nil, Nat.reduceAdd, Nat.reduceSub, Array.replicate_succ, Array.replicate_zero, List.push_toArray, List.append_toArray, List.nil_append, List.cons_append]
  gi_wp2_with fail
  refine ⟨trivial, ?_⟩
  refine (callsIn_wide.2 (rings_any x.h _)).mono ?_
  rintro e w' ⟨rfl, rfl⟩
  gi_wp2_with fail
  obtain ⟨cb, cap, g, hTg, hcl, -, -⟩ := H.out.rest
  have k6 := H.out.k6
  obtain ⟨h1, t1⟩ := H.out.retag
  have hT : ∀ b, w.heap.size ≤ b → retag T w.heap.size b = 1000 := fun b hb => if_neg (by omega)
  have hb0 : Below w.heap.size w (((w.alloc (.cells #[.int .i64 c] 3)).alloc (.cells #[.bool false] 4)).alloc (.cells #[.pointer (some ⟨x.h, 0, none⟩)] 46)) := (((Below.refl _ _).alloc (Nat.le_refl _) _).alloc (by simp) _).alloc (by simp; omega) _
  have hE0 : HasI x (retag T w.heap.size) D R top par L c cb cap w (((w.alloc (.cells #[.int .i64 c] 3)).alloc (.cells #[.bool false] 4)).alloc (.cells #[.pointer (some ⟨x.h, 0, none⟩)] 46)) :=
    ⟨h1.later hb0, by simp [go_sem], by simp [go_sem], fun j => by simp [go_sem], by simp [go_sem], later' hb0 hcl, HTurn.of_below hb0, by simp⟩
  have hs0 : (((w.alloc (.cells #[.int .i64 c] 3)).alloc (.cells #[.bool false] 4)).alloc (.cells #[.pointer (some ⟨x.h, 0, none⟩)] 46)).heap.size = w.heap.size + 3 := by simp
  have HE0 := Lib.hid hE0
  have HT := Lib.hid (And.intro t1 hT)
  clear h1 t1 hT hb0 hE0 H hcl hTg g
  generalize (((w.alloc (.cells #[.int .i64 c] 3)).alloc (.cells #[.bool false] 4)).alloc (.cells #[.pointer (some ⟨x.h, 0, none⟩)] 46)) = w0 at *
  generalize retag T w.heap.size = T1 at *
  have hmix : Try.prog.follows .mixedOrders = true := by kernel_rfl
  refine range_by (gf := 90) (lb := #[.pointer (some ⟨w.heap.size + 1 + 1, 0, none⟩)]) rfl (enters_of Try.func90 (by kernel_rfl) rfl) (fun i : Nat => #[.pointer (some ⟨(x.S i).r, 0, none⟩)]) (fun _ => rfl) (List.range (x.k + 1)) (fun _ W => HasI x T1 D R top par L c cb cap w W) ?hput ?h0
    (fun i => { tmps := #[.pointer (some ⟨x.h, 0, none⟩), .int .i64 c, undef, .pointer (some ⟨w.heap.size, 0, none⟩), .pointer (some ⟨w.heap.size + 1, 0, none⟩), .pointer (some ⟨(x.S i).r, 0, none⟩), .pointer (some ⟨x.h, 0, none⟩), .func (.func 90) #[] #[.pointer (some ⟨w.heap.size + 1 + 1, 0, none⟩)], .pointer (some ⟨(x.S i).r, 0, none⟩), undef, undef, undef, undef, undef], defers := [] }) ?assign ?body ?iter ?done
  case hput =>
    intro pre W l o o' hm hl ho hoc
    exact hm.same HT.out.2 (fun b hb => World.putObj_heap_other (by omega)) (by simp) rfl rfl rfl
  case h0 =>
    intro o o'
    have hb := ((Below.refl w0.heap.size w0).alloc (Nat.le_refl _) o).alloc (by simp) o'
    exact HE0.out.same HT.out.2 (fun b hb' => hb.block b (by omega)) hb.size hb.os hb.tape hb.output
  case assign =>
    intro l y W K hK
    gi_wp2
    exact hK
  case body =>
    intro l pre y W hm hp
    obtain ⟨rfl, hlt⟩ := prefix_range hp
    clear hp
    generalize pre.length = m at *
    have hb := hm.b0
    have hrow := HRR.out m (by omega)
    have hcnt := ring_counts (x.S m) (R m) W.drew ((hm.lies.rings m (by omega)).later (Below.refl W.heap.size W).drew).ring
    have hpi : ∀ W, (Instr.index 128 (.agg #[.int .i64 (R m).white.length, .int .i64 (R m).frm.length, .int .i64 (R m).grey.length, .int .i64 (R m).black.length]) (.int .i64 c)).run Try.prog W = .ok (.int .i64 0) W := fun W => by
      have := pick4 (R m).white.length (R m).frm.length (R m).grey.length (R m).black.length c hc4 W
      rw [this]
      obtain rfl | rfl | rfl | rfl : c = 0 ∨ c = 1 ∨ c = 2 ∨ c = 3 := by omega
      all_goals (simp only [Rows.row] at hrow; simp [hrow])
    have HC := Lib.hid hcnt
    have HM := Lib.hid hm
    generalize ((R m).white.length : Int) = n0 at *
    generalize ((R m).frm.length : Int) = n1 at *
    generalize ((R m).grey.length : Int) = n2 at *
    generalize ((R m).black.length : Int) = n3 at *
    clear hcnt hm hrow
    gi_wp2_with fail
    gi_region_with_o (first
      | (gi_at_call 89; refine (CallsIn.inRound l (callsIn_wide.2 HC.out)).mono ?_; rintro e W3 ⟨rfl, hb3⟩; have c3 := later' hb3 hb)
      | (refine ⟨trivial, (CallsIn.inRound l (callsIn_wide.2 HC.out)).mono ?_⟩; rintro e W3 ⟨rfl, hb3⟩; have c3 := later' hb3 hb))
    all_goals gi_wp2_with fail
    all_goals exact ⟨⟨hb3.size, fun k o hk _ => (hb3.block k (Array.getElem?_eq_some_iff.1 hk).1).trans hk⟩, HM.out.same HT.out.2 (fun b hb' => hb3.block b (by have := HM.out.size; show b < W.heap.size; omega)) hb3.size hb3.os hb3.tape hb3.output⟩
  case iter =>
    intro r W1 hY h0 hB
    refine (rings_each 3 (by decide) (w0.heap.size + 1) (w.heap.size + 1 + 1) x k6 (fun m W => HasI x T1 D R top par L c cb cap w W ∧ Book w0.heap.size r W) cb cap (fun m W h => ⟨h.1.b2, h.1.lies.large, h.1.cl, h.1.seen⟩) ?_ ?_ W1 ⟨h0, hB⟩).mono ?_
    · rintro m W o ⟨hm, hb⟩
      have hbl := (Below.refl W.heap.size W).alloc (Nat.le_refl _) o
      have hlt := hb.lt
      exact ⟨hm.same HT.out.2 (fun b hb' => hbl.block b (by have := hm.size; omega)) hbl.size hbl.os hbl.tape hbl.output, hb.kept (hbl.block _ (by omega)) (hbl.block _ (by omega))⟩
    · rintro m W ⟨hm, hb⟩ hmk
      obtain ⟨fn, tmps, assign, body, h1, h2⟩ := hY (List.range m) m W hm hb (range_one hmk)
      refine ⟨fn, tmps, assign, body, h1, h2.mono ?_⟩
      rintro e W' ⟨rfl, h3, h4⟩
      exact ⟨rfl, h3, h4⟩
    · rintro e W' ⟨h1, h2, h3⟩
      exact ⟨h1, h2, h3⟩
  case done =>
    intro D' W hD hm hK
    have b1 := hm.b1
    have z1 := hm.z1 0
    have HM := Lib.hid hm
    clear hm
    gi_wp2_with fail
    have hK' : (W.setCell ⟨w.heap.size + 1, 0, none⟩ (.bool false)).heap[D']? = some (.deferred (some [])) := (Below.heap_setCell _ _ _ _ (by simp only; omega)).trans hK
    have c1 : (W.setCell ⟨w.heap.size + 1, 0, none⟩ (.bool false)).cell? ⟨w.heap.size + 1, 0, none⟩ = some (.bool false) := World.cell?_setCell_same _ _ _ b1
    have hne : D' ≠ w.heap.size + 1 := by omega
    have c2 : ((W.setCell ⟨w.heap.size + 1, 0, none⟩ (.bool false)).putObj D' (.deferred none)).cell? ⟨w.heap.size + 1, 0, none⟩ = some (.bool false) := (World.cell?_of_block (w := W.setCell ⟨w.heap.size + 1, 0, none⟩ (.bool false)) (World.putObj_heap_other (Ne.symm hne))).trans c1
    have hlies : HLies x T1 D R top par L ((W.setCell ⟨w.heap.size + 1, 0, none⟩ (.bool false)).putObj D' (.deferred none)) := HM.out.lies.others HT.out.2 (fun b hb => (World.putObj_heap_other (by omega)).trans (Below.heap_setCell _ _ _ _ (by simp only; omega))) (by simp [World.setCell])
    have hturn : HTurn T1 T1 w ((W.setCell ⟨w.heap.size + 1, 0, none⟩ (.bool false)).putObj D' (.deferred none)) := by
      have h0 := HM.out.turn
      exact ⟨h0.os, h0.tape, h0.output, by simp [World.setCell]; exact h0.size, fun b hb ht => ⟨ht, ((World.putObj_heap_other (by omega)).trans (Below.heap_setCell _ _ _ _ (by simp only; omega))).trans (h0.block b hb ht).2⟩⟩
    have HF := Lib.hid (And.intro hlies (HT.out.1.trans hturn))
    clear hlies hturn
    refine ⟨by simp, .inl ⟨_, _, rfl, run_takeDeferred hK', ?_⟩⟩
    exact ⟨.bool false, by simp [results, Try.results61, go_sem, c2], rfl, T1, HF.out.1, HF.out.2⟩

end Go.Proofs.Ytbjlpmjalidfkaa
