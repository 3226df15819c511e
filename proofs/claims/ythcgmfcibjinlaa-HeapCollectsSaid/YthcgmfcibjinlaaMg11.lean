import Derived.Deep.AppendLies
import Derived.Test.YthcgmfcibjinlaaMg9
import Derived.Test.YthcgmfcibjinlaaMg10
/- The heap's Next: the last grey one of the first ring that has one. -/
namespace Go.Proofs.Ythcgmfcibjinlaa
open Go.RowKit Go.Shelf

attribute [local go_sem] Oper.semAt_some

/-- A ring has been asked in the midst of has, or Next. -/
theorem HasI.turned {x : HSpot} {T : Nat → Nat} {D : Nat → Int} {R : Nat → Rows} {top par : Int} {L : List (Int × Int)} {c : Int} {cb cap : Nat} {w W W' : World} {m : Nat} (h : HasI x T D R top par L c cb cap w W) (hm : m ≤ x.k) (hn : 0 < x.n) (hT : ∀ b, w.heap.size ≤ b → T b = 1000)
    (hR : RingD (x.S m) (R m) D W') (ht : Turn (x.S m) W W') : KeepsOthers W W' ∧ HasI x T D R top par L c cb cap w W' ∧ ∀ b, w.heap.size ≤ b → b < w.heap.size + 3 → W'.heap[b]? = W.heap[b]? := by
  obtain ⟨h1, t1⟩ := h.lies.ring hm hR ht (fun _ _ _ _ _ => rfl)
  have h1' := h1.rings_eq (R' := R) (fun j => by by_cases e : j = m <;> simp [e])
  obtain ⟨cb', cap', g, hTg, -⟩ := h.lies.rest
  have sz := h.size
  have nb : ∀ b, T b = 1000 ∨ T b = 0 → b < W.heap.size → W'.heap[b]? = W.heap[b]? := fun b hb hl => by
    obtain ⟨e1, e2, e3⟩ := h.lies.sp m hm
    have k6 := h.lies.k6
    refine ht.block b hl (fun e => ?_) (fun e => ?_) (fun e => ?_)
    · have := hTg.s m hm _ (Or.inl rfl)
      rw [e] at hb
      omega
    · rw [e1] at e
      have := hTg.p
      rw [e] at hb
      omega
    · rw [e2] at e
      have := hTg.d
      rw [e] at hb
      omega
  have own : ∀ b, w.heap.size ≤ b → b < w.heap.size + 3 → W'.heap[b]? = W.heap[b]? := fun b h1 h2 => nb b (Or.inl (hT b h1)) (by omega)
  exact ⟨keeps_turn (h.lies.rings m hm) ht (by rw [(h.lies.sp m hm).2.2]; exact hn), ⟨h1', (World.cell?_of_block (w := W) (own _ (by simp only; omega) (by simp only; omega))).trans h.b0, (World.cell?_of_block (w := W) (own _ (by simp only; omega) (by simp only; omega))).trans h.b1,
    fun j => (World.frozen?_of_block (w := W) (own (w.heap.size + 1) (by omega) (by omega))).trans (h.z1 j), (World.cell?_of_block (w := W) (own _ (by simp only; omega) (by simp only; omega))).trans h.b2,
    (World.cell?_of_block (w := W) (nb _ (Or.inr hTg.h) h.lies.lh)).trans h.cl, h.turn.trans t1, Nat.le_trans h.size ht.size⟩, own⟩

/-- What Next tells: the i-th ring is the first that has a grey one; none, where i is behind all. -/
def NextSaid (x : HSpot) (T : Nat → Nat) (D : Nat → Int) (R : Nat → Rows) (top par : Int) (L : List (Int × Int)) (i : Nat) (c : Int) (w : World) (e : Ending) (w' : World) : Prop :=
  e = .returned (.tuple #[.int .i64 (if i ≤ x.k then c else 0), .bool (decide (i ≤ x.k))]) ∧ ∃ T', HLies x T' D R top par L w' ∧ HTurn T T' w w'

/-- Next has found one. -/
structure FoundI (x : HSpot) (T : Nat → Nat) (D : Nat → Int) (R : Nat → Rows) (top par : Int) (L : List (Int × Int)) (i : Nat) (c : Int) (w : World) (W : World) : Prop where
  le : i ≤ x.k
  lies : HLies x T D R top par L W
  b0 : W.cell? ⟨w.heap.size, 0, none⟩ = some (.int .i64 c)
  b1 : W.cell? ⟨w.heap.size + 1, 0, none⟩ = some (.bool true)
  turn : HTurn T T w W
  size : w.heap.size + 3 ≤ W.heap.size
theorem FoundI.same {x : HSpot} {T : Nat → Nat} {D : Nat → Int} {R : Nat → Rows} {top par : Int} {L : List (Int × Int)} {i : Nat} {c : Int} {w W W' : World} (h : FoundI x T D R top par L i c w W) (hT : ∀ b, w.heap.size ≤ b → T b = 1000) (hk : ∀ b, b < w.heap.size + 3 → W'.heap[b]? = W.heap[b]?) (hs : W.heap.size ≤ W'.heap.size)
    (h1 : W'.os = W.os) (h2 : W'.tape = W.tape) (h3 : W'.output = W.output) : FoundI x T D R top par L i c w W' := by
  have o : ∀ b j v, b < w.heap.size + 3 → W.cell? ⟨b, j, none⟩ = some v → W'.cell? ⟨b, j, none⟩ = some v := fun b j v hb hv => (World.cell?_of_block (w := W) (hk b hb)).trans hv
  exact ⟨h.le, h.lies.others hT (fun b hb => hk b (by omega)) hs, o _ _ _ (by omega) h.b0, o _ _ _ (by omega) h.b1,
    ⟨h1.trans h.turn.os, h2.trans h.turn.tape, h3.trans h.turn.output, Nat.le_trans h.turn.size hs, fun b hb ht => ⟨ht, (hk b (by omega)).trans (h.turn.block b hb ht).2⟩⟩, Nat.le_trans h.size hs⟩

set_option maxRecDepth 100000 in
set_option maxHeartbeats 8000000 in
theorem hnext_any (x : HSpot) (T : Nat → Nat) (D : Nat → Int) (R : Nat → Rows) (top par : Int) (L : List (Int × Int)) (w : World) (h : HLies x T D R top par L w) (hn : 0 < x.n) (i : Nat) (c : Int) (l : List Int) (h0 : ∀ j, j ≤ x.k → j < i → (R j).grey = []) (hi : i ≤ x.k + 1) (h1 : i ≤ x.k → (R i).grey = l ++ [c]) :
    Calls Try.prog 25 #[.pointer (some ⟨x.h, 0, none⟩)] w (NextSaid x T D R top par L i c w) := by
  have H := Lib.hid h
  have HRR := Lib.hid (And.intro h0 h1)
  clear h h0 h1
  refine (callsIn_wide (n := 4)).1 ?_
  refine callsIn_of_wp_marks Try.func25 rfl trivial ?_ rfl
  simp only [Try.ntmps25, List.size_toArray, List.length_cons, List.length_nil, Nat.reduceAdd, Nat.reduceSub, Array.replicate_succ, Array.replicate_zero, List.push_toArray, List.append_toArray, List.nil_append, List.cons_append]
  gi_wp2_with fail
  refine ⟨trivial, ?_⟩
  refine (callsIn_wide.2 (rings_any x.h _)).mono ?_
  rintro e w' ⟨rfl, rfl⟩
  gi_wp2_with fail
  obtain ⟨cb, cap, g, hTg, hcl, -, -⟩ := H.out.rest
  have k6 := H.out.k6
  obtain ⟨h1, t1⟩ := H.out.retag
  have hT : ∀ b, w.heap.size ≤ b → retag T w.heap.size b = 1000 := fun b hb => if_neg (by omega)
  have hb0 : Below w.heap.size w (((w.alloc (.cells #[.int .i64 0] 3)).alloc (.cells #[.bool false] 4)).alloc (.cells #[.pointer (some ⟨x.h, 0, none⟩)] 46)) := (((Below.refl _ _).alloc (Nat.le_refl _) _).alloc (by simp) _).alloc (by simp; omega) _
  have hE0 : HasI x (retag T w.heap.size) D R top par L 0 cb cap w (((w.alloc (.cells #[.int .i64 0] 3)).alloc (.cells #[.bool false] 4)).alloc (.cells #[.pointer (some ⟨x.h, 0, none⟩)] 46)) ∧ ∀ j, (((w.alloc (.cells #[.int .i64 0] 3)).alloc (.cells #[.bool false] 4)).alloc (.cells #[.pointer (some ⟨x.h, 0, none⟩)] 46)).frozen? ⟨w.heap.size, j, none⟩ = false :=
    ⟨⟨h1.later hb0, by simp [go_sem], by simp [go_sem], fun j => by simp [go_sem], by simp [go_sem], later' hb0 hcl, HTurn.of_below hb0, by simp⟩, fun j => by simp [go_sem]⟩
  have hs0 : (((w.alloc (.cells #[.int .i64 0] 3)).alloc (.cells #[.bool false] 4)).alloc (.cells #[.pointer (some ⟨x.h, 0, none⟩)] 46)).heap.size = w.heap.size + 3 := by simp
  have HE0 := Lib.hid hE0
  have HT := Lib.hid (And.intro t1 hT)
  clear h1 t1 hT hb0 hE0 H hcl hTg g
  generalize (((w.alloc (.cells #[.int .i64 0] 3)).alloc (.cells #[.bool false] 4)).alloc (.cells #[.pointer (some ⟨x.h, 0, none⟩)] 46)) = w0 at *
  generalize retag T w.heap.size = T1 at *
  refine range_until (gf := 90) (lb := #[.pointer (some ⟨w.heap.size + 1 + 1, 0, none⟩)]) rfl (enters_of Try.func90 (by kernel_rfl) rfl) (fun i : Nat => #[.pointer (some ⟨(x.S i).r, 0, none⟩)]) (fun _ => rfl) (List.range (x.k + 1)) (fun pre W => (HasI x T1 D R top par L 0 cb cap w W ∧ ∀ j, W.frozen? ⟨w.heap.size, j, none⟩ = false) ∧ pre.length ≤ i) (FoundI x T1 D R top par L i c w) ?hput ?hputX ?h0
    (fun i => { tmps := #[.pointer (some ⟨x.h, 0, none⟩), undef, .pointer (some ⟨w.heap.size, 0, none⟩), .pointer (some ⟨w.heap.size + 1, 0, none⟩), .pointer (some ⟨(x.S i).r, 0, none⟩), undef, undef, .pointer (some ⟨x.h, 0, none⟩), .func (.func 90) #[] #[.pointer (some ⟨w.heap.size + 1 + 1, 0, none⟩)], .pointer (some ⟨(x.S i).r, 0, none⟩), undef, undef, undef, undef, undef, undef, undef], defers := [] }) ?assign ?body ?iter ?done ?stop
  case hput =>
    intro pre W l o o' hm hl ho hoc
    exact ⟨⟨hm.1.1.same HT.out.2 (fun b hb => World.putObj_heap_other (by omega)) (by simp) rfl rfl rfl, fun j => (World.frozen?_of_block (w := W) (World.putObj_heap_other (by simp only; omega))).trans (hm.1.2 j)⟩, hm.2⟩
  case hputX =>
    intro W l o o' hm hl ho hoc
    exact hm.same HT.out.2 (fun b hb => World.putObj_heap_other (by omega)) (by simp) rfl rfl rfl
  case h0 =>
    intro o o'
    have hb := ((Below.refl w0.heap.size w0).alloc (Nat.le_refl _) o).alloc (by simp) o'
    exact ⟨⟨HE0.out.1.same HT.out.2 (fun b hb' => hb.block b (by omega)) hb.size hb.os hb.tape hb.output, fun j => (World.frozen?_of_block (w := w0) (hb.block _ (by simp only; omega))).trans (HE0.out.2 j)⟩, Nat.zero_le _⟩
  case assign =>
    intro l y W K hK
    gi_wp2
    exact hK
  case body =>
    intro l0 pre y W hm hp
    obtain ⟨rfl, hlt⟩ := prefix_range hp
    have hlen : (pre ++ [pre.length]).length = pre.length + 1 := by simp
    rw [hlen]
    clear hp hlen
    generalize pre.length = m at *
    have HM := Lib.hid hm
    have hmi := hm.2
    clear hm
    by_cases g : m < i
    · have hgr := HRR.out.1 m (by omega) g
      have HN := Lib.hid (ring_next_none (x.S m) (R m) W (HM.out.1.1.lies.rings m (by omega)).ring hgr)
      gi_wp2_with fail
      refine ⟨trivial, (CallsIn.inRound l0 (callsIn_wide.2 HN.out)).mono ?_⟩
      rintro e W3 ⟨rfl, rfl⟩
      gi_wp2_with fail
      exact ⟨KeepsOthers.refl _, HM.out.1, by omega⟩
    · obtain rfl : m = i := by omega
      have hgr := HRR.out.2 (by omega)
      have HN := Lib.hid (ringd_next (x.S m) (R m) W D (HM.out.1.1.lies.rings m (by omega)) c l hgr)
      gi_wp2_with fail
      refine ⟨trivial, (CallsIn.inRound l0 (callsIn_wide.2 HN.out)).mono ?_⟩
      rintro e W3 ⟨rfl, hR3, ht3⟩
      obtain ⟨k3, hi3, own3⟩ := HM.out.1.1.turned (by omega) hn HT.out.2 hR3 ht3
      have c0 := hi3.b0
      have c1 := hi3.b1
      have z0 : W3.frozen? ⟨w.heap.size, 0, none⟩ = false := (World.frozen?_of_block (w := W) (own3 w.heap.size (by omega) (by omega))).trans (HM.out.1.2 0)
      have z1 := hi3.z1 0
      have H3 := Lib.hid (And.intro k3 hi3)
      clear hR3 ht3 k3 hi3 own3 hgr HN
      gi_wp2_with fail
      have hk : ∀ b, b ≠ w.heap.size → b ≠ w.heap.size + 1 → ((W3.setCell ⟨w.heap.size, 0, none⟩ (.int .i64 c)).setCell ⟨w.heap.size + 1, 0, none⟩ (.bool true)).heap[b]? = W3.heap[b]? := fun b h1 h2 => (Below.heap_setCell _ _ _ _ h2).trans (Below.heap_setCell _ _ _ _ h1)
      have hz : ((W3.setCell ⟨w.heap.size, 0, none⟩ (.int .i64 c)).setCell ⟨w.heap.size + 1, 0, none⟩ (.bool true)).heap.size = W3.heap.size := by simp [World.setCell]
      refine ⟨(H3.out.1.trans (KeepsOthers.setCell _ _ _)).trans (KeepsOthers.setCell _ _ _), ⟨by omega, H3.out.2.lies.others HT.out.2 (fun b hb => hk b (by omega) (by omega)) (by rw [hz]; exact Nat.le_refl _), ?_, ?_, ?_, by rw [hz]; exact H3.out.2.size⟩⟩
      · rw [World.cell?_setCell_other _ _ _ _ (by simp)]
        exact World.cell?_setCell_same _ _ _ c0
      · refine World.cell?_setCell_same _ _ _ (u := .bool false) ?_
        rw [World.cell?_setCell_other _ _ _ _ (by simp)]
        exact c1
      · have t0 := H3.out.2.turn
        exact ⟨t0.os, t0.tape, t0.output, by rw [hz]; exact t0.size, fun b hb ht => ⟨ht, (hk b (by omega) (by omega)).trans (t0.block b hb ht).2⟩⟩
  case iter =>
    intro r rx W1 hY h0 hB
    have hlen : (List.range (x.k + 1)).length = x.k + 1 := by simp
    refine (rings_until 3 (by decide) (w0.heap.size + 1) (w.heap.size + 1 + 1) x k6 (fun m W => ((HasI x T1 D R top par L 0 cb cap w W ∧ ∀ j, W.frozen? ⟨w.heap.size, j, none⟩ = false) ∧ m ≤ i) ∧ Book w0.heap.size r W) (fun W => FoundI x T1 D R top par L i c w W ∧ Book w0.heap.size rx W) cb cap (fun m W h => ⟨h.1.1.1.b2, h.1.1.1.lies.large, h.1.1.1.cl, h.1.1.1.seen⟩) ?_ ?_ W1 ⟨h0, hB⟩).mono ?_
    · rintro m W o ⟨hm, hb⟩
      have hbl := (Below.refl W.heap.size W).alloc (Nat.le_refl _) o
      have hlt := hb.lt
      have hsz := hm.1.1.size
      exact ⟨⟨⟨hm.1.1.same HT.out.2 (fun b hb' => hbl.block b (by omega)) hbl.size hbl.os hbl.tape hbl.output, fun j => (World.frozen?_of_block (w := W) (hbl.block _ (by simp only; omega))).trans (hm.1.2 j)⟩, hm.2⟩, hb.kept (hbl.block _ (by omega)) (hbl.block _ (by omega))⟩
    · rintro m W ⟨hm, hb⟩ hmk
      obtain ⟨fn, tmps, assign, body, h1, h2⟩ := hY (List.range m) m W (by rw [List.length_range]; exact hm) hb (range_one hmk)
      refine ⟨fn, tmps, assign, body, h1, h2.mono ?_⟩
      have : (List.range m ++ [m]).length = m + 1 := by simp
      rw [this]
      rintro e W' (⟨rfl, h3, h4⟩ | ⟨rfl, h3, h4⟩)
      · exact Or.inl ⟨rfl, h3, h4⟩
      · exact Or.inr ⟨rfl, h3, h4⟩
    · rintro e W' ⟨h1, h2⟩
      rw [hlen]
      exact ⟨h1, h2⟩
  case done =>
    intro D' W hD hm hK
    have hlen : (List.range (x.k + 1)).length = x.k + 1 := by simp
    rw [hlen] at hm
    have b0 := hm.1.1.b0
    have b1 := hm.1.1.b1
    have z0 := hm.1.2 0
    have z1 := hm.1.1.z1 0
    obtain rfl : i = x.k + 1 := by omega
    have HM := Lib.hid hm.1.1
    clear hm
    gi_wp2_with fail
    have hk : ∀ b, b ≠ w.heap.size → b ≠ w.heap.size + 1 → ((W.setCell ⟨w.heap.size, 0, none⟩ (.int .i64 0)).setCell ⟨w.heap.size + 1, 0, none⟩ (.bool false)).heap[b]? = W.heap[b]? := fun b h1 h2 => (Below.heap_setCell _ _ _ _ h2).trans (Below.heap_setCell _ _ _ _ h1)
    have hK' : ((W.setCell ⟨w.heap.size, 0, none⟩ (.int .i64 0)).setCell ⟨w.heap.size + 1, 0, none⟩ (.bool false)).heap[D']? = some (.deferred (some [])) := (hk D' (by omega) (by omega)).trans hK
    have hz : ((W.setCell ⟨w.heap.size, 0, none⟩ (.int .i64 0)).setCell ⟨w.heap.size + 1, 0, none⟩ (.bool false)).heap.size = W.heap.size := by simp [World.setCell]
    have c0 : ((W.setCell ⟨w.heap.size, 0, none⟩ (.int .i64 0)).setCell ⟨w.heap.size + 1, 0, none⟩ (.bool false)).cell? ⟨w.heap.size, 0, none⟩ = some (.int .i64 0) := by
      rw [World.cell?_setCell_other _ _ _ _ (by simp)]
      exact World.cell?_setCell_same _ _ _ b0
    have c1 : ((W.setCell ⟨w.heap.size, 0, none⟩ (.int .i64 0)).setCell ⟨w.heap.size + 1, 0, none⟩ (.bool false)).cell? ⟨w.heap.size + 1, 0, none⟩ = some (.bool false) := by
      refine World.cell?_setCell_same _ _ _ (u := .bool false) ?_
      rw [World.cell?_setCell_other _ _ _ _ (by simp)]
      exact b1
    have n0 : w.heap.size ≠ D' := by omega
    have n1 : w.heap.size + 1 ≠ D' := by omega
    have d0 := (World.cell?_of_block (w := ((W.setCell ⟨w.heap.size, 0, none⟩ (.int .i64 0)).setCell ⟨w.heap.size + 1, 0, none⟩ (.bool false))) (w' := ((W.setCell ⟨w.heap.size, 0, none⟩ (.int .i64 0)).setCell ⟨w.heap.size + 1, 0, none⟩ (.bool false)).putObj D' (.deferred none)) (a := ⟨w.heap.size, 0, none⟩) (World.putObj_heap_other n0)).trans c0
    have d1 := (World.cell?_of_block (w := ((W.setCell ⟨w.heap.size, 0, none⟩ (.int .i64 0)).setCell ⟨w.heap.size + 1, 0, none⟩ (.bool false))) (w' := ((W.setCell ⟨w.heap.size, 0, none⟩ (.int .i64 0)).setCell ⟨w.heap.size + 1, 0, none⟩ (.bool false)).putObj D' (.deferred none)) (a := ⟨w.heap.size + 1, 0, none⟩) (World.putObj_heap_other n1)).trans c1
    have hlies : HLies x T1 D R top par L (((W.setCell ⟨w.heap.size, 0, none⟩ (.int .i64 0)).setCell ⟨w.heap.size + 1, 0, none⟩ (.bool false)).putObj D' (.deferred none)) := HM.out.lies.others HT.out.2 (fun b hb => (World.putObj_heap_other (by omega)).trans (hk b (by omega) (by omega))) (by simp [World.setCell])
    have hturn : HTurn T1 T1 w (((W.setCell ⟨w.heap.size, 0, none⟩ (.int .i64 0)).setCell ⟨w.heap.size + 1, 0, none⟩ (.bool false)).putObj D' (.deferred none)) := by
      have h0 := HM.out.turn
      exact ⟨h0.os, h0.tape, h0.output, by simp [World.setCell]; exact h0.size, fun b hb ht => ⟨ht, ((World.putObj_heap_other (by omega)).trans (hk b (by omega) (by omega))).trans (h0.block b hb ht).2⟩⟩
    have HF := Lib.hid (And.intro hlies (HT.out.1.trans hturn))
    clear hlies hturn
    refine ⟨by simp, .inl ⟨_, _, rfl, run_takeDeferred hK', ?_⟩⟩
    exact ⟨.tuple #[.int .i64 0, .bool false], by simp [results, Try.results25, go_sem, d0, d1], by rw [if_neg (by omega), decide_eq_false (by omega)], T1, HF.out.1, HF.out.2⟩
  case stop =>
    intro D' W hD hm hK
    have HM := Lib.hid hm
    clear hm
    gi_wp2_with fail
    have n0 : w.heap.size ≠ D' := by omega
    have n1 : w.heap.size + 1 ≠ D' := by omega
    have d0 := (World.cell?_of_block (w := W) (w' := W.putObj D' (.deferred none)) (a := ⟨w.heap.size, 0, none⟩) (World.putObj_heap_other n0)).trans HM.out.b0
    have d1 := (World.cell?_of_block (w := W) (w' := W.putObj D' (.deferred none)) (a := ⟨w.heap.size + 1, 0, none⟩) (World.putObj_heap_other n1)).trans HM.out.b1
    have HF := Lib.hid (HM.out.same HT.out.2 (W' := W.putObj D' (.deferred none)) (fun b hb => World.putObj_heap_other (by omega)) (by simp) rfl rfl rfl)
    refine ⟨by simp, .inl ⟨_, _, rfl, run_takeDeferred hK, ?_⟩⟩
    exact ⟨.tuple #[.int .i64 c, .bool true], by simp [results, Try.results25, go_sem, d0, d1], by rw [if_pos HM.out.le, decide_eq_true HM.out.le], T1, HF.out.lies, HT.out.1.trans HF.out.turn⟩

end Go.Proofs.Ythcgmfcibjinlaa

/- The classes' rows, all of them: the heap's Rings; a row more. -/
namespace Go.Proofs.Ythcgmfcibjinlaa
open Go.RowKit

theorem Try.info_segment : (Try.prog.info? 40).map (fun i => (i.zero, i.size, i.bytes)) = some (some (.agg #[.slice none 0 0, .slice none 0 0, .slice none 0 0, .slice none 0 0]), 4, 96) := by kernel_rfl

/-- Four values of each of some, one behind the other. -/
def flat4 (v : Nat → Nat → Value) : Nat → List Value
  | 0 => []
  | i + 1 => flat4 v i ++ [v i 0, v i 1, v i 2, v i 3]
theorem flat4_length (v : Nat → Nat → Value) (i : Nat) : (flat4 v i).length = i * 4 := by
  induction i with
  | zero => rfl
  | succ i ih => simp only [flat4, List.length_append, ih, List.length_cons, List.length_nil]; omega
theorem flat4_get (v : Nat → Nat → Value) {i j c : Nat} (h : j < i) (hc : c < 4) : (flat4 v i)[j * 4 + c]? = some (v j c) := by
  induction i with
  | zero => omega
  | succ i ih =>
    have hl := flat4_length v i
    unfold flat4
    by_cases e : j = i
    · subst e
      rw [List.getElem?_append_right (by omega), hl, Nat.add_sub_cancel_left]
      obtain rfl | rfl | rfl | rfl : c = 0 ∨ c = 1 ∨ c = 2 ∨ c = 3 := by omega
      all_goals rfl
    · rw [List.getElem?_append_left (by omega)]
      exact ih (by omega)
theorem flat4_same {v u : Nat → Nat → Value} {i : Nat} (h : ∀ j, j < i → ∀ c, v j c = u j c) : flat4 v i = flat4 u i := by
  induction i with
  | zero => rfl
  | succ i ih =>
    unfold flat4
    rw [ih fun j hj => h j (by omega), h i (by omega), h i (by omega), h i (by omega), h i (by omega)]
def more4 (v : Nat → Nat → Value) (i : Nat) (f : Nat → Value) : Nat → Nat → Value := fun j c => if j = i then f c else v j c
theorem flat4_more (v : Nat → Nat → Value) (i : Nat) (f : Nat → Value) : flat4 (more4 v i f) (i + 1) = flat4 v i ++ [f 0, f 1, f 2, f 3] := by
  show flat4 (more4 v i f) i ++ _ = _
  rw [flat4_same (u := v) (fun j hj c => by unfold more4; rw [if_neg (by omega)])]
  simp [more4]

/-- The rows of some rings, gathered in a slice. -/
structure Tall (base : Nat) (R : Nat → Rows) (v : Nat → Nat → Value) (i : Nat) (vv : Value) (W : World) : Prop where
  own : W.ownsRow base 40 4 vv i (flat4 v i)
  rows : ∀ j, j < i → ∀ c, c < 4 → Row W base W.heap.size (v j c) ((R j).row c)
  nil : i = 0 → vv = .slice none 0 0

theorem Row.slice {W : World} {lo hi : Nat} {v : Value} {l : List Int} (h : Row W lo hi v l) : ∃ a n c, v = .slice a n c := by
  obtain ⟨ao, cap, rfl, -⟩ := h
  exact ⟨_, _, _, rfl⟩
theorem Row.kept {W W' : World} {lo hi : Nat} {v : Value} {l : List Int} (h : Row W lo hi v l) (hk : ∀ g, lo ≤ g → g < hi → (∃ n, W.cell? ⟨g, 0, none⟩ = some (.int .i64 n)) → ∀ i x, W.cell? ⟨g, i, none⟩ = some x → W'.cell? ⟨g, i, none⟩ = some x) : Row W' lo hi v l := by
  obtain ⟨ao, cap, rfl, hc⟩ := h
  refine ⟨ao, cap, rfl, fun h0 => ?_⟩
  obtain ⟨g, e, h1, h2, h3⟩ := hc h0
  exact ⟨g, e, h1, h2, fun i x hx => hk g h1 h2 ⟨l[0], h3 0 _ (List.getElem?_eq_getElem h0)⟩ i _ (h3 i x hx)⟩
/-- A slice of slices has none of a row's blocks. -/
theorem Tall.apart {base : Nat} {R : Nat → Rows} {v : Nat → Nat → Value} {i : Nat} {vv : Value} {W : World} (h : Tall base R v i vv W) {g : Nat} {n : Int} (hg : W.cell? ⟨g, 0, none⟩ = some (.int .i64 n)) : vv.ownBlock ≠ some g := by
  intro e
  have hi : 0 < i := Nat.pos_of_ne_zero fun e0 => by
    rw [h.nil e0] at e
    cases e
  obtain ⟨a, b, c, hv⟩ := (h.rows 0 hi 0 (by decide)).slice
  have h0 := h.own.cells e 0 (v 0 0) (by have := flat4_get v (j := 0) (c := 0) hi (by decide); simpa using this)
  rw [Addr.add_lit] at h0
  simp only [Nat.add_zero] at h0
  rw [hg, hv] at h0
  cases h0
theorem Tall.same {base : Nat} {R : Nat → Rows} {v : Nat → Nat → Value} {i : Nat} {vv : Value} {W W' : World} (h : Tall base R v i vv W) (hs : W.heap.size ≤ W'.heap.size) (hk : ∀ b, base ≤ b → b < W.heap.size → W'.heap[b]? = W.heap[b]?) : Tall base R v i vv W' := by
  refine ⟨⟨h.own.1, ?_⟩, fun j hj c hc => ((h.rows j hj c hc).kept fun g h1 h2 _ i x hx => (World.cell?_of_block (w := W) (hk g h1 h2)).trans hx).mono (Nat.le_refl _) hs, h.nil⟩
  rcases h.own.2 with e | ⟨g, cap, cur, e, hg, hb, hr⟩
  · exact Or.inl e
  · exact Or.inr ⟨g, cap, cur, e, hg, (hk g hg (Array.getElem?_eq_some_iff.1 hb).1).trans hb, hr⟩
theorem Tall.turn {base : Nat} {R : Nat → Rows} {v : Nat → Nat → Value} {i : Nat} {vv : Value} {W W' : World} {T T' : Nat → Nat} (h : Tall base R v i vv W) (tag : ∀ b, base ≤ b → b < W.heap.size → T b = 1000) (t : HTurn T T' W W') : Tall base R v i vv W' :=
  h.same t.size fun b h1 h2 => (t.block b h2 (tag b h1 h2)).2
theorem Tall.grown {base : Nat} {R : Nat → Rows} {v : Nat → Nat → Value} {i : Nat} {vv : Value} {W w9 : World} (h : Tall base R v i vv W) {f : Nat → Value} (hf : ∀ c, c < 4 → Row W base W.heap.size (f c) ((R i).row c)) {tmp : Obj} {g9 cap9 : Nat}
    (own : w9.ownsRow base 40 4 (.slice (some ⟨g9, 0, none⟩) (i + 1) cap9) (i + 1) (flat4 v i ++ [f 0, f 1, f 2, f 3])) (hg : (W.alloc tmp).grownBy w9 vv.ownBlock) : Tall base R (more4 v i f) (i + 1) (.slice (some ⟨g9, 0, none⟩) (i + 1) cap9) w9 := by
  have hs := hg.size
  rw [World.size_alloc] at hs
  refine ⟨by rw [flat4_more]; exact own, fun j hj c hc => ?_, fun e => by omega⟩
  have key : ∀ u l, Row W base W.heap.size u l → Row w9 base w9.heap.size u l := fun u l hr => by
    refine (hr.kept fun g h1 h2 ⟨n, hn⟩ i x hx => ?_).mono (Nat.le_refl _) (by omega)
    refine hg.cell ?_ (fun e => h.apart hn e.symm)
    exact (World.cell?_of_block (w := W) (((Below.refl W.heap.size W).alloc (Nat.le_refl _) tmp).block g h2)).trans hx
  unfold more4
  by_cases e : j = i
  · subst e
    rw [if_pos rfl]
    exact key _ _ (hf c hc)
  · rw [if_neg e]
    exact key _ _ (h.rows j (by omega) c hc)

/-- What Rings tells. -/
def RingsSaid (x : HSpot) (T : Nat → Nat) (D : Nat → Int) (R : Nat → Rows) (top par : Int) (L : List (Int × Int)) (w : World) (e : Ending) (w' : World) : Prop :=
  ∃ v a n c, e = .returned (.slice a n c) ∧ Tall w.heap.size R v x.k (.slice a n c) w' ∧ ∃ T', HLies x T' D R top par L w' ∧ HTurn T T' w w' ∧ ∀ b, w.heap.size ≤ b → T' b = 1000

theorem HLies.listed {x : HSpot} {T : Nat → Nat} {D : Nat → Int} {R : Nat → Rows} {top par : Int} {L : List (Int × Int)} {w w' : World} {i : Nat} (h : HLies x T D R top par L w) (hi : i ≤ x.k) (hR : RingD (x.S i) (R i) D w') (ht : Turn (x.S i) w w') : HLies x T D R top par L w' ∧ HTurn T T w w' := by
  have h6 := h.ring hi hR ht (fun _ _ _ _ _ => rfl)
  exact ⟨h6.1.rings_eq (R' := R) (fun j => by by_cases e : j = i <;> simp [e]), h6.2⟩
theorem HLies.turn_own {x : HSpot} {T : Nat → Nat} {D : Nat → Int} {R : Nat → Rows} {top par : Int} {L : List (Int × Int)} {w w' : World} {i : Nat} (h : HLies x T D R top par L w) (hi : i ≤ x.k) (ht : Turn (x.S i) w w') {b : Nat} (hb : T b = 1000 ∨ T b < 2) (hl : b < w.heap.size) : w'.heap[b]? = w.heap[b]? := by
  obtain ⟨cb', cap', g, hTg, -⟩ := h.rest
  obtain ⟨e1, e2, e3⟩ := h.sp i hi
  have k6 := h.k6
  refine ht.block b hl (fun e => ?_) (fun e => ?_) (fun e => ?_)
  · have := hTg.s i hi _ (Or.inl rfl)
    rw [e] at hb
    omega
  · rw [e1] at e
    have := hTg.p
    rw [e] at hb
    omega
  · rw [e2] at e
    have := hTg.d
    rw [e] at hb
    omega
theorem HLies.seen {x : HSpot} {T : Nat → Nat} {D : Nat → Int} {R : Nat → Rows} {top par : Int} {L : List (Int × Int)} {W : World} {cb cap : Nat} (h : HLies x T D R top par L W) (hc : W.cell? ⟨x.h, 1, none⟩ = some (.slice (some ⟨cb, 0, none⟩) x.k cap)) :
    T x.h = 0 ∧ ∀ i, i < x.k → W.cell? ⟨cb, i * 2, none⟩ = some (.int .i64 (x.sz i)) ∧ W.cell? ⟨cb, i * 2 + 1, none⟩ = some (.pointer (some ⟨(x.S i).r, 0, none⟩)) := by
  obtain ⟨cb', cap', g, hT, hc', hcs, -⟩ := h.rest
  have e := hc'.symm.trans hc
  simp only [Option.some.injEq, Value.slice.injEq, Addr.mk.injEq, and_true, true_and] at e
  obtain ⟨rfl, _⟩ := e
  exact ⟨hT.h, hcs⟩
theorem four_of (v0 v1 v2 v3 : Value) : ∃ f : Nat → Value, f 0 = v0 ∧ f 1 = v1 ∧ f 2 = v2 ∧ f 3 = v3 := ⟨fun c => if c = 0 then v0 else if c = 1 then v1 else if c = 2 then v2 else v3, rfl, rfl, rfl, rfl⟩

set_option maxHeartbeats 8000000 in
set_option maxRecDepth 100000 in
theorem hrings_any (x : HSpot) (T : Nat → Nat) (D : Nat → Int) (R : Nat → Rows) (top par : Int) (L : List (Int × Int)) (w : World) (h : HLies x T D R top par L w) :
    Calls Try.prog 28 #[.pointer (some ⟨x.h, 0, none⟩)] w (RingsSaid x T D R top par L w) := by
  obtain ⟨i0, hi0, hz0, hzs, hzb⟩ := info_parts Try.info_segment
  have hret := h.retag
  have hT1 : ∀ b, w.heap.size ≤ b → retag T w.heap.size b = 1000 := fun b hb => if_neg (by omega)
  have hk6 := h.k6
  obtain ⟨cb, cap, g, hTg, hcl, hcs, -⟩ := h.rest
  have lcb := World.block_lt_of_cell? _ _ hcl
  have H := Lib.hid (And.intro hret.1 (And.intro hret.2 hT1))
  have HC := Lib.hid (And.intro hTg (And.intro hcl hcs))
  clear h hret hT1 hcs hTg
  generalize retag T w.heap.size = T1 at *
  go_enter Try.func28, Try.ntmps28
  go_wp2_with fail
  clear hcl
  go_loopw [3, 11] (fun s3 s11 wr => ∃ (i : Nat) (v : Nat → Nat → Value) (vv : Value), i ≤ x.k ∧ vv = s3 ∧ s11 = .int .i64 i ∧ HLies x T1 D R top par L wr ∧ HTurn T1 T1 w wr ∧ Tall w.heap.size R v i vv wr ∧ wr.cell? ⟨x.h, 1, none⟩ = some (.slice (some ⟨cb, 0, none⟩) x.k cap)) (fun _ s11 _ => x.k - (intOf s11).toNat)
  case atStart => exact ⟨0, fun _ _ => undef, _, Nat.zero_le _, rfl, rfl, H.out.1, HTurn.refl _ _, ⟨World.ownsRow_nil _ _ _ _, fun j hj => absurd hj (Nat.not_lt_zero _), fun _ => rfl⟩, HC.out.2.1⟩
  case round =>
    obtain ⟨i, v, vv, hi, rfl, rfl, hl, ht, hv, hc⟩ := hrel
    have HR := Lib.hid (And.intro hl (And.intro ht (And.intro hv hc)))
    obtain ⟨hh0, hcs⟩ := hl.seen hc
    clear hl ht hv hc
    by_cases hlt : i < x.k
    · have hlt' : (i : Int) < (x.k : Int) := by omega
      obtain ⟨d0, d1⟩ := hcs i hlt
      clear hcs
      have hx := (Below.refl wr.heap.size wr).alloc (Nat.le_refl _) (.cells #[.int .i64 (x.sz i), .pointer (some ⟨(x.S i).r, 0, none⟩)] 101)
      have HX := Lib.hid (And.intro (HR.out.1.later hx) (And.intro (HR.out.2.1.trans (HTurn.of_below hx)) (And.intro (HR.out.2.2.1.same hx.size fun b _ h2 => hx.block b h2) (later' hx HR.out.2.2.2))))
      clear hx
      have b1 : (wr.alloc (.cells #[.int .i64 (x.sz i), .pointer (some ⟨(x.S i).r, 0, none⟩)] 101)).cell? ⟨wr.heap.size, 1, none⟩ = some (.pointer (some ⟨(x.S i).r, 0, none⟩)) := by simp [go_sem]
      go_upto_region 5 with fail
      generalize (wr.alloc (.cells #[.int .i64 (x.sz i), .pointer (some ⟨(x.S i).r, 0, none⟩)] 101)) = W at *
      clear d0 d1
      go_wp2_with fail
      refine (ringd_list (x.S i) (R i) W D (HX.out.1.rings i hi)).mono ?_
      rintro e w2 ⟨v0, v1, v2, v3, rfl, r0, r1, r2, r3, hR, htu⟩
      obtain ⟨f, rfl, rfl, rfl, rfl⟩ := four_of v0 v1 v2 v3
      have hsW := HX.out.2.1.size
      have h2 := HX.out.1.listed hi hR htu
      have hv2 := HX.out.2.2.1.turn (fun b h1 _ => H.out.2.2 b h1) h2.2
      have hrow : ∀ c, c < 4 → Row w2 w.heap.size w2.heap.size (f c) ((R i).row c) := fun c hc => by
        obtain rfl | rfl | rfl | rfl : c = 0 ∨ c = 1 ∨ c = 2 ∨ c = 3 := by omega
        · exact r0.mono hsW (Nat.le_refl _)
        · exact r1.mono hsW (Nat.le_refl _)
        · exact r2.mono hsW (Nat.le_refl _)
        · exact r3.mono hsW (Nat.le_refl _)
      have hc2 := (World.cell?_of_block (w := W) (a := ⟨x.h, 1, none⟩) (HX.out.1.turn_own hi htu (Or.inr (by show T1 x.h < 2; omega)) (World.block_lt_of_cell? _ _ HX.out.2.2.2))).trans HX.out.2.2.2
      have one : ∀ c, c < 4 → (f c).oneCell' = true := fun c hc => by
        obtain ⟨a, n, c, e⟩ := (hrow c hc).slice
        rw [e]
        rfl
      have hone : ∀ u, u ∈ [f 0, f 1, f 2, f 3] → u.oneCell' = true := fun u hu => by
        simp only [List.mem_cons, List.not_mem_nil, or_false] at hu
        rcases hu with rfl | rfl | rfl | rfl <;> exact one _ (by decide)
      have H2 := Lib.hid (And.intro h2.1 (And.intro (HX.out.2.1.trans h2.2) (And.intro hv2 (And.intro hrow (And.intro hc2 (And.intro hone hv2.own))))))
      have hs2 := h2.2.size
      clear r0 r1 r2 r3 hR htu h2 hv2 hrow hc2 one hone b1
      go_wp2_with (at_builtin; refine wpList_append_lies _ rfl _ _ 67 rfl w.heap.size 40 i0 (.agg #[.slice none 0 0, .slice none 0 0, .slice none 0 0, .slice none 0 0]) 4 96 Try.underlying67 hi0 hz0 hzs hzb rfl (by decide) vv i (flat4 v i) rfl (H2.out.2.2.2.2.2.2.alloc _) ⟨w2.heap.size, 0, none⟩ 1 1 [f 0, f 1, f 2, f 3] rfl rfl (World.news_of_block (heap_alloc_new _ _)) H2.out.2.2.2.2.2.1 (by decide) (by unfold maxLen; omega) (by omega) (by simp; omega) _ rfl ?_; intro g9 cap9 w9 o1 o2 o3 o4)
      have hne : vv.ownBlock ≠ some x.h := fun e => by
        have h1 := (H2.out.2.2.2.2.2.2.lt _ e).1
        have h2 := H.out.2.2 _ h1
        omega
      refine ⟨⟨i + 1, more4 v i f, _, by omega, rfl, by go_num, ?_, ?_, H2.out.2.2.1.grown H2.out.2.2.2.1 o1 o2, o2.cell (later' ((Below.refl w2.heap.size w2).alloc (Nat.le_refl _) _) H2.out.2.2.2.2.1) (fun e => hne e.symm)⟩, by simp [intOf]; omega⟩
      all_goals have hb9 : ∀ b, b < w.heap.size → w9.heap[b]? = w2.heap[b]? := fun b hb => (o2.block b (by simp; omega) (fun e => by have := (H2.out.2.2.2.2.2.2.lt _ e.symm).1; omega)).trans (((Below.refl w2.heap.size w2).alloc (Nat.le_refl _) _).block b (by omega))
      all_goals have hz9 := o2.size
      all_goals rw [World.size_alloc] at hz9
      · exact H2.out.1.others H.out.2.2 hb9 (by omega)
      · have t := H2.out.2.1
        exact ⟨o2.os.trans t.os, o2.tape.trans t.tape, o2.output.trans t.output, by omega, fun b hb ht => ⟨ht, (hb9 b hb).trans (t.block b hb ht).2⟩⟩
    · obtain rfl : i = x.k := by omega
      clear hcs
      obtain ⟨a, n, c, hvv⟩ : ∃ a n c, vv = .slice a n c := by
        rcases HR.out.2.2.1.own.2 with ⟨e, _⟩ | ⟨g, cap, cur, e, _⟩
        · exact ⟨_, _, _, e⟩
        · exact ⟨_, _, _, e⟩
      subst hvv
      go_wp2_with fail
      go_ret
      exact ⟨v, a, n, c, rfl, HR.out.2.2.1, T1, HR.out.1, H.out.2.1.trans HR.out.2.1, H.out.2.2⟩

end Go.Proofs.Ythcgmfcibjinlaa

/- A heap is filled, emptied, and filled anew: in numbers. -/
namespace Go.Proofs.Ythcgmfcibjinlaa
open Go.RowKit

theorem mul_step {k t : Nat} {W : Int} (h : k < t) (hW : 0 ≤ W) : (k : Int) * W + W ≤ t * W := by
  have := Int.mul_le_mul_of_nonneg_right (show (k : Int) + 1 ≤ t by omega) hW
  rw [Int.add_mul, Int.one_mul] at this
  exact this

theorem cov_whole {F N m : Int} (_ : 0 ≤ N) : Ex.Cov (Ex.whole F N) m ↔ F ≤ m ∧ m < F + N := by
  unfold Ex.whole
  by_cases g : N = 0
  · rw [if_pos g]
    exact ⟨fun h => absurd h (Ex.cov_nil m), fun h => by omega⟩
  · rw [if_neg g, Ex.cov_cons]
    exact ⟨fun h => h.elim id fun h => absurd h (Ex.cov_nil m), Or.inl⟩
theorem good_whole {lo hi F N : Int} (h0 : 0 ≤ N) (h1 : lo ≤ F) (h2 : F + N ≤ hi) : Ex.Good lo hi (Ex.whole F N) := by
  unfold Ex.whole
  by_cases g : N = 0
  · rw [if_pos g]
    trivial
  · rw [if_neg g]
    exact ⟨h1, by show 1 ≤ N; omega, h2, trivial⟩
theorem total_whole (F N : Int) : Ex.total (Ex.whole F N) = N := by
  unfold Ex.whole
  by_cases g : N = 0
  · rw [if_pos g, g]; rfl
  · rw [if_neg g]
    show N + 0 = N
    omega
theorem whole_err {F N n : Int} (hn : 1 ≤ n) (h : N < n) : Ex.tErr n (Ex.whole F N) ≠ 0 := by
  unfold Ex.tErr
  rw [if_neg (by omega), Ex.spot_none]
  · simp
  · intro y hy
    unfold Ex.whole at hy
    split at hy
    · cases hy
    · rw [List.mem_singleton] at hy
      rw [hy]
      exact h
theorem whole_ok {F N n : Int} (hn : 1 ≤ n) (h : n ≤ N) : Ex.tErr n (Ex.whole F N) = 0 ∧ Ex.tAt n (Ex.whole F N) = F := by
  have e : Ex.spot n (Ex.whole F N) = some F := by
    unfold Ex.whole
    rw [if_neg (by omega)]
    exact if_pos h
  have h1 : ¬ n < 1 := by omega
  unfold Ex.tErr Ex.tAt
  rw [e]
  simp [h1]
theorem whole_took {lo hi F N n : Int} {M : List (Int × Int)} (hn : 1 ≤ n) (h : n ≤ N) (h1 : lo ≤ F) (h2 : F + N ≤ hi) (hM : Ex.Took lo hi n (Ex.whole F N) M) : M = Ex.whole (F + n) (N - n) := by
  obtain ⟨e0, e1⟩ := whole_ok (F := F) hn h
  refine Ex.good_unique hM.1 (good_whole (lo := lo) (by omega) (by omega) (by omega)) fun m => ?_
  rw [hM.2.1, cov_whole (by omega), cov_whole (by omega), e0, e1]
  constructor
  · rintro ⟨⟨a, b⟩, c⟩
    have := c rfl
    omega
  · rintro ⟨a, b⟩
    exact ⟨by omega, fun _ => by omega⟩
theorem total_le {hi : Int} : ∀ {L : List (Int × Int)} {lo : Int}, Ex.Good lo hi L → L ≠ [] → Ex.total L ≤ hi - lo
  | [], _, _, h => absurd rfl h
  | [y], lo, h, _ => by
    obtain ⟨h1, h2, h3, -⟩ := h
    show y.2 + 0 ≤ hi - lo
    omega
  | y :: z :: L, lo, h, _ => by
    obtain ⟨h1, h2, h3, h4⟩ := h
    have := total_le h4 (by simp)
    show y.2 + Ex.total (z :: L) ≤ hi - lo
    omega
theorem whole_of_total {lo N : Int} {L : List (Int × Int)} (h : Ex.Good lo (lo + N) L) (ht : Ex.total L = N) : L = Ex.whole lo N := by
  unfold Ex.whole
  cases L with
  | nil =>
    have : N = 0 := ht.symm
    rw [if_pos this]
  | cons y L =>
    obtain ⟨h1, h2, h3, h4⟩ := h
    have ht' : y.2 + Ex.total L = N := ht
    cases L with
    | nil =>
      have h0 : Ex.total [] = 0 := rfl
      rw [if_neg (by omega)]
      obtain ⟨a, b⟩ := y
      simp only at *
      rw [show a = lo by omega, show b = N by omega]
    | cons z L =>
      have := total_le h4 (by simp)
      omega

/-- How many objects of a size go into a heap. -/
structure Wants (x : HSpot) (size : Int) (i tot : Nat) : Prop where
  s0 : 0 ≤ size
  s1 : size ≤ 31
  cls : Cls x.sz x.k size i
  small : i < x.k → (tot : Int) * (x.sz i + 3) < x.lim ∧ (x.lim : Int) ≤ tot * (x.sz i + 3) + (x.sz i + 3)
  big : i = x.k → (tot : Int) * (size + 3) ≤ x.n - x.lim ∧ (x.n - x.lim : Int) < tot * (size + 3) + (size + 3)
  few : tot < 900

/-- A heap while it is filled. -/
structure Fil (x : HSpot) (size : Int) (i tot : Nat) (D : Nat → Int) (R : Nat → Rows) (top par : Int) (L : List (Int × Int)) (B Wh : List Int) : Prop where
  row : R i = ⟨Wh, [], [], B⟩
  rest : ∀ j, j ≤ x.k → j ≠ i → R j = none4
  inv : HInv x D R top L
  par : par = 0 ∨ par = 1
  small : i < x.k → top = 1 + (Wh.length + B.length : Nat) * (x.sz i + 3) ∧ (Wh = [] ∨ Wh.length + B.length = tot)
  big : i = x.k → Wh = [] ∧ L = Ex.whole (x.lim + B.length * (size + 3)) (x.n - x.lim - B.length * (size + 3)) ∧ ∀ c, c ∈ B → ∃ kd a m, Head D c kd size a m

theorem Fil.lens {x : HSpot} {size : Int} {i tot : Nat} {D : Nat → Int} {R : Nat → Rows} {top par : Int} {L : List (Int × Int)} {B Wh : List Int} (h : Fil x size i tot D R top par L B Wh) (hi : i ≤ x.k) (hB : B.length ≤ tot) (ht : tot < 900) : ∀ j, j ≤ x.k → (R j).all.length < 999 := by
  intro j hj
  by_cases e : j = i
  · subst e
    rw [h.row]
    unfold Rows.all
    simp only [List.nil_append, List.length_append]
    by_cases g : j = x.k
    · have := (h.big g).1
      subst this
      simp
      omega
    · rcases (h.small (by omega)).2 with e | e
      · subst e
        simp
        omega
      · omega
  · rw [h.rest j hj e]
    show (0 : Nat) < 999
    omega

set_option maxHeartbeats 4000000 in
theorem fill_step {x : HSpot} {size : Int} {i tot : Nat} {T : Nat → Nat} {D : Nat → Int} {R : Nat → Rows} {top par : Int} {L : List (Int × Int)} {B Wh : List Int} {w w' : World} {e : Ending} {kd aux : Int} (hw : Wants x size i tot) (hl : HLies x T D R top par L w) (hf : Fil x size i tot D R top par L B Wh) (hB : B.length < tot)
    (hp : Ce.pe kd size aux par = 0) (h : AllocsE (Ce.pe kd size aux par) (Ce.pw kd size aux par) x T D R top par L size w e w') :
    ∃ (at' : Int) (T' : Nat → Nat) (D' : Nat → Int) (R' : Nat → Rows) (top' : Int) (L' : List (Int × Int)) (Wh' : List Int), e = .returned (.tuple #[.int .i64 at', .int .i64 0]) ∧ HLies x T' D' R' top' par L' w' ∧ HTurn T T' w w' ∧ Fil x size i tot D' R' top' par L' (B ++ [at']) Wh' ∧ at' ∉ B ∧ 1 ≤ at' ∧ at' ≤ 65536 := by
  have hG := hl.good
  have s0 := hw.s0
  have hlen := hf.lens hw.cls.le (Nat.le_of_lt hB) hw.few
  have hfit := (Ce.pe_fit _ _ _ _).1 hp
  rcases h with ⟨h0, -⟩ | ⟨-, at', T', D', R', top', M, rfl, hl', ht, hA, hW⟩ | ⟨-, T', rfl, hl', ht, hF⟩
  · exact absurd hp h0
  · have hI' := alloc_inv hf.inv hG hA hW s0 (sb_pw hp) hlen
    obtain ⟨r1, r2, hcl⟩ := hA.room hf.inv hG s0
    obtain ⟨i', hi', hC', hm', hne', hmem', -⟩ := hA.cells
    obtain rfl := hw.cls.unique hC'
    have n6 := hf.inv.n6
    have hni : at' ∉ B := fun hb => by
      have hb1 : at' ∈ (R i).all := by rw [hf.row]; simp [Rows.all, hb]
      have hnd := (hl.rings i hi').fit.nodup
      refine hA.ne hf.inv hG s0 hi' hnd hb1 ?_ rfl
      rw [hf.row] at hnd ⊢
      intro hq
      have hq' : at' ∈ Wh := hq
      have hnd' : (Wh ++ ([] ++ ([] ++ B))).Nodup := hnd
      simp only [List.nil_append] at hnd'
      exact (List.nodup_append.1 hnd').2.2 at' hq' at' hb rfl
    have hrest : ∀ j, j ≤ x.k → j ≠ i → R' j = none4 := fun j hj e => (hne' j e).trans (hf.rest j hj e)
    have fin : ∀ Wh', R' i = ⟨Wh', [], [], B ++ [at']⟩ → (i < x.k → top' = 1 + (Wh'.length + (B ++ [at']).length : Nat) * (x.sz i + 3) ∧ (Wh' = [] ∨ Wh'.length + (B ++ [at']).length = tot)) → (i = x.k → Wh' = [] ∧ M = Ex.whole (x.lim + (B ++ [at']).length * (size + 3)) (x.n - x.lim - (B ++ [at']).length * (size + 3))) →
        Fil x size i tot D' R' top' par M (B ++ [at']) Wh' := fun Wh' h1 h2 h3 => ⟨h1, hrest, hI', hf.par, h2, fun ek => ⟨(h3 ek).1, (h3 ek).2, fun c hc => by
      rcases List.mem_append.1 hc with hc | hc
      · obtain ⟨kd', a', m', hd⟩ := (hf.big ek).2.2 c hc
        refine ⟨kd', a', m', hd.fit, ?_⟩
        have hcm : c ∈ (R' i).all := by rw [h1]; simp [Rows.all, hc]
        have q1 := hcl i hi' c hcm
        have hca : c ≠ at' := fun e => hni (e ▸ hc)
        have q2 := hI'.one i hi' c hcm
        have q3 := (hI'.obj hi' hcm (show (0 : Int) + 3 ≤ wid x D' i c by have := wid_three hI' i c; omega)).word (by omega)
        exact (hW.keep c.toNat (by omega) fun j hj hq => q3 j hj _ hq (by omega)).trans hd.word
      · rw [List.mem_singleton] at hc
        subst hc
        exact ⟨kd, aux, par, hfit, hW.hd.trans (Ce.pw_ok hfit)⟩⟩⟩
    cases hA with
    | white i2 hC2 hi2 l hw2 hR ht2 hM =>
      obtain rfl := hw.cls.unique hC2
      rw [hf.row] at hw2
      have hw3 : Wh = at' :: l := hw2
      subst hw3
      obtain ⟨k1, k2⟩ := hf.small hi2
      refine ⟨at', T', D', R', top', M, l, rfl, hl', ht, fin l ?_ (fun _ => ⟨?_, ?_⟩) (fun e => by omega), hni, r1, by omega⟩
      · rw [hR]
        unfold put1
        rw [if_pos rfl, hf.row]
        rfl
      · rw [ht2, k1]
        have : (at' :: l).length + B.length = l.length + (B ++ [at']).length := by simp; omega
        rw [this]
      · rcases k2 with k2 | k2
        · cases k2
        · exact Or.inr (by rw [← k2]; simp; omega)
    | fresh i2 hC2 hi2 hw2 hr ha hR ht2 hM =>
      obtain rfl := hw.cls.unique hC2
      rw [hf.row] at hw2
      have hw3 : Wh = [] := hw2
      subst hw3
      obtain ⟨k1, k2⟩ := hf.small hi2
      refine ⟨at', T', D', R', top', M, [], rfl, hl', ht, fin [] ?_ (fun _ => ⟨?_, Or.inl rfl⟩) (fun e => by omega), hni, r1, by omega⟩
      · rw [hR]
        unfold put1
        rw [if_pos rfl, hf.row]
        rfl
      · rw [ht2, k1]
        simp only [List.length_nil, Nat.zero_add, List.length_append, List.length_cons]
        rw [show ((B.length + 1 : Nat) : Int) = (B.length : Int) + 1 by omega, Int.add_mul, Int.one_mul]
        omega
    | big hC2 he ha hR ht2 hM =>
      obtain rfl := hw.cls.unique hC2
      obtain ⟨k1, k2, k3⟩ := hf.big rfl
      subst k1
      have hq := mul_step (W := size + 3) hB (by omega)
      have hb := (hw.big rfl).1
      rw [k2] at hM
      have hM' := whole_took (by omega) (by omega) (by have : 0 ≤ (B.length : Int) * (size + 3) := Int.mul_nonneg (by omega) (by omega); omega) (by omega) hM
      refine ⟨at', T', D', R', top', M, [], rfl, hl', ht, fin [] ?_ (fun e => by omega) (fun _ => ⟨rfl, ?_⟩), hni, r1, by omega⟩
      · rw [hR]
        unfold put1
        rw [if_pos rfl, hf.row]
        rfl
      · rw [hM']
        simp only [List.length_append, List.length_cons, List.length_nil, Nat.zero_add]
        rw [show ((B.length + 1 : Nat) : Int) = (B.length : Int) + 1 by omega, Int.add_mul, Int.one_mul]
        congr 1 <;> omega
  · exfalso
    rcases hF with ⟨i2, hC2, hi2, hw2, hr⟩ | ⟨hC2, he⟩
    · obtain rfl := hw.cls.unique hC2
      rw [hf.row] at hw2
      have hw3 : Wh = [] := hw2
      subst hw3
      obtain ⟨k1, k2⟩ := hf.small hi2
      simp only [List.length_nil, Nat.zero_add] at k1
      have hz := hf.inv.sz i hi2
      have hq := mul_step (W := x.sz i + 3) hB (by omega)
      have hb := (hw.small hi2).1
      omega
    · obtain rfl := hw.cls.unique hC2
      obtain ⟨k1, k2, k3⟩ := hf.big rfl
      have hq := mul_step (W := size + 3) hB (by omega)
      have hb := (hw.big rfl).1
      rw [k2] at he
      exact he (whole_ok (by omega) (by omega)).1

set_option maxHeartbeats 4000000 in
theorem fill_full {x : HSpot} {size : Int} {i tot : Nat} {T : Nat → Nat} {D : Nat → Int} {R : Nat → Rows} {top par : Int} {L : List (Int × Int)} {B Wh : List Int} {w w' : World} {e : Ending} {pw pe : Int} (hw : Wants x size i tot) (hf : Fil x size i tot D R top par L B Wh) (hB : B.length = tot)
    (hp : pe = 0) (h : AllocsE pe pw x T D R top par L size w e w') : Wh = [] ∧ ∃ T', e = .returned (.tuple #[.int .i64 0, .int .i64 2]) ∧ HLies x T' D R top par L w' ∧ HTurn T T' w w' := by
  have s0 := hw.s0
  have hWh : Wh = [] := by
    by_cases g : i = x.k
    · exact (hf.big g).1
    · have := hw.cls.le
      rcases (hf.small (by omega)).2 with e | e
      · exact e
      · exact List.length_eq_zero_iff.1 (by omega)
  refine ⟨hWh, ?_⟩
  rcases h with ⟨h0, -⟩ | ⟨-, at', T', D', R', top', M, rfl, hl', ht, hA, hW⟩ | ⟨-, T', rfl, hl', ht, hF⟩
  · exact absurd hp h0
  · exfalso
    cases hA with
    | white i2 hC2 hi2 l hw2 hR ht2 hM =>
      obtain rfl := hw.cls.unique hC2
      rw [hf.row] at hw2
      have hw3 : Wh = at' :: l := hw2
      rw [hWh] at hw3
      cases hw3
    | fresh i2 hC2 hi2 hw2 hr ha hR ht2 hM =>
      obtain rfl := hw.cls.unique hC2
      obtain ⟨k1, k2⟩ := hf.small hi2
      rw [hWh, hB] at k1
      simp only [List.length_nil, Nat.zero_add] at k1
      have hb := (hw.small hi2).2
      omega
    | big hC2 he ha hR ht2 hM =>
      obtain rfl := hw.cls.unique hC2
      obtain ⟨k1, k2, k3⟩ := hf.big rfl
      have hb := (hw.big rfl).2
      rw [k2, hB] at he
      exact whole_err (by omega) (by omega) he
  · exact ⟨T', rfl, hl', ht⟩

theorem HInv.rows {x : HSpot} {D : Nat → Int} {R R' : Nat → Rows} {top : Int} {L : List (Int × Int)} (h : HInv x D R top L) (hm : ∀ i, i ≤ x.k → ∀ a, a ∈ (R' i).all ↔ a ∈ (R i).all) (hl : ∀ i, i ≤ x.k → (R' i).all.length = (R i).all.length) : HInv x D R' top L :=
  ⟨h.t0, h.t1, h.ln, h.n6, h.sz, fun i hi a ha => h.one i hi a ((hm i hi a).1 ha), fun i hi a ha => h.cell i hi a ((hm i (Nat.le_of_lt hi) a).1 ha), fun a ha => h.big a ((hm _ (Nat.le_refl _) a).1 ha),
    fun i hi j hj a ha b hb => h.apart i hi j hj a ((hm i hi a).1 ha) b ((hm j hj b).1 hb), fun i hi => by rw [hl i hi]; exact h.len i hi⟩

/-- A heap while it is swept: which large ones are there, how many are gone. -/
structure Swp (x : HSpot) (size : Int) (i tot : Nat) (D : Nat → Int) (R : Nat → Rows) (top par : Int) (L : List (Int × Int)) (Wh : List Int) (m : Nat) : Prop where
  row : R i = ⟨Wh, [], [], []⟩
  rest : ∀ j, j ≤ x.k → j ≠ i → R j = none4
  inv : HInv x D R top L
  par : par = 0 ∨ par = 1
  small : i < x.k → m = 0 ∧ Wh.length = tot ∧ top = 1 + (tot : Int) * (x.sz i + 3)
  big : i = x.k → m + Wh.length = tot ∧ Ex.total L = x.n - x.lim - Wh.length * (size + 3) ∧ ∀ c, c ∈ Wh → ∃ kd a m, Head D c kd size a m

/-- All asked: Begin, then End. -/
def cycled (x : HSpot) (R : Nat → Rows) : Nat → Rows := mix Rows.fin (mix Rows.begin R (x.k + 1)) (x.k + 1)
theorem cycled_at {x : HSpot} {R : Nat → Rows} {j : Nat} (hj : j ≤ x.k) : cycled x R j = ((R j).begin).fin := by
  unfold cycled mix
  rw [if_pos (by omega), if_pos (by omega)]
theorem fill_swept {x : HSpot} {size : Int} {i tot : Nat} {D : Nat → Int} {R : Nat → Rows} {top par : Int} {L : List (Int × Int)} {B : List Int} (hi : i ≤ x.k) (hf : Fil x size i tot D R top par L B []) (hB : B.length = tot) : Swp x size i tot D (cycled x R) top (1 - par) L B 0 := by
  have hall : ∀ j, j ≤ x.k → (cycled x R j).all = (R j).all := fun j hj => by
    rw [cycled_at hj]
    by_cases e : j = i
    · subst e
      rw [hf.row]
      simp [Rows.all, Rows.begin, Rows.fin]
    · rw [hf.rest j hj e]
      rfl
  refine ⟨?_, fun j hj e => ?_, hf.inv.rows (fun j hj a => by rw [hall j hj]) (fun j hj => by rw [hall j hj]), by have := hf.par; omega, fun g => ⟨rfl, hB, ?_⟩, fun g => ⟨by omega, ?_, (hf.big g).2.2⟩⟩
  · rw [cycled_at hi, hf.row]
    simp [Rows.begin, Rows.fin]
  · rw [cycled_at hj, hf.rest j hj e]
    rfl
  · have := (hf.small g).1
    simp only [List.length_nil, Nat.zero_add, hB] at this
    exact this
  · rw [(hf.big g).2.1, total_whole]
theorem swept_fill {x : HSpot} {size : Int} {i tot : Nat} {D : Nat → Int} {R : Nat → Rows} {top par : Int} {L : List (Int × Int)} {Wh : List Int} {m : Nat} (hG : Ex.Good x.lim (x.lim + (x.n - x.lim : Int)) L) (hs : Swp x size i tot D R top par L Wh m) (he : i = x.k → Wh = []) : Fil x size i tot D R top par L [] Wh := by
  refine ⟨hs.row, hs.rest, hs.inv, hs.par, fun g => ?_, fun g => ⟨he g, ?_, fun c hc => by cases hc⟩⟩
  · obtain ⟨h1, h2, h3⟩ := hs.small g
    simp only [List.length_nil, Nat.add_zero]
    rw [h2]
    exact ⟨h3, Or.inr rfl⟩
  · have h2 := (hs.big g).2.1
    rw [he g] at h2
    simp only [List.length_nil, Int.natCast_zero, Int.zero_mul, Int.sub_zero, Int.add_zero] at h2 ⊢
    exact whole_of_total hG h2

theorem swept_step {x : HSpot} {size : Int} {i tot : Nat} {D D' : Nat → Int} {R : Nat → Rows} {top par : Int} {L M : List (Int × Int)} {c : Int} {l : List Int} {m : Nat} (ek : i = x.k) (hG : Ex.Good x.lim (x.lim + (x.n - x.lim : Int)) L) (hs : Swp x size i tot D R top par L (c :: l) m) (hnd : (R x.k).all.Nodup)
    (hD : SameBut (R x.k) D D') (hM : Ex.Given x.lim (x.lim + (x.n - x.lim : Int)) x.lim (x.n - x.lim : Int) c (size + 3) L M) : Swp x size i tot D' (put1 R x.k (R x.k).drop) top par M l (m + 1) := by
  subst ek
  obtain ⟨b1, b2, b3⟩ := hs.big rfl
  have hW : (R x.k).white = c :: l := by rw [hs.row]
  obtain ⟨kd, a, mk, hd⟩ := b3 c (List.mem_cons_self ..)
  have hc : c ∈ (R x.k).all := List.mem_append_left _ (by rw [hW]; exact List.mem_cons_self ..)
  have hI' := sweep_inv hs.inv hW hd hnd hD hM
  refine ⟨?_, fun j hj e => ?_, hI', hs.par, fun g => absurd g (Nat.lt_irrefl _), fun _ => ⟨by simp at b1; omega, ?_, fun b hb => ?_⟩⟩
  · unfold put1
    rw [if_pos rfl, hs.row]
    rfl
  · unfold put1
    rw [if_neg e]
    exact hs.rest j hj e
  · rw [hM.2.2, if_pos (big_given hs.inv hG hc hd), b2]
    simp only [List.length_cons]
    rw [show ((l.length + 1 : Nat) : Int) = (l.length : Int) + 1 by omega, Int.add_mul, Int.one_mul]
    omega
  · obtain ⟨kd', a', mk', hd'⟩ := b3 b (List.mem_cons_of_mem _ hb)
    have hbm : b ∈ (R x.k).all := by rw [hs.row]; simp [Rows.all, hb]
    have q1 := hs.inv.one x.k (Nat.le_refl _) b hbm
    have q3 := (hs.inv.obj (Nat.le_refl _) hbm (show (0 : Int) + 3 ≤ wid x D x.k b by have := wid_three hs.inv x.k b; omega)).word (by omega)
    exact ⟨kd', a', mk', hd'.fit, (hD b.toNat fun hq => q3 x.k (Nat.le_refl _) _ hq (by omega)).trans hd'.word⟩

end Go.Proofs.Ythcgmfcibjinlaa

/- A heap that is collected, in numbers. -/
namespace Go.Proofs.Ythcgmfcibjinlaa
open Go.RowKit

/-- How many cells stand in one row of each of the first rings, together. -/
def tot (f : Rows → List Int) (R : Nat → Rows) : Nat → Nat
  | 0 => 0
  | k + 1 => tot f R k + (f (R k)).length
theorem tot_same {f g : Rows → List Int} {R R' : Nat → Rows} {k : Nat} (h : ∀ j, j < k → (f (R' j)).length = (g (R j)).length) : tot f R' k = tot g R k := by
  induction k with
  | zero => rfl
  | succ k ih =>
    unfold tot
    rw [ih fun j hj => h j (by omega), h k (by omega)]
theorem tot_put {f : Rows → List Int} {R R' : Nat → Rows} {i k : Nat} (hi : i < k) (h : ∀ j, j ≠ i → R' j = R j) : tot f R' k + (f (R i)).length = tot f R k + (f (R' i)).length := by
  induction k with
  | zero => omega
  | succ k ih =>
    unfold tot
    by_cases e : i = k
    · subst e
      rw [tot_same (f := f) (g := f) (R := R) fun j hj => by rw [h j (by omega)]]
      omega
    · have := ih (by omega)
      rw [h k (by omega)]
      omega
theorem tot_zero {f : Rows → List Int} {R : Nat → Rows} {k : Nat} (h : tot f R k = 0) : ∀ j, j < k → f (R j) = [] := by
  induction k with
  | zero => intro j hj; omega
  | succ k ih =>
    unfold tot at h
    intro j hj
    by_cases e : j = k
    · subst e
      exact List.length_eq_zero_iff.1 (by omega)
    · exact ih (by omega) j (by omega)
theorem tot_nil {f : Rows → List Int} {R : Nat → Rows} {k : Nat} (h : ∀ j, j < k → f (R j) = []) : tot f R k = 0 := by
  induction k with
  | zero => rfl
  | succ k ih =>
    unfold tot
    rw [ih fun j hj => h j (by omega), h k (by omega)]
    rfl

/-- An object that was made: where, of which size, its number. -/
structure It where
  p : Int
  s : Int
  n : Int

theorem HInv.same {x : HSpot} {D D' : Nat → Int} {R : Nat → Rows} {top : Int} {L : List (Int × Int)} (h : HInv x D R top L) (hD : ∀ a, a ∈ (R x.k).all → Ce.sb (D' a.toNat) = Ce.sb (D a.toNat)) : HInv x D' R top L := by
  have hw : ∀ i, i ≤ x.k → ∀ a, a ∈ (R i).all → wid x D' i a = wid x D i a := fun i hi a ha => by
    unfold wid
    by_cases g : i < x.k
    · rw [if_pos g, if_pos g]
    · obtain rfl : i = x.k := by omega
      rw [if_neg g, if_neg g, hD a ha]
  exact ⟨h.t0, h.t1, h.ln, h.n6, h.sz, h.one, h.cell, fun a ha => by rw [hw _ (Nat.le_refl _) a ha]; exact h.big a ha, fun i hi j hj a ha b hb e => by rw [hw i hi a ha, hw j hj b hb]; exact h.apart i hi j hj a ha b hb e, h.len⟩

/-- Objects, their marks by their places, in a heap that has no others. -/
structure Kept (x : HSpot) (D : Nat → Int) (R : Nat → Rows) (top : Int) (L : List (Int × Int)) (P : List It) (M : Int → Int) : Prop where
  inv : HInv x D R top L
  cls : ∀ t, t ∈ P → ∃ j, Cls x.sz x.k t.s j ∧ t.p ∈ (R j).all
  hd : ∀ t, t ∈ P → Head D t.p 7 t.s t.n (M t.p)
  word : ∀ t, t ∈ P → 0 < t.s → D (t.p + 3 + (t.s - 1)).toNat = 1000 + t.n
  all : ∀ j, j ≤ x.k → ∀ a, a ∈ (R j).all → ∃ t, t ∈ P ∧ t.p = a ∧ Cls x.sz x.k t.s j

section
variable {x : HSpot} {D D' : Nat → Int} {R R' : Nat → Rows} {top : Int} {L : List (Int × Int)} {P : List It} {M : Int → Int}

theorem Kept.obj (h : Kept x D R top L P M) {t : It} (ht : t ∈ P) : ∃ j, Cls x.sz x.k t.s j ∧ t.p ∈ (R j).all ∧ t.s + 3 ≤ wid x D j t.p ∧ Obj1 x R t.p t.s := by
  obtain ⟨j, hC, hm⟩ := h.cls t ht
  have hw := hC.wid (c := t.p) (D := D) (fun _ => (h.hd t ht).size)
  exact ⟨j, hC, hm, hw, h.inv.obj hC.le hm hw⟩

theorem Kept.rows (h : Kept x D R top L P M) (hm : ∀ j, j ≤ x.k → ∀ a, a ∈ (R' j).all ↔ a ∈ (R j).all) (hl : ∀ j, j ≤ x.k → (R' j).all.length = (R j).all.length) : Kept x D R' top L P M :=
  ⟨h.inv.rows hm hl, fun t ht => by
    obtain ⟨j, hC, hj⟩ := h.cls t ht
    exact ⟨j, hC, (hm j hC.le _).2 hj⟩, h.hd, h.word, fun j hj a ha => h.all j hj a ((hm j hj a).1 ha)⟩

set_option maxHeartbeats 2000000 in
/-- One more object. -/
theorem Kept.more {size at' aux top' : Int} {N : List (Int × Int)} (h : Kept x D R top L P M) (hG : Ex.Good x.lim (x.lim + (x.n - x.lim : Int)) L) (hA : AllocP x R top L size at' R' top' N) (hp : Ce.pe 7 size aux 0 = 0) (hW : Wrote x R' D D' at' size (Ce.pw 7 size aux 0))
    (hlen : ∀ i, i ≤ x.k → (R i).all.length < 999) (hw : ∀ j, j ≤ x.k → (R j).white = []) (hnd : ∀ j, j ≤ x.k → (R j).all.Nodup) (hM : M at' = 0) :
    (∀ t, t ∈ P → t.p ≠ at') ∧ Head D' at' 7 size aux 0 ∧ Obj1 x R' at' size ∧
      ∀ E : Nat → Int, (∀ m : Nat, ¬ (at' + 3 ≤ (m : Int) ∧ (m : Int) < at' + size + 3) → E m = D' m) → (0 < size → E (at' + 3 + (size - 1)).toNat = 1000 + aux) → Kept x E R' top' N (P ++ [⟨at', size, aux⟩]) M := by
  have fit := (Ce.pe_fit _ _ _ _).1 hp
  have s0 := fit.2.1.1
  have inv' := alloc_inv h.inv hG hA hW s0 (sb_pw hp) hlen
  obtain ⟨r1, r2, hcl⟩ := hA.room h.inv hG s0
  obtain ⟨i, hi, hC, hat, hne, hmem, hln⟩ := hA.cells
  have head : Head D' at' 7 size aux 0 := ⟨fit, hW.hd.trans (Ce.pw_ok fit)⟩
  have wat := hC.wid (c := at') (D := D') (fun _ => head.size)
  have new : ∀ t, t ∈ P → t.p ≠ at' := fun t ht => by
    obtain ⟨j, hCj, hm⟩ := h.cls t ht
    exact hA.ne h.inv hG s0 hCj.le (hnd j hCj.le) hm (by rw [hw j hCj.le]; simp)
  have up : ∀ j, ∀ a, a ∈ (R j).all → a ∈ (R' j).all := fun j a ha => by
    by_cases e : j = i
    · subst e
      exact (hmem a).2 (Or.inr ha)
    · rw [hne j e]
      exact ha
  have old : ∀ j, ∀ a, a ∈ (R' j).all → (j = i ∧ a = at') ∨ a ∈ (R j).all := fun j a ha => by
    by_cases e : j = i
    · subst e
      rcases (hmem a).1 ha with h | h
      · exact Or.inl ⟨rfl, h⟩
      · exact Or.inr h
    · rw [hne j e] at ha
      exact Or.inr ha
  have hdr : ∀ t, t ∈ P → D' t.p.toNat = D t.p.toNat := fun t ht => by
    obtain ⟨j, hCj, hm, hwt, ho⟩ := h.obj ht
    have h1 := ho.one
    have h2 := hcl j hCj.le t.p (up j _ hm)
    have h3 := new t ht
    have h4 := (h.hd t ht).fit.2.1
    refine hW.keep t.p.toNat (by omega) fun m hm' => ?_
    rintro ⟨c, hc, hl⟩
    rcases old m c hc with ⟨_, e⟩ | hc'
    · omega
    · have := ho.word (by omega) m hm' t.p.toNat ⟨c, hc', hl⟩
      omega
  have apt : ∀ t, t ∈ P → t.p + t.s + 3 ≤ at' ∨ at' + size + 3 ≤ t.p := fun t ht => by
    obtain ⟨j, hCj, hm, hwt, ho⟩ := h.obj ht
    have hwt' := hCj.wid (c := t.p) (D := D') (fun _ => by rw [hdr t ht]; exact (h.hd t ht).size)
    have := inv'.apart j hCj.le i hi t.p (up j _ hm) at' hat (fun _ => new t ht)
    omega
  have keepw : ∀ t, t ∈ P → ∀ q : Int, t.p ≤ q → q < t.p + t.s + 3 → q ≠ t.p + 1 → q ≠ t.p + 2 → D' q.toNat = D q.toNat := fun t ht q q1 q2 q3 q4 => by
    obtain ⟨j, hCj, hm, hwt, ho⟩ := h.obj ht
    have h1 := ho.one
    have h3 := apt t ht
    refine hW.keep q.toNat (by omega) fun m hm' => ?_
    rintro ⟨c, hc, hl⟩
    rcases old m c hc with ⟨_, e⟩ | hc'
    · omega
    · have := ho.links m hm' q.toNat ⟨c, hc', hl⟩
      omega
  refine ⟨new, head, inv'.obj hi hat wat, fun E hE hE1 => ?_⟩
  have keepE : ∀ t, t ∈ P → ∀ q : Int, t.p ≤ q → q < t.p + t.s + 3 → q ≠ t.p + 1 → q ≠ t.p + 2 → E q.toNat = D q.toNat := fun t ht q q1 q2 q3 q4 => by
    have h1 := (h.obj ht)
    obtain ⟨j, hCj, hm, hwt, ho⟩ := h1
    have h1 := ho.one
    have h3 := apt t ht
    rw [hE q.toNat (by omega)]
    exact keepw t ht q q1 q2 q3 q4
  have headE : Head E at' 7 size aux 0 := ⟨fit, (hE at'.toNat (by omega)).trans head.word⟩
  refine ⟨inv'.same fun a ha => ?_, fun t ht => ?_, fun t ht => ?_, fun t ht hs => ?_, fun j hj a ha => ?_⟩
  · have h1 := inv'.one x.k (Nat.le_refl _) a ha
    have h2 := hcl x.k (Nat.le_refl _) a ha
    rw [hE a.toNat (by omega)]
  · rcases List.mem_append.1 ht with ht | ht
    · obtain ⟨j, hCj, hm⟩ := h.cls t ht
      exact ⟨j, hCj, up j _ hm⟩
    · rw [List.mem_singleton] at ht
      subst ht
      exact ⟨i, hC, hat⟩
  · rcases List.mem_append.1 ht with ht | ht
    · have h1 := h.hd t ht
      have h4 := h1.fit.2.1
      exact ⟨h1.fit, (keepE t ht t.p (by omega) (by omega) (by omega) (by omega)).trans h1.word⟩
    · rw [List.mem_singleton] at ht
      subst ht
      simp only
      rw [hM]
      exact headE
  · rcases List.mem_append.1 ht with ht | ht
    · exact (keepE t ht _ (by omega) (by omega) (by omega) (by omega)).trans (h.word t ht hs)
    · rw [List.mem_singleton] at ht
      subst ht
      exact hE1 hs
  · rcases old j a ha with ⟨rfl, rfl⟩ | ha
    · exact ⟨_, List.mem_append_right _ (List.mem_singleton.2 rfl), rfl, hC⟩
    · obtain ⟨t, h1, h2, h3⟩ := h.all j hj a ha
      exact ⟨t, List.mem_append_left _ h1, h2, h3⟩

theorem shade_mem {R : Rows} {c b : Int} (hc : c ∈ R.frm) : b ∈ (R.shade c).all ↔ b ∈ R.all := by
  refine ⟨shade_all hc, fun h => ?_⟩
  unfold Rows.all Rows.shade at *
  simp only [List.mem_append, List.mem_singleton] at *
  rcases h with h | h | h | h
  · exact Or.inl h
  · by_cases e : b = c
    · exact Or.inr (Or.inr (Or.inl (Or.inr e)))
    · exact Or.inr (Or.inl ((List.mem_erase_of_ne e).2 h))
  · exact Or.inr (Or.inr (Or.inl (Or.inl h)))
  · exact Or.inr (Or.inr (Or.inr h))
theorem shade_len {R : Rows} {c : Int} (hc : c ∈ R.frm) : (R.shade c).all.length = R.all.length := by
  unfold Rows.all Rows.shade
  have := List.length_erase_of_mem hc
  have h2 := List.length_pos_of_mem hc
  simp only [List.length_append, List.length_cons, List.length_nil]
  omega

/-- One is shaded. -/
theorem Kept.shade {i : Nat} {t : It} (h : Kept x D R top L P M) (ht : t ∈ P) (hC : Cls x.sz x.k t.s i) (hf : t.p ∈ (R i).frm) (hS : SameBut (R i) D D') :
    Kept x (putW D' t.p (Ce.pw 7 t.s t.n 1)) (fun j => if j = i then (R i).shade t.p else R j) top L P (fun a => if a = t.p then 1 else M a) := by
  have h0 := h.hd t ht
  have fit : Ce.Fit 7 t.s t.n 1 := ⟨h0.fit.1, h0.fit.2.1, h0.fit.2.2.1, by omega, by omega⟩
  obtain ⟨j0, hC0, hm0, hw0, ho⟩ := h.obj ht
  have one := ho.one
  have far : ∀ u, u ∈ P → u.p ≠ t.p → t.p + t.s + 3 ≤ u.p ∨ u.p + u.s + 3 ≤ t.p := fun u hu e => by
    obtain ⟨j, hCj, hm, hwj, hou⟩ := h.obj hu
    have := h.inv.apart j hCj.le j0 hC0.le u.p hm t.p hm0 (fun _ => e)
    omega
  have keep : ∀ u, u ∈ P → ∀ q : Int, u.p ≤ q → q < u.p + u.s + 3 → q ≠ u.p + 1 → q ≠ u.p + 2 → q ≠ t.p → putW D' t.p (Ce.pw 7 t.s t.n 1) q.toNat = D q.toNat := fun u hu q q1 q2 q3 q4 q5 => by
    obtain ⟨j, hCj, hm, hwj, hou⟩ := h.obj hu
    have h1 := hou.one
    rw [putW_other (by omega)]
    refine hS q.toNat fun hl => ?_
    have := hou.links i hC.le q.toNat hl
    omega
  have hd' : ∀ u, u ∈ P → Head (putW D' t.p (Ce.pw 7 t.s t.n 1)) u.p 7 u.s u.n (if u.p = t.p then 1 else M u.p) := fun u hu => by
    have h1 := h.hd u hu
    have h4 := h1.fit.2.1
    by_cases e : u.p = t.p
    · rw [if_pos e]
      have hw := h1.word
      rw [e, h0.word] at hw
      have e1 := Ce.parts_of h0.fit rfl
      have e2 := Ce.parts_of h1.fit rfl
      rw [hw] at e1
      rw [e] at e2
      have es : u.s = t.s := by rw [← e1.2.1, e2.2.1]
      have en : u.n = t.n := by rw [← e1.2.2.1, e2.2.2.1]
      rw [e, es, en]
      exact ⟨fit, putW_same.trans (Ce.pw_ok fit)⟩
    · rw [if_neg e]
      exact ⟨h1.fit, (keep u hu u.p (by omega) (by omega) (by omega) (by omega) e).trans h1.word⟩
  have hm : ∀ j, j ≤ x.k → ∀ a, a ∈ (if j = i then (R i).shade t.p else R j).all ↔ a ∈ (R j).all := fun j _ a => by
    by_cases e : j = i
    · subst e
      rw [if_pos rfl]
      exact shade_mem hf
    · rw [if_neg e]
  have hl : ∀ j, j ≤ x.k → (if j = i then (R i).shade t.p else R j).all.length = (R j).all.length := fun j _ => by
    by_cases e : j = i
    · subst e
      rw [if_pos rfl]
      exact shade_len hf
    · rw [if_neg e]
  have hk := h.rows (R' := fun j => if j = i then (R i).shade t.p else R j) hm hl
  refine ⟨hk.inv.same fun a ha => ?_, hk.cls, hd', fun u hu hs => ?_, hk.all⟩
  · obtain ⟨u, hu, rfl, hCu⟩ := hk.all x.k (Nat.le_refl _) a ha
    exact (hd' u hu).size.trans (h.hd u hu).size.symm
  · refine (keep u hu _ (by omega) (by omega) (by omega) (by omega) ?_).trans (h.word u hu hs)
    intro e
    by_cases e2 : u.p = t.p
    · omega
    · have := far u hu e2
      have := h0.fit.2.1
      omega
end

end Go.Proofs.Ythcgmfcibjinlaa
