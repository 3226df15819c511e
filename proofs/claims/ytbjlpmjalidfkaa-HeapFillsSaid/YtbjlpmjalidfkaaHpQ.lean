/- All rings, one behind the other: the heap's iterator. -/
import Derived.Test.YtbjlpmjalidfkaaHpN
import Derived.Test.YtbjlpmjalidfkaaRiI
namespace Go.Proofs.Ytbjlpmjalidfkaa
open Go.RowKit Go.Shelf

attribute [local go_sem] Oper.semAt_some

/-- What the iterator reads of a heap. -/
structure Seen (x : HSpot) (bx : Nat) (W : World) : Prop where
  box : W.cell? ⟨bx, 0, none⟩ = some (.pointer (some ⟨x.h, 0, none⟩))
  large : W.cell? ⟨x.h, 2, none⟩ = some (.pointer (some ⟨(x.S x.k).r, 0, none⟩))
  cls : ∃ cb cap, W.cell? ⟨x.h, 1, none⟩ = some (.slice (some ⟨cb, 0, none⟩) x.k cap) ∧ ∀ i, i < x.k → W.cell? ⟨cb, i * 2, none⟩ = some (.int .i64 (x.sz i)) ∧ W.cell? ⟨cb, i * 2 + 1, none⟩ = some (.pointer (some ⟨(x.S i).r, 0, none⟩))

set_option maxRecDepth 100000 in
set_option maxHeartbeats 4000000 in
theorem rings_each (n : Nat) (hn : 2 ≤ n) (l bx : Nat) (x : HSpot) (k6 : x.k ≤ 6) (J : Nat → World → Prop) (cb cap : Nat)
    (hJ : ∀ m W, J m W → W.cell? ⟨bx, 0, none⟩ = some (.pointer (some ⟨x.h, 0, none⟩)) ∧ W.cell? ⟨x.h, 2, none⟩ = some (.pointer (some ⟨(x.S x.k).r, 0, none⟩)) ∧ W.cell? ⟨x.h, 1, none⟩ = some (.slice (some ⟨cb, 0, none⟩) x.k cap) ∧
      ∀ i, i < x.k → W.cell? ⟨cb, i * 2, none⟩ = some (.int .i64 (x.sz i)) ∧ W.cell? ⟨cb, i * 2 + 1, none⟩ = some (.pointer (some ⟨(x.S i).r, 0, none⟩)))
    (hA : ∀ m W o, J m W → J m (W.alloc o))
    (hY : ∀ m W, J m W → m ≤ x.k → YieldAt Fence.wide (n - 1) Try.prog l #[.pointer (some ⟨(x.S m).r, 0, none⟩)] W fun e W' => e = .returned (.bool true) ∧ J (m + 1) W')
    (W : World) (h0 : J 0 W) :
    CallsIn Fence.wide n Try.prog 90 #[.func (.yield l) #[] #[], .pointer (some ⟨bx, 0, none⟩)] W fun e W' => (∃ v, e = .returned v) ∧ J (x.k + 1) W' := by
  obtain ⟨hb0, hl0, hc0, -⟩ := hJ _ _ h0
  have h1n : 1 ≤ n := by omega
  have HJ := Lib.hid hJ
  have HA := Lib.hid hA
  have HY := Lib.hid hY
  have H0 := Lib.hid h0
  clear hJ hA hY h0 hl0
  refine callsIn_of_wp Try.func90 rfl trivial ?_ rfl
  simp only [Try.ntmps90, List.size_toArray, List.length_cons, List.length_nil, Nat.reduceAdd, Nat.reduceSub, Array.replicate_succ, Array.replicate_zero, List.push_toArray, List.append_toArray, List.nil_append, List.cons_append]
  gi_wp2_with fail
  clear hb0 hc0
  gi_loopw [10] (fun s10 wr => ∃ m : Nat, m ≤ x.k ∧ s10 = .int .i64 m ∧ J m wr) (fun s10 _ => x.k - (intOf s10).toNat)
  case atStart => exact ⟨0, Nat.zero_le _, rfl, H0.out⟩
  case round =>
    obtain ⟨m, hm, rfl, hj⟩ := hrel
    have HJM := Lib.hid hj
    obtain ⟨b0, l0, c1, hcs⟩ := HJ.out _ _ hj
    clear hj
    by_cases hlt : m < x.k
    · have hlt' : (m : Int) < (x.k : Int) := by omega
      obtain ⟨d0, d1⟩ := hcs m hlt
      have hja := HA.out m wr (.cells #[.int .i64 (x.sz m), .pointer (some ⟨(x.S m).r, 0, none⟩)] 101) HJM.out
      obtain ⟨fn, tmps, assign, body, hyy, hRR⟩ := HY.out _ _ hja (by omega)
      clear hcs
      gi_wp2_with fail
      refine hRR.mono ?_
      rintro e W3 ⟨rfl, hj3⟩
      have HJ3 := Lib.hid hj3
      clear hRR hyy hj3 hja
      gi_wp2_with fail
      exact ⟨⟨m + 1, by omega, by go_num, HJ3.out⟩, by simp [intOf]; omega⟩
    · obtain rfl : m = x.k := by omega
      obtain ⟨fn, tmps, assign, body, hyy, hRR⟩ := HY.out _ _ HJM.out (Nat.le_refl _)
      clear hcs
      gi_wp2_with fail
      refine hRR.mono ?_
      rintro e W3 ⟨rfl, hj3⟩
      have HJ3 := Lib.hid hj3
      clear hRR hyy hj3
      gi_wp2_with fail
      go_end0
      exact ⟨⟨_, rfl⟩, HJ3.out⟩

set_option maxHeartbeats 1000000 in
set_option maxRecDepth 100000 in
theorem rings_any (h : Nat) (w : World) :
    Calls Try.prog 65 #[.pointer (some ⟨h, 0, none⟩)] w fun e w' => e = .returned (.func (.func 90) #[] #[.pointer (some ⟨w.heap.size, 0, none⟩)]) ∧ w' = w.alloc (.cells #[.pointer (some ⟨h, 0, none⟩)] 46) := by
  have hmf := mkfunc2
  go_enter Try.func65, Try.ntmps65
  go_wp2_with fail
  go_ret
  exact ⟨rfl, rfl⟩

/-- It lies on where the blocks that were there stand: all later ones are nobody's. -/
theorem HLies.others {x : HSpot} {T : Nat → Nat} {D : Nat → Int} {R : Nat → Rows} {top par : Int} {L : List (Int × Int)} {w w' : World} {z : Nat} (h : HLies x T D R top par L w) (hT : ∀ b, z ≤ b → T b = 1000) (hk : ∀ b, b < z → w'.heap[b]? = w.heap[b]?) (hs : w.heap.size ≤ w'.heap.size) : HLies x T D R top par L w' := by
  obtain ⟨u, hu⟩ := h.at
  obtain ⟨cb, cap, g, ht, -⟩ := h.rest
  have lt : ∀ b, T b ≠ 1000 → b < z := fun b hb => Nat.lt_of_not_le fun e => hb (hT b e)
  exact h.anew hs (fun b _ hb => hk b (lt b (by have := h.k6; omega))) ⟨u, hu.move (hk _ (lt _ (by rw [ht.p]; omega))) (hk _ (lt _ (by rw [ht.d]; omega))) hs⟩ (fun _ _ _ _ => rfl)

/-- Some rings have turned. -/
def mix (F : Rows → Rows) (R : Nat → Rows) (m : Nat) : Nat → Rows := fun j => if j < m then F (R j) else R j

/-- In the midst of each. -/
structure EachI (x : HSpot) (T : Nat → Nat) (D : Nat → Int) (R : Nat → Rows) (F : Rows → Rows) (top par : Int) (L : List (Int × Int)) (gf cb cap : Nat) (w : World) (m : Nat) (W : World) : Prop where
  lies : HLies x T D (mix F R m) top par L W
  b0 : W.cell? ⟨w.heap.size, 0, none⟩ = some (.func (.func gf) #[] #[])
  b1 : W.cell? ⟨w.heap.size + 1, 0, none⟩ = some (.pointer (some ⟨x.h, 0, none⟩))
  cl : W.cell? ⟨x.h, 1, none⟩ = some (.slice (some ⟨cb, 0, none⟩) x.k cap)
  turn : HTurn T T w W
  size : w.heap.size + 2 ≤ W.heap.size
theorem EachI.same {x : HSpot} {T : Nat → Nat} {D : Nat → Int} {R : Nat → Rows} {F : Rows → Rows} {top par : Int} {L : List (Int × Int)} {gf cb cap : Nat} {w W W' : World} {m : Nat} (h : EachI x T D R F top par L gf cb cap w m W) (hT : ∀ b, w.heap.size ≤ b → T b = 1000) (hk : ∀ b, b < w.heap.size + 2 → W'.heap[b]? = W.heap[b]?) (hs : W.heap.size ≤ W'.heap.size)
    (h1 : W'.os = W.os) (h2 : W'.tape = W.tape) (h3 : W'.output = W.output) : EachI x T D R F top par L gf cb cap w m W' :=
  ⟨h.lies.others hT (fun b hb => hk b (by omega)) hs, (World.cell?_of_block (w := W) (hk _ (by simp only; omega))).trans h.b0, (World.cell?_of_block (w := W) (hk _ (by simp only; omega))).trans h.b1,
    (World.cell?_of_block (w := W) (hk _ (by
      obtain ⟨_, _, _, ht, _⟩ := h.lies.rest
      have : x.h < w.heap.size := Nat.lt_of_not_le fun e => by have := hT _ e; rw [ht.h] at this; omega
      simp only; omega))).trans h.cl,
    ⟨h1.trans h.turn.os, h2.trans h.turn.tape, h3.trans h.turn.output, Nat.le_trans h.turn.size hs, fun b hb ht => ⟨ht, (hk b (by omega)).trans (h.turn.block b hb ht).2⟩⟩, Nat.le_trans h.size hs⟩

theorem EachI.seen {x : HSpot} {T : Nat → Nat} {D : Nat → Int} {R : Nat → Rows} {F : Rows → Rows} {top par : Int} {L : List (Int × Int)} {gf cb cap : Nat} {w W : World} {m : Nat} (h : EachI x T D R F top par L gf cb cap w m W) :
    ∀ i, i < x.k → W.cell? ⟨cb, i * 2, none⟩ = some (.int .i64 (x.sz i)) ∧ W.cell? ⟨cb, i * 2 + 1, none⟩ = some (.pointer (some ⟨(x.S i).r, 0, none⟩)) := by
  obtain ⟨cb', cap', g, -, hc, hcs, -⟩ := h.lies.rest
  have e := hc.symm.trans h.cl
  simp only [Option.some.injEq, Value.slice.injEq, Addr.mk.injEq, and_true, true_and] at e
  obtain ⟨rfl, _⟩ := e
  exact hcs
theorem keeps_turn {s : Spot} {R : Rows} {D : Nat → Int} {W W' : World} (h : RingD s R D W) (ht : Turn s W W') (hn : 0 < s.n) : KeepsOthers W W' := by
  obtain ⟨C, F, hL, -⟩ := h
  obtain ⟨u, hA⟩ := hL.words
  refine ⟨ht.size, fun k o hk ho => ?_⟩
  have no : ∀ b j v, W.cell? ⟨b, j, none⟩ = some v → k ≠ b := fun b j v hv e => by
    obtain ⟨o', h1, h2⟩ := cells_of_cell hv
    subst e
    rw [hk] at h1
    cases h1
    rw [ho] at h2
    cases h2
  refine (ht.block k (Array.getElem?_eq_some_iff.1 hk).1 (no _ _ _ hL.arena) (no _ _ _ hA.words) ?_).trans hk
  exact no _ _ _ (hA.data 0 hn)
theorem EachI.step {x : HSpot} {T : Nat → Nat} {D : Nat → Int} {R : Nat → Rows} {F : Rows → Rows} {top par : Int} {L : List (Int × Int)} {gf cb cap : Nat} {w W W' : World} {m : Nat} (h : EachI x T D R F top par L gf cb cap w m W) (hm : m ≤ x.k) (hn : 0 < x.n) (hT : ∀ b, w.heap.size ≤ b → T b = 1000)
    (h0 : RingD (x.S m) (R m) D W) (hR : RingD (x.S m) (F (R m)) D W') (ht : Turn (x.S m) W W') : KeepsOthers W W' ∧ EachI x T D R F top par L gf cb cap w (m + 1) W' := by
  obtain ⟨h1, t1⟩ := h.lies.ring hm hR ht (fun _ _ _ _ _ => rfl)
  have e : (fun j => if j = m then F (R m) else mix F R m j) = mix F R (m + 1) := by
    funext j
    unfold mix
    by_cases g : j = m
    · subst g
      rw [if_pos rfl, if_pos (Nat.lt_succ_self _)]
    · rw [if_neg g]
      by_cases g2 : j < m
      · rw [if_pos g2, if_pos (by omega)]
      · rw [if_neg g2, if_neg (by omega)]
  rw [e] at h1
  obtain ⟨cb', cap', g, hTg, -⟩ := h.lies.rest
  have nb : ∀ b, T b = 1000 ∨ T b = 0 → b < W.heap.size → W'.heap[b]? = W.heap[b]? := fun b hb hl => by
    obtain ⟨e1, e2, e3⟩ := h.lies.sp m hm
    have k6 := h.lies.k6
    refine ht.block b hl (fun e => ?_) (fun e => ?_) (fun e => ?_)
    · have := hTg.s m hm _ (Or.inl rfl)
      rw [e] at hb
      omega
    · rw [e1] at e
      have := hTg.p
      rw [e] at hb
      omega
    · rw [e2] at e
      have := hTg.d
      rw [e] at hb
      omega
  have sz := h.size
  exact ⟨keeps_turn h0 ht (by rw [(h.lies.sp m hm).2.2]; exact hn), h1, (World.cell?_of_block (w := W) (nb _ (Or.inl (hT _ (Nat.le_refl _))) (by simp only; omega))).trans h.b0, (World.cell?_of_block (w := W) (nb _ (Or.inl (hT _ (by simp only; omega))) (by simp only; omega))).trans h.b1,
    (World.cell?_of_block (w := W) (nb _ (Or.inr hTg.h) h.lies.lh)).trans h.cl, h.turn.trans t1, Nat.le_trans h.size ht.size⟩
theorem prefix_range {pre : List Nat} {y n : Nat} (h : pre ++ [y] <+: List.range n) : y = pre.length ∧ pre.length < n := by
  obtain ⟨t, ht⟩ := h
  have h1 := congrArg (fun l => l[pre.length]?) ht
  have h2 := congrArg List.length ht
  simp at h1 h2
  have hl : pre.length < n := by omega
  rw [List.getElem?_range hl] at h1
  exact ⟨by simpa using h1, hl⟩
theorem range_one {m k : Nat} (h : m ≤ k) : List.range m ++ [m] <+: List.range (k + 1) := by
  rw [← List.range_succ]
  have e : List.range (m + 1) = (List.range (k + 1)).take (m + 1) := by
    rw [List.take_range]
    congr 1
    omega
  rw [e]
  exact List.take_prefix _ _

set_option maxRecDepth 100000 in
set_option maxHeartbeats 8000000 in
theorem each_any (x : HSpot) (T : Nat → Nat) (D : Nat → Int) (R : Nat → Rows) (top par : Int) (L : List (Int × Int)) (w : World) (h : HLies x T D R top par L w) (hn : 0 < x.n) (gf : Nat) (F : Rows → Rows) (eg : ∀ args w, (callFunc gf args).run Try.prog w = .ok (.enter gf args) w)
    (hg : ∀ i, i ≤ x.k → ∀ W, RingD (x.S i) (R i) D W → Calls Try.prog gf #[.pointer (some ⟨(x.S i).r, 0, none⟩)] W fun e W' => e = .returned (.int .i64 0) ∧ (∃ D', RingD (x.S i) (F (R i)) D' W' ∧ D' = D) ∧ Turn (x.S i) W W') :
    Calls Try.prog 62 #[.pointer (some ⟨x.h, 0, none⟩), .func (.func gf) #[] #[]] w fun e w' => (∃ v, e = .returned v) ∧ ∃ T', HLies x T' D (mix F R (x.k + 1)) top par L w' ∧ HTurn T T' w w' := by
  have H := Lib.hid h
  have HG := Lib.hid hg
  clear h hg
  refine (callsIn_wide (n := 4)).1 ?_
  refine callsIn_of_wp_marks Try.func62 rfl trivial ?_ rfl
  simp only [Try.ntmps62, List.size_toArray, List.length_cons, List.length_nil, Nat.reduceAdd, Nat.reduceSub, Array.replicate_succ, Array.replicate_zero, List.push_toArray, List.append_toArray, List.nil_append, List.cons_append]
  gi_wp2_with fail
  refine ⟨trivial, ?_⟩
  refine (callsIn_wide.2 (rings_any x.h _)).mono ?_
  rintro e w' ⟨rfl, rfl⟩
  gi_wp2_with fail
  obtain ⟨cb, cap, g, hTg, hcl, -, -⟩ := H.out.rest
  have k6 := H.out.k6
  obtain ⟨h1, t1⟩ := H.out.retag
  have hT : ∀ b, w.heap.size ≤ b → retag T w.heap.size b = 1000 := fun b hb => if_neg (by omega)
  have hb0 : Below w.heap.size w ((w.alloc (.cells #[.func (.func gf) #[] #[]] 116)).alloc (.cells #[.pointer (some ⟨x.h, 0, none⟩)] 46)) := ((Below.refl _ _).alloc (Nat.le_refl _) _).alloc (by simp) _
  have hE0 : EachI x (retag T w.heap.size) D R F top par L gf cb cap w 0 ((w.alloc (.cells #[.func (.func gf) #[] #[]] 116)).alloc (.cells #[.pointer (some ⟨x.h, 0, none⟩)] 46)) :=
    ⟨h1.later hb0, by simp [go_sem], by simp [go_sem], later' hb0 hcl, HTurn.of_below hb0, by simp⟩
  have hs0 : ((w.alloc (.cells #[.func (.func gf) #[] #[]] 116)).alloc (.cells #[.pointer (some ⟨x.h, 0, none⟩)] 46)).heap.size = w.heap.size + 2 := by simp
  have HE0 := Lib.hid hE0
  have HT := Lib.hid (And.intro t1 hT)
  clear h1 t1 hT hb0 hE0 H hcl hTg g
  generalize ((w.alloc (.cells #[.func (.func gf) #[] #[]] 116)).alloc (.cells #[.pointer (some ⟨x.h, 0, none⟩)] 46)) = w0 at *
  generalize retag T w.heap.size = T1 at *
  refine range_by (gf := 90) (lb := #[.pointer (some ⟨w.heap.size + 1, 0, none⟩)]) rfl (enters_of Try.func90 (by kernel_rfl) rfl) (fun i : Nat => #[.pointer (some ⟨(x.S i).r, 0, none⟩)]) (fun _ => rfl) (List.range (x.k + 1)) (fun pre W => EachI x T1 D R F top par L gf cb cap w pre.length W) ?hput ?h0
    (fun i => { tmps := #[.pointer (some ⟨x.h, 0, none⟩), .func (.func gf) #[] #[], undef, .pointer (some ⟨w.heap.size, 0, none⟩), .pointer (some ⟨(x.S i).r, 0, none⟩), .pointer (some ⟨x.h, 0, none⟩), .func (.func 90) #[] #[.pointer (some ⟨w.heap.size + 1, 0, none⟩)], .pointer (some ⟨(x.S i).r, 0, none⟩), undef, undef, undef], defers := [] }) ?assign ?body ?iter ?done
  case hput =>
    intro pre W l o o' hm hl ho hoc
    exact hm.same HT.out.2 (fun b hb => World.putObj_heap_other (by omega)) (by simp) rfl rfl rfl
  case h0 =>
    intro o o'
    have hb := ((Below.refl w0.heap.size w0).alloc (Nat.le_refl _) o).alloc (by simp) o'
    exact HE0.out.same HT.out.2 (fun b hb' => hb.block b (by omega)) hb.size hb.os hb.tape hb.output
  case assign =>
    intro l y W K hK
    gi_wp2
    exact hK
  case body =>
    intro l pre y W hm hp
    obtain ⟨rfl, hlt⟩ := prefix_range hp
    have hlen : (pre ++ [pre.length]).length = pre.length + 1 := by simp
    rw [hlen]
    clear hp hlen
    generalize pre.length = m at *
    have hb := hm.b0
    have hr : RingD (x.S m) (R m) D W := by
      have := hm.lies.rings m (by omega)
      rwa [show mix F R m m = R m from if_neg (Nat.lt_irrefl _)] at this
    have HR := Lib.hid (HG.out m (by omega) W hr)
    have HM := Lib.hid (And.intro hm hr)
    clear hm hr
    gi_wp2_with fail
    refine ⟨trivial, (CallsIn.inRound l (callsIn_wide.2 HR.out)).mono ?_⟩
    rintro e W3 ⟨rfl, ⟨D3, h3, rfl⟩, ht⟩
    have HE := Lib.hid (And.intro h3 ht)
    clear h3 ht HR hb
    gi_wp2_with fail
    exact HM.out.1.step (by omega) hn HT.out.2 HM.out.2 HE.out.1 HE.out.2
  case iter =>
    intro r W1 hY h0 hB
    have hlen : (List.range (x.k + 1)).length = x.k + 1 := by simp
    rw [hlen]
    refine (rings_each 3 (by decide) (w0.heap.size + 1) (w.heap.size + 1) x k6 (fun m W => EachI x T1 D R F top par L gf cb cap w m W ∧ Book w0.heap.size r W) cb cap (fun m W h => ⟨h.1.b1, h.1.lies.large, h.1.cl, h.1.seen⟩) ?_ ?_ W1 ⟨h0, hB⟩).mono ?_
    · rintro m W o ⟨hm, hb⟩
      have hbl := (Below.refl W.heap.size W).alloc (Nat.le_refl _) o
      have hlt := hb.lt
      exact ⟨hm.same HT.out.2 (fun b hb' => hbl.block b (by have := hm.size; omega)) hbl.size hbl.os hbl.tape hbl.output, hb.kept (hbl.block _ (by omega)) (hbl.block _ (by omega))⟩
    · rintro m W ⟨hm, hb⟩ hmk
      obtain ⟨fn, tmps, assign, body, h1, h2⟩ := hY (List.range m) m W (by rw [List.length_range]; exact hm) hb (range_one hmk)
      refine ⟨fn, tmps, assign, body, h1, h2.mono ?_⟩
      rintro e W' ⟨rfl, h3, h4⟩
      have : (List.range m ++ [m]).length = m + 1 := by simp
      rw [this] at h3
      exact ⟨rfl, h3, h4⟩
    · rintro e W' ⟨h1, h2, h3⟩
      exact ⟨h1, h2, h3⟩
  case done =>
    intro D' W hD hm hK
    have hlen : (List.range (x.k + 1)).length = x.k + 1 := by simp
    rw [hlen] at hm
    have HM := Lib.hid hm
    clear hm
    gi_wp2
    refine ⟨by simp, .inl ⟨_, _, rfl, run_takeDeferred hK, ?_⟩⟩
    have hf := HM.out.same HT.out.2 (W' := W.putObj D' (.deferred none)) (fun b hb => World.putObj_heap_other (by omega)) (by simp) rfl rfl rfl
    have HF := Lib.hid (show HLies x T1 D (mix F R (x.k + 1)) top par L (W.putObj D' (.deferred none)) ∧ HTurn T T1 w (W.putObj D' (.deferred none)) from ⟨hf.lies, HT.out.1.trans hf.turn⟩)
    clear hf
    exact ⟨.tuple #[], by simp [results, Try.results62, go_sem], ⟨_, rfl⟩, T1, HF.out.1, HF.out.2⟩

end Go.Proofs.Ytbjlpmjalidfkaa
