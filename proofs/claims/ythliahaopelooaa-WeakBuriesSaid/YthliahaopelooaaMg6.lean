import Derived.Test.YthliahaopelooaaMg2
import Derived.Test.YthliahaopelooaaMg5
/- Objects apart: their words, other ones' words, links. -/
namespace Go.Proofs.Ythliahaopelooaa
open Go.RowKit
/-- Where an object of a size lies: no link is a word of it, but its own two. -/
structure Obj1 (x : HSpot) (R : Nat → Rows) (c s : Int) : Prop where
  one : 1 ≤ c
  le : c + s + 3 ≤ x.n
  links : ∀ i, i ≤ x.k → ∀ q, Links (R i) q → (q : Int) < c ∨ (q : Int) = c + 1 ∨ (q : Int) = c + 2 ∨ c + s + 3 ≤ q
theorem Obj1.word {x : HSpot} {R : Nat → Rows} {c s : Int} (h : Obj1 x R c s) (hs : 0 ≤ s) : ∀ i, i ≤ x.k → ∀ q, Links (R i) q → (q : Int) ≠ c := fun i hi q hq => by
  have := h.links i hi q hq
  omega
theorem Obj1.words {x : HSpot} {R : Nat → Rows} {c s : Int} (h : Obj1 x R c s) {j : Int} (hj : 0 ≤ j ∧ j < s) : ∀ i, i ≤ x.k → ∀ q, Links (R i) q → (q : Int) ≠ c + 3 + j := fun i hi q hq => by
  have := h.links i hi q hq
  omega
theorem HInv.obj {x : HSpot} {D : Nat → Int} {R : Nat → Rows} {top : Int} {L : List (Int × Int)} (h : HInv x D R top L) {i : Nat} (hi : i ≤ x.k) {c s : Int} (hc : c ∈ (R i).all) (hw : s + 3 ≤ wid x D i c) : Obj1 x R c s := by
  refine ⟨h.one i hi c hc, ?_, fun i' hi' q hq => ?_⟩
  · by_cases g : i < x.k
    · have h1 := h.cell i g c hc
      have h2 : wid x D i c = x.sz i + 3 := by unfold wid; rw [if_pos g]
      have := h.t1
      have := h.ln
      omega
    · obtain rfl : i = x.k := by omega
      have := (h.big c hc).2.1
      omega
  · obtain ⟨b, hb, hq⟩ := hq
    by_cases e : i' = i ∧ b = c
    · omega
    · have h1 := h.apart i' hi' i hi b hb c hc (fun e1 e2 => e ⟨e1, e2⟩)
      have h2 := wid_three h i' b
      omega
/-- A new object's cell is none of those that others have. -/
theorem AllocP.ne {x : HSpot} {D : Nat → Int} {R : Nat → Rows} {top : Int} {L : List (Int × Int)} {size at' : Int} {R' : Nat → Rows} {top' : Int} {M : List (Int × Int)} (h : AllocP x R top L size at' R' top' M) (hI : HInv x D R top L) (hG : Ex.Good x.lim (x.lim + (x.n - x.lim : Int)) L) (hs : 0 ≤ size) {i : Nat} (hi : i ≤ x.k) (hnd : (R i).all.Nodup)
    {c : Int} (hc : c ∈ (R i).all) (hw : c ∉ (R i).white) : c ≠ at' := by
  have t1 := hI.t1
  cases h with
  | white j hC hj l hwj hR ht hM =>
    have hm : at' ∈ (R j).white := by rw [hwj]; exact List.mem_cons_self ..
    intro e
    by_cases ej : i = j
    · subst ej
      exact hw (e ▸ hm)
    · have h1 := hI.far i hi j (by omega) ej c hc at' (List.mem_append_left _ hm)
      omega
  | fresh j hC hj hwj hr ha hR ht hM =>
    intro e
    by_cases ek : i = x.k
    · subst ek
      have := (hI.big c hc).1
      have := hI.sz j hj
      omega
    · have := hI.cell i (by omega) c hc
      have := hI.sz i (by omega)
      omega
  | big hC he ha hR ht hM =>
    obtain ⟨s1, s2, s3⟩ := spot_cov hG (by omega) he
    rw [← ha] at s1 s2 s3
    intro e
    by_cases ek : i = x.k
    · subst ek
      exact (hI.big c hc).2.2 c (Int.le_refl _) (by have := wid_three hI x.k c; omega) (s3 c (by omega) (by omega))
    · have := hI.cell i (by omega) c hc
      have := hI.sz i (by omega)
      omega
theorem Cls.wid {x : HSpot} {D : Nat → Int} {size : Int} {i : Nat} {c : Int} (hC : Cls x.sz x.k size i) (h : i = x.k → Ce.sb (D c.toNat) = size) : size + 3 ≤ wid x D i c := by
  unfold Go.Proofs.Ythliahaopelooaa.wid
  have := hC.le
  by_cases g : i < x.k
  · have := hC.fits g
    rw [if_pos g]
    omega
  · rw [if_neg g, h (by omega)]
    omega
theorem putW_other {D : Nat → Int} {i v : Int} {m : Nat} (h : m ≠ i.toNat) : putW D i v m = D m := if_neg h
theorem putW_same {D : Nat → Int} {i v : Int} : putW D i v i.toNat = v := if_pos rfl
theorem Head.other {D : Nat → Int} {c k s a m i v : Int} (h : Head D c k s a m) (hc : c.toNat ≠ i.toNat) : Head (putW D i v) c k s a m := ⟨h.fit, (putW_other hc).trans h.word⟩
/-- What is not there yet is nobody's. -/
def retag (T : Nat → Nat) (z : Nat) : Nat → Nat := fun b => if b < z then T b else 1000
theorem HLies.retag {x : HSpot} {T : Nat → Nat} {D : Nat → Int} {R : Nat → Rows} {top par : Int} {L : List (Int × Int)} {w : World} (h : HLies x T D R top par L w) :
    HLies x (Go.Proofs.Ythliahaopelooaa.retag T w.heap.size) D R top par L w ∧ HTurn T (Go.Proofs.Ythliahaopelooaa.retag T w.heap.size) w w := by
  obtain ⟨cb, cap, g, hT, hc, hcs, hR⟩ := h.rest
  obtain ⟨u, hu⟩ := h.at
  have t : ∀ b, b < w.heap.size → Go.Proofs.Ythliahaopelooaa.retag T w.heap.size b = T b := fun b hb => if_pos hb
  have lcb : cb < w.heap.size := World.block_lt_of_cell? _ _ (hcs 0 (by have := h.k1; omega)).1
  exact ⟨⟨h.arena, h.large, h.room, h.top, h.lim, h.par, h.fz, h.rings, h.sp, h.k1, h.k6, cb, cap, g, ⟨(t _ h.lh).trans hT.h, (t _ lcb).trans hT.cb, (t _ hu.lp).trans hT.p, (t _ hu.ld).trans hT.d, (t _ hR.lp).trans hT.rp, (t _ hR.lg).trans hT.g, fun i hi b hb => (t _ ((h.rings i hi).under.2.2 b hb)).trans (hT.s i hi b hb)⟩, hc, hcs, hR⟩,
    rfl, rfl, rfl, Nat.le_refl _, fun b hb hb2 => ⟨(t b hb).trans hb2, rfl⟩⟩
end Go.Proofs.Ythliahaopelooaa
/- All rings, one behind the other: the heap's iterator. -/
namespace Go.Proofs.Ythliahaopelooaa
open Go.RowKit Go.Shelf
attribute [local go_sem] Oper.semAt_some
/-- What the iterator reads of a heap. -/
structure Seen (x : HSpot) (bx : Nat) (W : World) : Prop where
  box : W.cell? ⟨bx, 0, none⟩ = some (.pointer (some ⟨x.h, 0, none⟩))
  large : W.cell? ⟨x.h, 2, none⟩ = some (.pointer (some ⟨(x.S x.k).r, 0, none⟩))
  cls : ∃ cb cap, W.cell? ⟨x.h, 1, none⟩ = some (.slice (some ⟨cb, 0, none⟩) x.k cap) ∧ ∀ i, i < x.k → W.cell? ⟨cb, i * 2, none⟩ = some (.int .i64 (x.sz i)) ∧ W.cell? ⟨cb, i * 2 + 1, none⟩ = some (.pointer (some ⟨(x.S i).r, 0, none⟩))
set_option maxRecDepth 100000 in
set_option maxHeartbeats 4000000 in
theorem rings_each (n : Nat) (hn : 2 ≤ n) (l bx : Nat) (x : HSpot) (k6 : x.k ≤ 6) (J : Nat → World → Prop) (cb cap : Nat)
    (hJ : ∀ m W, J m W → W.cell? ⟨bx, 0, none⟩ = some (.pointer (some ⟨x.h, 0, none⟩)) ∧ W.cell? ⟨x.h, 2, none⟩ = some (.pointer (some ⟨(x.S x.k).r, 0, none⟩)) ∧ W.cell? ⟨x.h, 1, none⟩ = some (.slice (some ⟨cb, 0, none⟩) x.k cap) ∧
      ∀ i, i < x.k → W.cell? ⟨cb, i * 2, none⟩ = some (.int .i64 (x.sz i)) ∧ W.cell? ⟨cb, i * 2 + 1, none⟩ = some (.pointer (some ⟨(x.S i).r, 0, none⟩)))
    (hA : ∀ m W o, J m W → J m (W.alloc o))
    (hY : ∀ m W, J m W → m ≤ x.k → YieldAt Fence.wide (n - 1) Try.prog l #[.pointer (some ⟨(x.S m).r, 0, none⟩)] W fun e W' => e = .returned (.bool true) ∧ J (m + 1) W')
    (W : World) (h0 : J 0 W) :
    CallsIn Fence.wide n Try.prog 87 #[.func (.yield l) #[] #[], .pointer (some ⟨bx, 0, none⟩)] W fun e W' => (∃ v, e = .returned v) ∧ J (x.k + 1) W' := by
  obtain ⟨hb0, hl0, hc0, -⟩ := hJ _ _ h0
  have h1n : 1 ≤ n := by omega
  have HJ := Lib.hid hJ
  have HA := Lib.hid hA
  have HY := Lib.hid hY
  have H0 := Lib.hid h0
  clear hJ hA hY h0 hl0
  refine callsIn_of_wp Try.func87 rfl trivial ?_ rfl
  simp only [Try.ntmps87, List.size_toArray, List.length_cons, List.length_nil, Nat.reduceAdd, Nat.reduceSub, Array.replicate_succ, Array.replicate_zero, List.push_toArray, List.append_toArray, List.nil_append, List.cons_append]
  gi_wp2_with fail
  clear hb0 hc0
  gi_loopw [10] (fun s10 wr => ∃ m : Nat, m ≤ x.k ∧ s10 = .int .i64 m ∧ J m wr) (fun s10 _ => x.k - (intOf s10).toNat)
  case atStart => exact ⟨0, Nat.zero_le _, rfl, H0.out⟩
  case round =>
    obtain ⟨m, hm, rfl, hj⟩ := hrel
    have HJM := Lib.hid hj
    obtain ⟨b0, l0, c1, hcs⟩ := HJ.out _ _ hj
    clear hj
    by_cases hlt : m < x.k
    · have hlt' : (m : Int) < (x.k : Int) := by omega
      obtain ⟨d0, d1⟩ := hcs m hlt
      have hja := HA.out m wr (.cells #[.int .i64 (x.sz m), .pointer (some ⟨(x.S m).r, 0, none⟩)] 120) HJM.out
      obtain ⟨fn, tmps, assign, body, hyy, hRR⟩ := HY.out _ _ hja (by omega)
      clear hcs
      gi_wp2_with fail
      refine hRR.mono ?_
      rintro e W3 ⟨rfl, hj3⟩
      have HJ3 := Lib.hid hj3
      clear hRR hyy hj3 hja
      gi_wp2_with fail
      exact ⟨⟨m + 1, by omega, by go_num, HJ3.out⟩, by simp [intOf]; omega⟩
    · obtain rfl : m = x.k := by omega
      obtain ⟨fn, tmps, assign, body, hyy, hRR⟩ := HY.out _ _ HJM.out (Nat.le_refl _)
      clear hcs
      gi_wp2_with fail
      refine hRR.mono ?_
      rintro e W3 ⟨rfl, hj3⟩
      have HJ3 := Lib.hid hj3
      clear hRR hyy hj3
      gi_wp2_with fail
      go_end0
      exact ⟨⟨_, rfl⟩, HJ3.out⟩
set_option maxHeartbeats 1000000 in
set_option maxRecDepth 100000 in
theorem rings_any (h : Nat) (w : World) :
    Calls Try.prog 64 #[.pointer (some ⟨h, 0, none⟩)] w fun e w' => e = .returned (.func (.func 87) #[] #[.pointer (some ⟨w.heap.size, 0, none⟩)]) ∧ w' = w.alloc (.cells #[.pointer (some ⟨h, 0, none⟩)] 28) := by
  have hmf := mkfunc2
  go_enter Try.func64, Try.ntmps64
  go_wp2_with fail
  go_ret
  exact ⟨rfl, rfl⟩
/-- It lies on where the blocks that were there stand: all later ones are nobody's. -/
theorem HLies.others {x : HSpot} {T : Nat → Nat} {D : Nat → Int} {R : Nat → Rows} {top par : Int} {L : List (Int × Int)} {w w' : World} {z : Nat} (h : HLies x T D R top par L w) (hT : ∀ b, z ≤ b → T b = 1000) (hk : ∀ b, b < z → w'.heap[b]? = w.heap[b]?) (hs : w.heap.size ≤ w'.heap.size) : HLies x T D R top par L w' := by
  obtain ⟨u, hu⟩ := h.at
  obtain ⟨cb, cap, g, ht, -⟩ := h.rest
  have lt : ∀ b, T b ≠ 1000 → b < z := fun b hb => Nat.lt_of_not_le fun e => hb (hT b e)
  exact h.anew hs (fun b _ hb => hk b (lt b (by have := h.k6; omega))) ⟨u, hu.move (hk _ (lt _ (by rw [ht.p]; omega))) (hk _ (lt _ (by rw [ht.d]; omega))) hs⟩ (fun _ _ _ _ => rfl)
/-- Some rings have turned. -/
def mix (F : Rows → Rows) (R : Nat → Rows) (m : Nat) : Nat → Rows := fun j => if j < m then F (R j) else R j
/-- In the midst of each. -/
structure EachI (x : HSpot) (T : Nat → Nat) (D : Nat → Int) (R : Nat → Rows) (F : Rows → Rows) (top par : Int) (L : List (Int × Int)) (gf cb cap : Nat) (w : World) (m : Nat) (W : World) : Prop where
  lies : HLies x T D (mix F R m) top par L W
  b0 : W.cell? ⟨w.heap.size, 0, none⟩ = some (.func (.func gf) #[] #[])
  b1 : W.cell? ⟨w.heap.size + 1, 0, none⟩ = some (.pointer (some ⟨x.h, 0, none⟩))
  cl : W.cell? ⟨x.h, 1, none⟩ = some (.slice (some ⟨cb, 0, none⟩) x.k cap)
  turn : HTurn T T w W
  size : w.heap.size + 2 ≤ W.heap.size
theorem EachI.same {x : HSpot} {T : Nat → Nat} {D : Nat → Int} {R : Nat → Rows} {F : Rows → Rows} {top par : Int} {L : List (Int × Int)} {gf cb cap : Nat} {w W W' : World} {m : Nat} (h : EachI x T D R F top par L gf cb cap w m W) (hT : ∀ b, w.heap.size ≤ b → T b = 1000) (hk : ∀ b, b < w.heap.size + 2 → W'.heap[b]? = W.heap[b]?) (hs : W.heap.size ≤ W'.heap.size)
    (h1 : W'.os = W.os) (h2 : W'.tape = W.tape) (h3 : W'.output = W.output) : EachI x T D R F top par L gf cb cap w m W' :=
  ⟨h.lies.others hT (fun b hb => hk b (by omega)) hs, (World.cell?_of_block (w := W) (hk _ (by simp only; omega))).trans h.b0, (World.cell?_of_block (w := W) (hk _ (by simp only; omega))).trans h.b1,
    (World.cell?_of_block (w := W) (hk _ (by
      obtain ⟨_, _, _, ht, _⟩ := h.lies.rest
      have : x.h < w.heap.size := Nat.lt_of_not_le fun e => by have := hT _ e; rw [ht.h] at this; omega
      simp only; omega))).trans h.cl,
    ⟨h1.trans h.turn.os, h2.trans h.turn.tape, h3.trans h.turn.output, Nat.le_trans h.turn.size hs, fun b hb ht => ⟨ht, (hk b (by omega)).trans (h.turn.block b hb ht).2⟩⟩, Nat.le_trans h.size hs⟩
theorem EachI.seen {x : HSpot} {T : Nat → Nat} {D : Nat → Int} {R : Nat → Rows} {F : Rows → Rows} {top par : Int} {L : List (Int × Int)} {gf cb cap : Nat} {w W : World} {m : Nat} (h : EachI x T D R F top par L gf cb cap w m W) :
    ∀ i, i < x.k → W.cell? ⟨cb, i * 2, none⟩ = some (.int .i64 (x.sz i)) ∧ W.cell? ⟨cb, i * 2 + 1, none⟩ = some (.pointer (some ⟨(x.S i).r, 0, none⟩)) := by
  obtain ⟨cb', cap', g, -, hc, hcs, -⟩ := h.lies.rest
  have e := hc.symm.trans h.cl
  simp only [Option.some.injEq, Value.slice.injEq, Addr.mk.injEq, and_true, true_and] at e
  obtain ⟨rfl, _⟩ := e
  exact hcs
theorem keeps_turn {s : Spot} {R : Rows} {D : Nat → Int} {W W' : World} (h : RingD s R D W) (ht : Turn s W W') (hn : 0 < s.n) : KeepsOthers W W' := by
  obtain ⟨C, F, hL, -⟩ := h
  obtain ⟨u, hA⟩ := hL.words
  refine ⟨ht.size, fun k o hk ho => ?_⟩
  have no : ∀ b j v, W.cell? ⟨b, j, none⟩ = some v → k ≠ b := fun b j v hv e => by
    obtain ⟨o', h1, h2⟩ := cells_of_cell hv
    subst e
    rw [hk] at h1
    cases h1
    rw [ho] at h2
    cases h2
  refine (ht.block k (Array.getElem?_eq_some_iff.1 hk).1 (no _ _ _ hL.arena) (no _ _ _ hA.words) ?_).trans hk
  exact no _ _ _ (hA.data 0 hn)
theorem EachI.step {x : HSpot} {T : Nat → Nat} {D : Nat → Int} {R : Nat → Rows} {F : Rows → Rows} {top par : Int} {L : List (Int × Int)} {gf cb cap : Nat} {w W W' : World} {m : Nat} (h : EachI x T D R F top par L gf cb cap w m W) (hm : m ≤ x.k) (hn : 0 < x.n) (hT : ∀ b, w.heap.size ≤ b → T b = 1000)
    (h0 : RingD (x.S m) (R m) D W) (hR : RingD (x.S m) (F (R m)) D W') (ht : Turn (x.S m) W W') : KeepsOthers W W' ∧ EachI x T D R F top par L gf cb cap w (m + 1) W' := by
  obtain ⟨h1, t1⟩ := h.lies.ring hm hR ht (fun _ _ _ _ _ => rfl)
  have e : (fun j => if j = m then F (R m) else mix F R m j) = mix F R (m + 1) := by
    funext j
    unfold mix
    by_cases g : j = m
    · subst g
      rw [if_pos rfl, if_pos (Nat.lt_succ_self _)]
    · rw [if_neg g]
      by_cases g2 : j < m
      · rw [if_pos g2, if_pos (by omega)]
      · rw [if_neg g2, if_neg (by omega)]
  rw [e] at h1
  obtain ⟨cb', cap', g, hTg, -⟩ := h.lies.rest
  have nb : ∀ b, T b = 1000 ∨ T b = 0 → b < W.heap.size → W'.heap[b]? = W.heap[b]? := fun b hb hl => by
    obtain ⟨e1, e2, e3⟩ := h.lies.sp m hm
    have k6 := h.lies.k6
    refine ht.block b hl (fun e => ?_) (fun e => ?_) (fun e => ?_)
    · have := hTg.s m hm _ (Or.inl rfl)
      rw [e] at hb
      omega
    · rw [e1] at e
      have := hTg.p
      rw [e] at hb
      omega
    · rw [e2] at e
      have := hTg.d
      rw [e] at hb
      omega
  have sz := h.size
  exact ⟨keeps_turn h0 ht (by rw [(h.lies.sp m hm).2.2]; exact hn), h1, (World.cell?_of_block (w := W) (nb _ (Or.inl (hT _ (Nat.le_refl _))) (by simp only; omega))).trans h.b0, (World.cell?_of_block (w := W) (nb _ (Or.inl (hT _ (by simp only; omega))) (by simp only; omega))).trans h.b1,
    (World.cell?_of_block (w := W) (nb _ (Or.inr hTg.h) h.lies.lh)).trans h.cl, h.turn.trans t1, Nat.le_trans h.size ht.size⟩
theorem prefix_range {pre : List Nat} {y n : Nat} (h : pre ++ [y] <+: List.range n) : y = pre.length ∧ pre.length < n := by
  obtain ⟨t, ht⟩ := h
  have h1 := congrArg (fun l => l[pre.length]?) ht
  have h2 := congrArg List.length ht
  simp at h1 h2
  have hl : pre.length < n := by omega
  rw [List.getElem?_range hl] at h1
  exact ⟨by simpa using h1, hl⟩
theorem range_one {m k : Nat} (h : m ≤ k) : List.range m ++ [m] <+: List.range (k + 1) := by
  rw [← List.range_succ]
  have e : List.range (m + 1) = (List.range (k + 1)).take (m + 1) := by
    rw [List.take_range]
    congr 1
    omega
  rw [e]
  exact List.take_prefix _ _
set_option maxRecDepth 100000 in
set_option maxHeartbeats 8000000 in
theorem each_any (x : HSpot) (T : Nat → Nat) (D : Nat → Int) (R : Nat → Rows) (top par : Int) (L : List (Int × Int)) (w : World) (h : HLies x T D R top par L w) (hn : 0 < x.n) (gf : Nat) (F : Rows → Rows) (eg : ∀ args w, (callFunc gf args).run Try.prog w = .ok (.enter gf args) w)
    (hg : ∀ i, i ≤ x.k → ∀ W, RingD (x.S i) (R i) D W → Calls Try.prog gf #[.pointer (some ⟨(x.S i).r, 0, none⟩)] W fun e W' => e = .returned (.int .i64 0) ∧ (∃ D', RingD (x.S i) (F (R i)) D' W' ∧ D' = D) ∧ Turn (x.S i) W W') :
    Calls Try.prog 35 #[.pointer (some ⟨x.h, 0, none⟩), .func (.func gf) #[] #[]] w fun e w' => (∃ v, e = .returned v) ∧ ∃ T', HLies x T' D (mix F R (x.k + 1)) top par L w' ∧ HTurn T T' w w' := by
  have H := Lib.hid h
  have HG := Lib.hid hg
  clear h hg
  refine (callsIn_wide (n := 4)).1 ?_
  refine callsIn_of_wp_marks Try.func35 rfl trivial ?_ rfl
  simp only [Try.ntmps35, List.size_toArray, List.length_cons, List.length_nil, Nat.reduceAdd, Nat.reduceSub, Array.replicate_succ, Array.replicate_zero, List.push_toArray, List.append_toArray, List.nil_append, List.cons_append]
  gi_wp2_with fail
  refine ⟨trivial, ?_⟩
  refine (callsIn_wide.2 (rings_any x.h _)).mono ?_
  rintro e w' ⟨rfl, rfl⟩
  gi_wp2_with fail
  obtain ⟨cb, cap, g, hTg, hcl, -, -⟩ := H.out.rest
  have k6 := H.out.k6
  obtain ⟨h1, t1⟩ := H.out.retag
  have hT : ∀ b, w.heap.size ≤ b → retag T w.heap.size b = 1000 := fun b hb => if_neg (by omega)
  have hb0 : Below w.heap.size w ((w.alloc (.cells #[.func (.func gf) #[] #[]] 84)).alloc (.cells #[.pointer (some ⟨x.h, 0, none⟩)] 28)) := ((Below.refl _ _).alloc (Nat.le_refl _) _).alloc (by simp) _
  have hE0 : EachI x (retag T w.heap.size) D R F top par L gf cb cap w 0 ((w.alloc (.cells #[.func (.func gf) #[] #[]] 84)).alloc (.cells #[.pointer (some ⟨x.h, 0, none⟩)] 28)) :=
    ⟨h1.later hb0, by simp [go_sem], by simp [go_sem], later' hb0 hcl, HTurn.of_below hb0, by simp⟩
  have hs0 : ((w.alloc (.cells #[.func (.func gf) #[] #[]] 84)).alloc (.cells #[.pointer (some ⟨x.h, 0, none⟩)] 28)).heap.size = w.heap.size + 2 := by simp
  have HE0 := Lib.hid hE0
  have HT := Lib.hid (And.intro t1 hT)
  clear h1 t1 hT hb0 hE0 H hcl hTg g
  generalize ((w.alloc (.cells #[.func (.func gf) #[] #[]] 84)).alloc (.cells #[.pointer (some ⟨x.h, 0, none⟩)] 28)) = w0 at *
  generalize retag T w.heap.size = T1 at *
  refine range_by (gf := 87) (lb := #[.pointer (some ⟨w.heap.size + 1, 0, none⟩)]) rfl (enters_of Try.func87 (by kernel_rfl) rfl) (fun i : Nat => #[.pointer (some ⟨(x.S i).r, 0, none⟩)]) (fun _ => rfl) (List.range (x.k + 1)) (fun pre W => EachI x T1 D R F top par L gf cb cap w pre.length W) ?hput ?h0
    (fun i => { tmps := #[.pointer (some ⟨x.h, 0, none⟩), .func (.func gf) #[] #[], undef, .pointer (some ⟨w.heap.size, 0, none⟩), .pointer (some ⟨(x.S i).r, 0, none⟩), .pointer (some ⟨x.h, 0, none⟩), .func (.func 87) #[] #[.pointer (some ⟨w.heap.size + 1, 0, none⟩)], .pointer (some ⟨(x.S i).r, 0, none⟩), undef, undef, undef], defers := [] }) ?assign ?body ?iter ?done
  case hput =>
    intro pre W l o o' hm hl ho hoc
    exact hm.same HT.out.2 (fun b hb => World.putObj_heap_other (by omega)) (by simp) rfl rfl rfl
  case h0 =>
    intro o o'
    have hb := ((Below.refl w0.heap.size w0).alloc (Nat.le_refl _) o).alloc (by simp) o'
    exact HE0.out.same HT.out.2 (fun b hb' => hb.block b (by omega)) hb.size hb.os hb.tape hb.output
  case assign =>
    intro l y W K hK
    gi_wp2
    exact hK
  case body =>
    intro l pre y W hm hp
    obtain ⟨rfl, hlt⟩ := prefix_range hp
    have hlen : (pre ++ [pre.length]).length = pre.length + 1 := by simp
    rw [hlen]
    clear hp hlen
    generalize pre.length = m at *
    have hb := hm.b0
    have hr : RingD (x.S m) (R m) D W := by
      have := hm.lies.rings m (by omega)
      rwa [show mix F R m m = R m from if_neg (Nat.lt_irrefl _)] at this
    have HR := Lib.hid (HG.out m (by omega) W hr)
    have HM := Lib.hid (And.intro hm hr)
    clear hm hr
    gi_wp2_with fail
    refine ⟨trivial, (CallsIn.inRound l (callsIn_wide.2 HR.out)).mono ?_⟩
    rintro e W3 ⟨rfl, ⟨D3, h3, rfl⟩, ht⟩
    have HE := Lib.hid (And.intro h3 ht)
    clear h3 ht HR hb
    gi_wp2_with fail
    exact HM.out.1.step (by omega) hn HT.out.2 HM.out.2 HE.out.1 HE.out.2
  case iter =>
    intro r W1 hY h0 hB
    have hlen : (List.range (x.k + 1)).length = x.k + 1 := by simp
    rw [hlen]
    refine (rings_each 3 (by decide) (w0.heap.size + 1) (w.heap.size + 1) x k6 (fun m W => EachI x T1 D R F top par L gf cb cap w m W ∧ Book w0.heap.size r W) cb cap (fun m W h => ⟨h.1.b1, h.1.lies.large, h.1.cl, h.1.seen⟩) ?_ ?_ W1 ⟨h0, hB⟩).mono ?_
    · rintro m W o ⟨hm, hb⟩
      have hbl := (Below.refl W.heap.size W).alloc (Nat.le_refl _) o
      have hlt := hb.lt
      exact ⟨hm.same HT.out.2 (fun b hb' => hbl.block b (by have := hm.size; omega)) hbl.size hbl.os hbl.tape hbl.output, hb.kept (hbl.block _ (by omega)) (hbl.block _ (by omega))⟩
    · rintro m W ⟨hm, hb⟩ hmk
      obtain ⟨fn, tmps, assign, body, h1, h2⟩ := hY (List.range m) m W (by rw [List.length_range]; exact hm) hb (range_one hmk)
      refine ⟨fn, tmps, assign, body, h1, h2.mono ?_⟩
      rintro e W' ⟨rfl, h3, h4⟩
      have : (List.range m ++ [m]).length = m + 1 := by simp
      rw [this] at h3
      exact ⟨rfl, h3, h4⟩
    · rintro e W' ⟨h1, h2, h3⟩
      exact ⟨h1, h2, h3⟩
  case done =>
    intro D' W hD hm hK
    have hlen : (List.range (x.k + 1)).length = x.k + 1 := by simp
    rw [hlen] at hm
    have HM := Lib.hid hm
    clear hm
    gi_wp2
    refine ⟨by simp, .inl ⟨_, _, rfl, run_takeDeferred hK, ?_⟩⟩
    have hf := HM.out.same HT.out.2 (W' := W.putObj D' (.deferred none)) (fun b hb => World.putObj_heap_other (by omega)) (by simp) rfl rfl rfl
    have HF := Lib.hid (show HLies x T1 D (mix F R (x.k + 1)) top par L (W.putObj D' (.deferred none)) ∧ HTurn T T1 w (W.putObj D' (.deferred none)) from ⟨hf.lies, HT.out.1.trans hf.turn⟩)
    clear hf
    exact ⟨.tuple #[], by simp [results, Try.results35, go_sem], ⟨_, rfl⟩, T1, HF.out.1, HF.out.2⟩
end Go.Proofs.Ythliahaopelooaa
/- No ring has a cell of a colour. -/
namespace Go.Proofs.Ythliahaopelooaa
open Go.RowKit Go.Shelf
attribute [local go_sem] Oper.semAt_some
/-- In the midst of has. -/
structure HasI (x : HSpot) (T : Nat → Nat) (D : Nat → Int) (R : Nat → Rows) (top par : Int) (L : List (Int × Int)) (c : Int) (cb cap : Nat) (w : World) (W : World) : Prop where
  lies : HLies x T D R top par L W
  b0 : W.cell? ⟨w.heap.size, 0, none⟩ = some (.int .i64 c)
  b1 : W.cell? ⟨w.heap.size + 1, 0, none⟩ = some (.bool false)
  z1 : ∀ j, W.frozen? ⟨w.heap.size + 1, j, none⟩ = false
  b2 : W.cell? ⟨w.heap.size + 1 + 1, 0, none⟩ = some (.pointer (some ⟨x.h, 0, none⟩))
  cl : W.cell? ⟨x.h, 1, none⟩ = some (.slice (some ⟨cb, 0, none⟩) x.k cap)
  turn : HTurn T T w W
  size : w.heap.size + 3 ≤ W.heap.size
theorem HasI.same {x : HSpot} {T : Nat → Nat} {D : Nat → Int} {R : Nat → Rows} {top par : Int} {L : List (Int × Int)} {c : Int} {cb cap : Nat} {w W W' : World} (h : HasI x T D R top par L c cb cap w W) (hT : ∀ b, w.heap.size ≤ b → T b = 1000) (hk : ∀ b, b < w.heap.size + 3 → W'.heap[b]? = W.heap[b]?) (hs : W.heap.size ≤ W'.heap.size)
    (h1 : W'.os = W.os) (h2 : W'.tape = W.tape) (h3 : W'.output = W.output) : HasI x T D R top par L c cb cap w W' := by
  have o : ∀ b j v, b < w.heap.size + 3 → W.cell? ⟨b, j, none⟩ = some v → W'.cell? ⟨b, j, none⟩ = some v := fun b j v hb hv => (World.cell?_of_block (w := W) (hk b hb)).trans hv
  obtain ⟨_, _, _, ht, _⟩ := h.lies.rest
  have hh : x.h < w.heap.size := Nat.lt_of_not_le fun e => by have := hT _ e; rw [ht.h] at this; omega
  exact ⟨h.lies.others hT (fun b hb => hk b (by omega)) hs, o _ _ _ (by omega) h.b0, o _ _ _ (by omega) h.b1, fun j => (World.frozen?_of_block (w := W) (hk (w.heap.size + 1) (by omega))).trans (h.z1 j), o _ _ _ (by omega) h.b2, o _ _ _ (by omega) h.cl,
    ⟨h1.trans h.turn.os, h2.trans h.turn.tape, h3.trans h.turn.output, Nat.le_trans h.turn.size hs, fun b hb ht => ⟨ht, (hk b (by omega)).trans (h.turn.block b hb ht).2⟩⟩, Nat.le_trans h.size hs⟩
theorem HasI.seen {x : HSpot} {T : Nat → Nat} {D : Nat → Int} {R : Nat → Rows} {top par : Int} {L : List (Int × Int)} {c : Int} {cb cap : Nat} {w W : World} (h : HasI x T D R top par L c cb cap w W) :
    ∀ i, i < x.k → W.cell? ⟨cb, i * 2, none⟩ = some (.int .i64 (x.sz i)) ∧ W.cell? ⟨cb, i * 2 + 1, none⟩ = some (.pointer (some ⟨(x.S i).r, 0, none⟩)) := by
  obtain ⟨cb', cap', g, -, hc, hcs, -⟩ := h.lies.rest
  have e := hc.symm.trans h.cl
  simp only [Option.some.injEq, Value.slice.injEq, Addr.mk.injEq, and_true, true_and] at e
  obtain ⟨rfl, _⟩ := e
  exact hcs
def NoneSaid (x : HSpot) (T : Nat → Nat) (D : Nat → Int) (R : Nat → Rows) (top par : Int) (L : List (Int × Int)) (w : World) (e : Ending) (w' : World) : Prop :=
  e = .returned (.bool false) ∧ ∃ T', HLies x T' D R top par L w' ∧ HTurn T T' w w'
set_option maxRecDepth 100000 in
set_option maxHeartbeats 8000000 in
theorem has_none (x : HSpot) (T : Nat → Nat) (D : Nat → Int) (R : Nat → Rows) (top par : Int) (L : List (Int × Int)) (w : World) (h : HLies x T D R top par L w) (c : Nat) (hc4 : c < 4) (hR : ∀ i, i ≤ x.k → (R i).row c = []) :
    Calls Try.prog 34 #[.pointer (some ⟨x.h, 0, none⟩), .int .i64 c] w (NoneSaid x T D R top par L w) := by
  have H := Lib.hid h
  have HRR := Lib.hid hR
  clear h hR
  refine (callsIn_wide (n := 4)).1 ?_
  refine callsIn_of_wp_marks Try.func34 rfl trivial ?_ rfl
  simp only [Try.ntmps34, List.size_toArray, List.length_cons, List.length_nil, Nat.reduceAdd, Nat.reduceSub, Array.replicate_succ, Array.replicate_zero, List.push_toArray, List.append_toArray, List.nil_append, List.cons_append]
  gi_wp2_with fail
  refine ⟨trivial, ?_⟩
  refine (callsIn_wide.2 (rings_any x.h _)).mono ?_
  rintro e w' ⟨rfl, rfl⟩
  gi_wp2_with fail
  obtain ⟨cb, cap, g, hTg, hcl, -, -⟩ := H.out.rest
  have k6 := H.out.k6
  obtain ⟨h1, t1⟩ := H.out.retag
  have hT : ∀ b, w.heap.size ≤ b → retag T w.heap.size b = 1000 := fun b hb => if_neg (by omega)
  have hb0 : Below w.heap.size w (((w.alloc (.cells #[.int .i64 c] 3)).alloc (.cells #[.bool false] 4)).alloc (.cells #[.pointer (some ⟨x.h, 0, none⟩)] 28)) := (((Below.refl _ _).alloc (Nat.le_refl _) _).alloc (by simp) _).alloc (by simp; omega) _
  have hE0 : HasI x (retag T w.heap.size) D R top par L c cb cap w (((w.alloc (.cells #[.int .i64 c] 3)).alloc (.cells #[.bool false] 4)).alloc (.cells #[.pointer (some ⟨x.h, 0, none⟩)] 28)) :=
    ⟨h1.later hb0, by simp [go_sem], by simp [go_sem], fun j => by simp [go_sem], by simp [go_sem], later' hb0 hcl, HTurn.of_below hb0, by simp⟩
  have hs0 : (((w.alloc (.cells #[.int .i64 c] 3)).alloc (.cells #[.bool false] 4)).alloc (.cells #[.pointer (some ⟨x.h, 0, none⟩)] 28)).heap.size = w.heap.size + 3 := by simp
  have HE0 := Lib.hid hE0
  have HT := Lib.hid (And.intro t1 hT)
  clear h1 t1 hT hb0 hE0 H hcl hTg g
  generalize (((w.alloc (.cells #[.int .i64 c] 3)).alloc (.cells #[.bool false] 4)).alloc (.cells #[.pointer (some ⟨x.h, 0, none⟩)] 28)) = w0 at *
  generalize retag T w.heap.size = T1 at *
  have hmix : Try.prog.follows .mixedOrders = true := by kernel_rfl
  refine range_by (gf := 87) (lb := #[.pointer (some ⟨w.heap.size + 1 + 1, 0, none⟩)]) rfl (enters_of Try.func87 (by kernel_rfl) rfl) (fun i : Nat => #[.pointer (some ⟨(x.S i).r, 0, none⟩)]) (fun _ => rfl) (List.range (x.k + 1)) (fun _ W => HasI x T1 D R top par L c cb cap w W) ?hput ?h0
    (fun i => { tmps := #[.pointer (some ⟨x.h, 0, none⟩), .int .i64 c, undef, .pointer (some ⟨w.heap.size, 0, none⟩), .pointer (some ⟨w.heap.size + 1, 0, none⟩), .pointer (some ⟨(x.S i).r, 0, none⟩), .pointer (some ⟨x.h, 0, none⟩), .func (.func 87) #[] #[.pointer (some ⟨w.heap.size + 1 + 1, 0, none⟩)], .pointer (some ⟨(x.S i).r, 0, none⟩), undef, undef, undef, undef, undef], defers := [] }) ?assign ?body ?iter ?done
  case hput =>
    intro pre W l o o' hm hl ho hoc
    exact hm.same HT.out.2 (fun b hb => World.putObj_heap_other (by omega)) (by simp) rfl rfl rfl
  case h0 =>
    intro o o'
    have hb := ((Below.refl w0.heap.size w0).alloc (Nat.le_refl _) o).alloc (by simp) o'
    exact HE0.out.same HT.out.2 (fun b hb' => hb.block b (by omega)) hb.size hb.os hb.tape hb.output
  case assign =>
    intro l y W K hK
    gi_wp2
    exact hK
  case body =>
    intro l pre y W hm hp
    obtain ⟨rfl, hlt⟩ := prefix_range hp
    clear hp
    generalize pre.length = m at *
    have hb := hm.b0
    have hrow := HRR.out m (by omega)
    have hcnt := ring_counts (x.S m) (R m) W.drew ((hm.lies.rings m (by omega)).later (Below.refl W.heap.size W).drew).ring
    have hpi : ∀ W, (Instr.index 124 (.agg #[.int .i64 (R m).white.length, .int .i64 (R m).frm.length, .int .i64 (R m).grey.length, .int .i64 (R m).black.length]) (.int .i64 c)).run Try.prog W = .ok (.int .i64 0) W := fun W => by
      have := pick4 (R m).white.length (R m).frm.length (R m).grey.length (R m).black.length c hc4 W
      rw [this]
      obtain rfl | rfl | rfl | rfl : c = 0 ∨ c = 1 ∨ c = 2 ∨ c = 3 := by omega
      all_goals (simp only [Rows.row] at hrow; simp [hrow])
    have HC := Lib.hid hcnt
    have HM := Lib.hid hm
    generalize ((R m).white.length : Int) = n0 at *
    generalize ((R m).frm.length : Int) = n1 at *
    generalize ((R m).grey.length : Int) = n2 at *
    generalize ((R m).black.length : Int) = n3 at *
    clear hcnt hm hrow
    gi_wp2_with fail
    gi_region_with_o (first
      | (gi_at_call 65; refine (CallsIn.inRound l (callsIn_wide.2 HC.out)).mono ?_; rintro e W3 ⟨rfl, hb3⟩; have c3 := later' hb3 hb)
      | (refine ⟨trivial, (CallsIn.inRound l (callsIn_wide.2 HC.out)).mono ?_⟩; rintro e W3 ⟨rfl, hb3⟩; have c3 := later' hb3 hb))
    all_goals gi_wp2_with fail
    all_goals exact ⟨⟨hb3.size, fun k o hk _ => (hb3.block k (Array.getElem?_eq_some_iff.1 hk).1).trans hk⟩, HM.out.same HT.out.2 (fun b hb' => hb3.block b (by have := HM.out.size; show b < W.heap.size; omega)) hb3.size hb3.os hb3.tape hb3.output⟩
  case iter =>
    intro r W1 hY h0 hB
    refine (rings_each 3 (by decide) (w0.heap.size + 1) (w.heap.size + 1 + 1) x k6 (fun m W => HasI x T1 D R top par L c cb cap w W ∧ Book w0.heap.size r W) cb cap (fun m W h => ⟨h.1.b2, h.1.lies.large, h.1.cl, h.1.seen⟩) ?_ ?_ W1 ⟨h0, hB⟩).mono ?_
    · rintro m W o ⟨hm, hb⟩
      have hbl := (Below.refl W.heap.size W).alloc (Nat.le_refl _) o
      have hlt := hb.lt
      exact ⟨hm.same HT.out.2 (fun b hb' => hbl.block b (by have := hm.size; omega)) hbl.size hbl.os hbl.tape hbl.output, hb.kept (hbl.block _ (by omega)) (hbl.block _ (by omega))⟩
    · rintro m W ⟨hm, hb⟩ hmk
      obtain ⟨fn, tmps, assign, body, h1, h2⟩ := hY (List.range m) m W hm hb (range_one hmk)
      refine ⟨fn, tmps, assign, body, h1, h2.mono ?_⟩
      rintro e W' ⟨rfl, h3, h4⟩
      exact ⟨rfl, h3, h4⟩
    · rintro e W' ⟨h1, h2, h3⟩
      exact ⟨h1, h2, h3⟩
  case done =>
    intro D' W hD hm hK
    have b1 := hm.b1
    have z1 := hm.z1 0
    have HM := Lib.hid hm
    clear hm
    gi_wp2_with fail
    have hK' : (W.setCell ⟨w.heap.size + 1, 0, none⟩ (.bool false)).heap[D']? = some (.deferred (some [])) := (Below.heap_setCell _ _ _ _ (by simp only; omega)).trans hK
    have c1 : (W.setCell ⟨w.heap.size + 1, 0, none⟩ (.bool false)).cell? ⟨w.heap.size + 1, 0, none⟩ = some (.bool false) := World.cell?_setCell_same _ _ _ b1
    have hne : D' ≠ w.heap.size + 1 := by omega
    have c2 : ((W.setCell ⟨w.heap.size + 1, 0, none⟩ (.bool false)).putObj D' (.deferred none)).cell? ⟨w.heap.size + 1, 0, none⟩ = some (.bool false) := (World.cell?_of_block (w := W.setCell ⟨w.heap.size + 1, 0, none⟩ (.bool false)) (World.putObj_heap_other (Ne.symm hne))).trans c1
    have hlies : HLies x T1 D R top par L ((W.setCell ⟨w.heap.size + 1, 0, none⟩ (.bool false)).putObj D' (.deferred none)) := HM.out.lies.others HT.out.2 (fun b hb => (World.putObj_heap_other (by omega)).trans (Below.heap_setCell _ _ _ _ (by simp only; omega))) (by simp [World.setCell])
    have hturn : HTurn T1 T1 w ((W.setCell ⟨w.heap.size + 1, 0, none⟩ (.bool false)).putObj D' (.deferred none)) := by
      have h0 := HM.out.turn
      exact ⟨h0.os, h0.tape, h0.output, by simp [World.setCell]; exact h0.size, fun b hb ht => ⟨ht, ((World.putObj_heap_other (by omega)).trans (Below.heap_setCell _ _ _ _ (by simp only; omega))).trans (h0.block b hb ht).2⟩⟩
    have HF := Lib.hid (And.intro hlies (HT.out.1.trans hturn))
    clear hlies hturn
    refine ⟨by simp, .inl ⟨_, _, rfl, run_takeDeferred hK', ?_⟩⟩
    exact ⟨.bool false, by simp [results, Try.results34, go_sem, c2], rfl, T1, HF.out.1, HF.out.2⟩
end Go.Proofs.Ythliahaopelooaa
/- Begin, End. -/
namespace Go.Proofs.Ythliahaopelooaa
open Go.RowKit
/-- A heap's parity turns. -/
theorem HLies.setPar {x : HSpot} {T : Nat → Nat} {D : Nat → Int} {R : Nat → Rows} {top par : Int} {L : List (Int × Int)} {w : World} (h : HLies x T D R top par L w) (t : Int) :
    HLies x T D R top t L (w.setCell ⟨x.h, 6, none⟩ (.int .i64 t)) ∧ HTurn T T w (w.setCell ⟨x.h, 6, none⟩ (.int .i64 t)) := by
  obtain ⟨cb, cap, g, hT, hc, hcs, hR⟩ := h.rest
  obtain ⟨u, hu⟩ := h.at
  have hS : ∀ b, T b ≠ 0 → (w.setCell ⟨x.h, 6, none⟩ (.int .i64 t)).heap[b]? = w.heap[b]? := fun b hb => Below.heap_setCell _ _ _ _ (fun e => hb (by rw [e]; exact hT.h))
  have o : ∀ (j : Nat) (v : Value), j ≠ 6 → w.cell? ⟨x.h, j, none⟩ = some v → (w.setCell ⟨x.h, 6, none⟩ (.int .i64 t)).cell? ⟨x.h, j, none⟩ = some v := fun j v hj hv => (World.cell?_setCell_other _ _ _ _ (fun e => hj (by cases e; rfl))).trans hv
  have sz : (w.setCell ⟨x.h, 6, none⟩ (.int .i64 t)).heap.size = w.heap.size := by simp [World.setCell]
  have oc : ∀ (b j : Nat) (v : Value), T b ≠ 0 → w.cell? ⟨b, j, none⟩ = some v → (w.setCell ⟨x.h, 6, none⟩ (.int .i64 t)).cell? ⟨b, j, none⟩ = some v := fun b j v hb hv => (World.cell?_of_block (w := w) (hS b hb)).trans hv
  have hA : At (w.setCell ⟨x.h, 6, none⟩ (.int .i64 t)) x.p x.d x.n D u := hu.move (hS _ (by rw [hT.p]; omega)) (hS _ (by rw [hT.d]; omega)) (by rw [sz]; omega)
  refine ⟨⟨o 0 _ (by omega) h.arena, o 2 _ (by omega) h.large, o 3 _ (by omega) h.room, o 4 _ (by omega) h.top, o 5 _ (by omega) h.lim, World.cell?_setCell_same _ _ _ h.par, fun j => (World.frozen?_setCell _ _ _ _).trans (h.fz j), fun i hi => ?_, h.sp, h.k1, h.k6,
    cb, cap, g, hT, o 1 _ (by omega) hc, fun i hi => ⟨oc _ _ _ (by rw [hT.cb]; omega) (hcs i hi).1, oc _ _ _ (by rw [hT.cb]; omega) (hcs i hi).2⟩, hR.move (hS _ (by rw [hT.rp]; omega)) (hS _ (by rw [hT.g]; omega)) (by rw [sz]; omega)⟩,
    rfl, rfl, rfl, by rw [sz]; omega, fun b _ hb => ⟨hb, hS b (by omega)⟩⟩
  obtain ⟨e1, e2, e3⟩ := h.sp i hi
  exact (h.rings i hi).anew (by rw [sz]; omega) (fun b hb => hS b (by rw [hT.s i hi b hb]; omega)) ⟨u, by rw [e1, e2, e3]; exact hA⟩ (fun _ _ => rfl)
/-- What a heap's call leaves, when all rings were asked. -/
def AllAsked (x : HSpot) (T : Nat → Nat) (D : Nat → Int) (R : Nat → Rows) (F : Rows → Rows) (top par : Int) (L : List (Int × Int)) (w w' : World) : Prop := ∃ T', HLies x T' D (mix F R (x.k + 1)) top par L w' ∧ HTurn T T' w w'
set_option maxRecDepth 100000 in
set_option maxHeartbeats 4000000 in
theorem hbegin_any (x : HSpot) (T : Nat → Nat) (D : Nat → Int) (R : Nat → Rows) (top par : Int) (L : List (Int × Int)) (w : World) (h : HLies x T D R top par L w) (hn : 0 < x.n) (hp : par = 0 ∨ par = 1) (hF : ∀ i, i ≤ x.k → (R i).frm = []) (hG : ∀ i, i ≤ x.k → (R i).grey = []) :
    Calls Try.prog 12 #[.pointer (some ⟨x.h, 0, none⟩)] w fun e w' => e = .returned (.int .i64 0) ∧ AllAsked x T D R Rows.begin top (1 - par) L w w' := by
  have H := Lib.hid h
  have H1 := Lib.hid (has_none x T D R top par L w h 1 (by decide) (fun i hi => hF i hi))
  have HFG := Lib.hid (And.intro hF hG)
  have ew : IntKind.i64.wrap (1 - par) = 1 - par := by rw [IntKind.wrap_i64]; omega
  clear h hF hG hp
  go_enter Try.func12, Try.ntmps12
  go_wp2_with fail
  refine H1.out.mono ?_
  rintro e w2 ⟨rfl, T2, h2, t2⟩
  have H2 := Lib.hid (And.intro h2 t2)
  clear h2 t2 H1
  go_wp2_with fail
  refine (has_none x T2 D R top par L w2 H2.out.1 2 (by decide) (fun i hi => HFG.out.2 i hi)).mono ?_
  rintro e w3 ⟨rfl, T3, h3, t3⟩
  have H3 := Lib.hid (And.intro h3 (H2.out.2.trans t3))
  clear h3 t3 H2
  go_wp2_with fail
  refine (each_any x T3 D R top par L w3 H3.out.1 hn 36 Rows.begin (enters_of Try.func36 (by kernel_rfl) rfl) (fun i hi W hW => ringd_begin (x.S i) (R i) W D hW (HFG.out.1 i hi) (HFG.out.2 i hi))).mono ?_
  rintro e w4 ⟨⟨v, rfl⟩, T4, h4, t4⟩
  have H4 := Lib.hid (And.intro h4 (H3.out.2.trans t4))
  have c6 := h4.par
  have z6 := h4.fz 6
  clear h4 t4 H3
  go_wp2_with fail
  go_ret
  obtain ⟨h5, t5⟩ := H4.out.1.setPar (1 - par)
  exact ⟨rfl, T4, h5, H4.out.2.trans t5⟩
end Go.Proofs.Ythliahaopelooaa
/- Sweep. -/
namespace Go.Proofs.Ythliahaopelooaa
open Go.RowKit
theorem Head.size {D : Nat → Int} {c k s a m : Int} (h : Head D c k s a m) : Ce.sb (D c.toNat) = s := (Ce.parts_of h.fit h.word).2.1
/-- What Sweep leaves. -/
def SweptSaid (x : HSpot) (T : Nat → Nat) (D : Nat → Int) (R : Nat → Rows) (top par : Int) (L : List (Int × Int)) (c s : Int) (w : World) (e : Ending) (w' : World) : Prop :=
  e = .returned (.bool true) ∧ ∃ T' D' M, HLies x T' D' (put1 R x.k (R x.k).drop) top par M w' ∧ HTurn T T' w w' ∧ SameBut (R x.k) D D' ∧ Ex.Given x.lim (x.lim + (x.n - x.lim : Int)) x.lim (x.n - x.lim : Int) c (s + 3) L M
end Go.Proofs.Ythliahaopelooaa
/- An object is marked. -/
namespace Go.Proofs.Ythliahaopelooaa
open Go.RowKit
set_option maxHeartbeats 4000000 in
set_option maxRecDepth 100000 in
theorem ringfor_any (x : HSpot) (T : Nat → Nat) (D : Nat → Int) (R : Nat → Rows) (top par : Int) (L : List (Int × Int)) (w : World) (h : HLies x T D R top par L w) (size : Int) (i : Nat) (hC : Cls x.sz x.k size i) :
    Calls Try.prog 56 #[.pointer (some ⟨x.h, 0, none⟩), .int .i64 size] w fun e w' => e = .returned (.pointer (some ⟨(x.S i).r, 0, none⟩)) ∧ Below w.heap.size w w' := by
  have H := Lib.hid h
  have H1 := Lib.hid (class_for x T D R top par L w h size i hC)
  clear h
  go_enter Try.func56, Try.ntmps56
  go_wp2_with fail
  refine H1.out.mono ?_
  rintro e w2 ⟨rfl, hb⟩
  have HB := Lib.hid (And.intro hb (H.out.later hb))
  clear hb H1
  by_cases hi : i < x.k
  · rw [if_pos hi]
    have hx := (Below.refl w2.heap.size w2).alloc (Nat.le_refl _) (.cells #[.int .i64 (x.sz i), .pointer (some ⟨(x.S i).r, 0, none⟩)] 120)
    have HX := Lib.hid (onB' HB.out.1 hx)
    clear hx
    go_wp2_with fail
    go_ret
    exact ⟨rfl, HX.out⟩
  · rw [if_neg hi]
    obtain rfl : i = x.k := by have := hC.le; omega
    have hx := (Below.refl w2.heap.size w2).alloc (Nat.le_refl _) (.cells #[.int .i64 0, .pointer none] 120)
    have c2 := later' hx HB.out.2.large
    have HX := Lib.hid (onB' HB.out.1 hx)
    clear hx
    go_wp2_with fail
    go_ret
    exact ⟨rfl, HX.out⟩
/-- What Shade leaves. -/
def ShadeSaid (x : HSpot) (T : Nat → Nat) (D : Nat → Int) (R : Nat → Rows) (top par : Int) (L : List (Int × Int)) (i : Nat) (c v : Int) (w : World) (e : Ending) (w' : World) : Prop :=
  e = .returned (.tuple #[.bool true, .int .i64 0]) ∧ ∃ T' D', SameBut (R i) D D' ∧ HLies x T' (putW D' c v) (fun j => if j = i then (R i).shade c else R j) top par L w' ∧ HTurn T T' w w'
theorem shade_all {R : Rows} {c b : Int} (hc : c ∈ R.frm) (h : b ∈ (R.shade c).all) : b ∈ R.all := by
  unfold Rows.all Rows.shade at *
  simp only [List.mem_append, List.mem_singleton] at *
  rcases h with h | h | (h | h) | h
  · exact Or.inl h
  · exact Or.inr (Or.inl (List.mem_of_mem_erase h))
  · exact Or.inr (Or.inr (Or.inl h))
  · subst h; exact Or.inr (Or.inl hc)
  · exact Or.inr (Or.inr (Or.inr h))
set_option maxHeartbeats 8000000 in
set_option maxRecDepth 100000 in
theorem hshade_any (x : HSpot) (T : Nat → Nat) (D : Nat → Int) (R : Nat → Rows) (top par : Int) (L : List (Int × Int)) (w : World) (h : HLies x T D R top par L w) (hI : HInv x D R top L) (i : Nat) (c k s a m : Int) (hC : Cls x.sz x.k s i) (hc : c ∈ (R i).frm) (hd : Head D c k s a m) (hm : m ≠ par) (hp : par = 0 ∨ par = 1) :
    Calls Try.prog 27 #[.pointer (some ⟨x.h, 0, none⟩), .int .i64 c] w (ShadeSaid x T D R top par L i c (Ce.pw k s a par) w) := by
  have hca : c ∈ (R i).all := List.mem_append_right _ (List.mem_append_left _ hc)
  have hO : Obj1 x R c 0 := hI.obj hC.le hca (by have := wid_three hI i c; omega)
  have h1 := hO.one
  have h2 := hO.le
  have hwd := hO.word (by omega)
  have hpe : Ce.pe k s a par = 0 := Ce.pe_ok ⟨hd.fit.1, hd.fit.2.1, hd.fit.2.2.1, by omega⟩
  have H1 := Lib.hid (cell_any x T D R top par L w h c k s a m h1 (by omega) hd)
  have HS := Lib.hid (fun W hW => ringd_shade (x.S i) (R i) W D hW c hc)
  have HF := Lib.hid (And.intro hI.far (And.intro hwd hc))
  have HT := Lib.hid (fun T D R (hl : ∀ i, i ≤ x.k → ∀ q, Links (R i) q → (q : Int) ≠ c) W hW => turn_any x T D R top par L W hW c k s a par h1 (show c < x.n by omega) hpe hl)
  have gm : (m == par) = false := by simpa using hm
  clear h hI hca hO hwd hpe hd hc hm hp
  go_enter Try.func27, Try.ntmps27
  go_wp2_with fail
  refine H1.out.mono ?_
  rintro e w2 ⟨rfl, hS⟩
  have HS2 := Lib.hid hS
  clear hS H1
  have hx := (Below.refl w2.heap.size w2).alloc (Nat.le_refl _) (.cells #[.int .i64 k, .int .i64 s, .int .i64 a, .int .i64 m] 46)
  have hret := HS2.out.1.retag
  have hT1 : ∀ b, w2.heap.size ≤ b → retag T w2.heap.size b = 1000 := fun b hb => if_neg (by omega)
  have HX := Lib.hid (And.intro (hret.1.later hx) ((HS2.out.2.trans hret.2).trans (HTurn.of_below hx)))
  have hun := (HS2.out.1.rings i hC.le).under
  have hsz2 := HS2.out.2.size
  have HU := Lib.hid (And.intro hun (And.intro hT1 hsz2))
  have hle2 : w2.heap.size < (w2.alloc (.cells #[.int .i64 k, .int .i64 s, .int .i64 a, .int .i64 m] 46)).heap.size := by simp
  clear hret hun hT1
  generalize retag T w2.heap.size = T1 at *
  have b0 : (w2.alloc (.cells #[.int .i64 k, .int .i64 s, .int .i64 a, .int .i64 m] 46)).cell? ⟨w2.heap.size, 0, none⟩ = some (.int .i64 k) := by simp [go_sem]
  have b1 : (w2.alloc (.cells #[.int .i64 k, .int .i64 s, .int .i64 a, .int .i64 m] 46)).cell? ⟨w2.heap.size, 1, none⟩ = some (.int .i64 s) := by simp [go_sem]
  have b2 : (w2.alloc (.cells #[.int .i64 k, .int .i64 s, .int .i64 a, .int .i64 m] 46)).cell? ⟨w2.heap.size, 2, none⟩ = some (.int .i64 a) := by simp [go_sem]
  have b3 : (w2.alloc (.cells #[.int .i64 k, .int .i64 s, .int .i64 a, .int .i64 m] 46)).cell? ⟨w2.heap.size, 3, none⟩ = some (.int .i64 m) := by simp [go_sem]
  have zb : ∀ j, (w2.alloc (.cells #[.int .i64 k, .int .i64 s, .int .i64 a, .int .i64 m] 46)).frozen? ⟨w2.heap.size, j, none⟩ = false := fun j => by simp [go_sem]
  clear hx
  go_wp2_with fail
  generalize (w2.alloc (.cells #[.int .i64 k, .int .i64 s, .int .i64 a, .int .i64 m] 46)) = W at *
  have hdr := (Below.refl W.heap.size W).drew
  have HD := Lib.hid (And.intro (HX.out.1.later hdr) (HX.out.2.trans (HTurn.of_below hdr)))
  have c6 : W.drew.cell? ⟨x.h, 6, none⟩ = some (.int .i64 par) := HD.out.1.par
  replace b0 := later' hdr b0
  replace b1 := later' hdr b1
  replace b2 := later' hdr b2
  replace b3 := later' hdr b3
  replace zb : ∀ j, W.drew.frozen? ⟨w2.heap.size, j, none⟩ = false := zb
  replace hle2 : w2.heap.size < W.drew.heap.size := hle2
  clear hdr HX HS2
  go_region
  go_wp2_with fail
  generalize W.drew = V at *
  refine (ringfor_any x T1 D R top par L V HD.out.1 s i hC).mono ?_
  rintro e w5 ⟨rfl, hb5⟩
  replace b0 := later' hb5 b0
  replace b2 := later' hb5 b2
  replace b1 := later' hb5 b1
  replace b3 := later' hb5 b3
  replace zb : ∀ j, w5.frozen? ⟨w2.heap.size, j, none⟩ = false := fun j => (World.frozen?_of_block (w := V) (hb5.block w2.heap.size hle2)).trans (zb j)
  replace hle2 : w2.heap.size < w5.heap.size := Nat.lt_of_lt_of_le hle2 hb5.size
  have H5 := Lib.hid (And.intro (HD.out.1.later hb5) (HD.out.2.trans (HTurn.of_below hb5)))
  clear hb5 HD c6
  go_wp2_with fail
  refine (HS.out w5 (H5.out.1.rings i hC.le)).mono ?_
  rintro e w6 ⟨rfl, ⟨D', hR, hD'⟩, ht⟩
  have hk6 : w6.heap[w2.heap.size]? = w5.heap[w2.heap.size]? := ht.block _ hle2 (by have := HU.out.1.2.2 _ (Or.inl rfl); omega) (by have := HU.out.1.1; omega) (by have := HU.out.1.2.1; omega)
  have h6 := H5.out.1.ring hC.le hR ht (fun j hj hji q hq => hD' q (by
    rintro ⟨b, hb, hbq⟩
    obtain ⟨b', hb', hbq'⟩ := hq
    have := HF.out.1 j hj i hC.le hji b' hb' b hb
    omega))
  have H6 := Lib.hid (And.intro h6.1 (And.intro (H5.out.2.trans h6.2) hD'))
  replace b0 := (World.cell?_of_block (w := w5) (a := ⟨w2.heap.size, 0, none⟩) hk6).trans b0
  replace b1 := (World.cell?_of_block (w := w5) (a := ⟨w2.heap.size, 1, none⟩) hk6).trans b1
  replace b2 := (World.cell?_of_block (w := w5) (a := ⟨w2.heap.size, 2, none⟩) hk6).trans b2
  replace b3 := (World.cell?_of_block (w := w5) (a := ⟨w2.heap.size, 3, none⟩) hk6).trans b3
  replace zb : ∀ j, w6.frozen? ⟨w2.heap.size, j, none⟩ = false := fun j => (World.frozen?_of_block (w := w5) hk6).trans (zb j)
  have c6 := h6.1.par
  clear h6 hR hD' ht hk6 H5 HS
  go_wp2_with fail
  have hsame : ∀ b, b < w2.heap.size → (w6.setCell ⟨w2.heap.size, 3, none⟩ (.int .i64 par)).heap[b]? = w6.heap[b]? := fun b hb => Below.heap_setCell _ _ _ _ (by simp only; omega)
  have hl7 := H6.out.1.others HU.out.2.1 hsame (by simp [World.setCell])
  have ht7 : HTurn T T1 w (w6.setCell ⟨w2.heap.size, 3, none⟩ (.int .i64 par)) := by
    have h0 := H6.out.2.1
    exact ⟨h0.os, h0.tape, h0.output, by simp [World.setCell]; exact h0.size, fun b hb ht => ⟨(h0.block b hb ht).1, (hsame b (by have := HU.out.2.2; omega)).trans (h0.block b hb ht).2⟩⟩
  have H7 := Lib.hid (And.intro hl7 ht7)
  clear hl7 ht7 hsame b0 b1 b2 b3 zb c6
  generalize (w6.setCell ⟨w2.heap.size, 3, none⟩ (.int .i64 par)) = w7 at *
  refine (HT.out T1 D' (fun j => if j = i then (R i).shade c else R j) (fun j hj q hq => by
    by_cases e : j = i
    · rw [if_pos e] at hq
      obtain ⟨b, hb, hbq⟩ := hq
      exact HF.out.2.1 i hC.le q ⟨b, shade_all HF.out.2.2 hb, hbq⟩
    · rw [if_neg e] at hq
      exact HF.out.2.1 j hj q hq) w7 H7.out.1).mono ?_
  rintro e w8 ⟨rfl, hS⟩
  have H8 := Lib.hid (And.intro hS.1 (H7.out.2.trans hS.2))
  clear hS HT
  go_wp2_with fail
  refine bodyPost_ret (v := .tuple #[.bool true, .int .i64 0]) (by simp [results, Try.results27, go_sem]) rfl ?_
  exact ⟨rfl, T1, D', H6.out.2.2, H8.out.1, H8.out.2⟩
/-- One that is marked is not shaded again. -/
def NotShaded (x : HSpot) (T : Nat → Nat) (D : Nat → Int) (R : Nat → Rows) (top par : Int) (L : List (Int × Int)) (w : World) (e : Ending) (w' : World) : Prop :=
  e = .returned (.tuple #[.bool false, .int .i64 0]) ∧ Stays x T D R top par L w w'
set_option maxHeartbeats 8000000 in
set_option maxRecDepth 100000 in
theorem hshade_not (x : HSpot) (T : Nat → Nat) (D : Nat → Int) (R : Nat → Rows) (top par : Int) (L : List (Int × Int)) (w : World) (h : HLies x T D R top par L w) (c k s a : Int) (h1 : 1 ≤ c) (h2 : c < x.n) (hd : Head D c k s a par) :
    Calls Try.prog 27 #[.pointer (some ⟨x.h, 0, none⟩), .int .i64 c] w (NotShaded x T D R top par L w) := by
  have H1 := Lib.hid (cell_any x T D R top par L w h c k s a par h1 h2 hd)
  clear h hd
  go_enter Try.func27, Try.ntmps27
  go_wp2_with fail
  refine H1.out.mono ?_
  rintro e w2 ⟨rfl, hS⟩
  have HS2 := Lib.hid hS
  clear hS H1
  have hx := (Below.refl w2.heap.size w2).alloc (Nat.le_refl _) (.cells #[.int .i64 k, .int .i64 s, .int .i64 a, .int .i64 par] 46)
  have HX := Lib.hid (show Stays x T D R top par L w (w2.alloc (.cells #[.int .i64 k, .int .i64 s, .int .i64 a, .int .i64 par] 46)) from ⟨HS2.out.1.later hx, HS2.out.2.trans (HTurn.of_below hx)⟩)
  have b3 : (w2.alloc (.cells #[.int .i64 k, .int .i64 s, .int .i64 a, .int .i64 par] 46)).cell? ⟨w2.heap.size, 3, none⟩ = some (.int .i64 par) := by simp [go_sem]
  clear hx
  go_wp2_with fail
  generalize (w2.alloc (.cells #[.int .i64 k, .int .i64 s, .int .i64 a, .int .i64 par] 46)) = W at *
  have hdr := (Below.refl W.heap.size W).drew
  have HD := Lib.hid (show Stays x T D R top par L w W.drew from ⟨HX.out.1.later hdr, HX.out.2.trans (HTurn.of_below hdr)⟩)
  have c6 : W.drew.cell? ⟨x.h, 6, none⟩ = some (.int .i64 par) := HD.out.1.par
  replace b3 := later' hdr b3
  clear hdr HX HS2
  go_region
  go_wp2_with fail
  refine bodyPost_ret (v := .tuple #[.bool false, .int .i64 0]) (by simp [results, Try.results27, go_sem]) rfl ?_
  exact ⟨rfl, HD.out⟩
end Go.Proofs.Ythliahaopelooaa
/- A heap's calls that only load and store words, with how many uses of the arena they are. -/
namespace Go.Proofs.Ythliahaopelooaa
open Go.RowKit
/-- So many uses more, at most. -/
def Us (n : Nat) (u u' : Int) : Prop := ∃ k : Int, 0 ≤ k ∧ k ≤ n ∧ (u' - u - k) % 18446744073709551616 = 0
theorem Us.refl (u : Int) : Us 0 u u := ⟨0, by omega, by omega, by omega⟩
theorem Us.trans {m n : Nat} {a b c : Int} (h : Us m a b) (k : Us n b c) : Us (m + n) a c := by
  obtain ⟨i, h1, h2, h3⟩ := h
  obtain ⟨j, k1, k2, k3⟩ := k
  exact ⟨i + j, by omega, by omega, by omega⟩
theorem Us.mono {m n : Nat} {a b : Int} (h : Us m a b) (k : m ≤ n) : Us n a b := by
  obtain ⟨i, h1, h2, h3⟩ := h
  exact ⟨i, h1, by omega, h3⟩
theorem Us.one (u : Int) : Us 1 u (wrap64 (u + 1)) := ⟨1, by omega, by omega, by unfold wrap64; omega⟩
theorem Us.diff {n : Nat} {a b : Int} (h : Us n a b) (hn : n ≤ 1000) : wrap64 (b - a) ≤ n := by
  obtain ⟨i, h1, h2, h3⟩ := h
  unfold wrap64
  omega
/-- A heap as it lies, and how often its arena was used. -/
def HA (x : HSpot) (T : Nat → Nat) (D : Nat → Int) (R : Nat → Rows) (top par : Int) (L : List (Int × Int)) (u : Int) (w : World) : Prop := HLies x T D R top par L w ∧ At w x.p x.d x.n D u
theorem HLies.ha {x : HSpot} {T : Nat → Nat} {D : Nat → Int} {R : Nat → Rows} {top par : Int} {L : List (Int × Int)} {w : World} (h : HLies x T D R top par L w) : ∃ u, HA x T D R top par L u w := by
  obtain ⟨u, hu⟩ := h.at
  exact ⟨u, h, hu⟩
theorem HA.later {x : HSpot} {T : Nat → Nat} {D : Nat → Int} {R : Nat → Rows} {top par : Int} {L : List (Int × Int)} {u : Int} {w w' : World} (h : HA x T D R top par L u w) (hb : Below w.heap.size w w') : HA x T D R top par L u w' := ⟨h.1.later hb, h.2.later hb⟩
/-- It lies on, so many uses later. -/
def StU (x : HSpot) (T : Nat → Nat) (D : Nat → Int) (R : Nat → Rows) (top par : Int) (L : List (Int × Int)) (n : Nat) (u : Int) (w w' : World) : Prop := ∃ u', HA x T D R top par L u' w' ∧ HTurn T T w w' ∧ Us n u u'
def TellU (x : HSpot) (T : Nat → Nat) (D : Nat → Int) (R : Nat → Rows) (top par : Int) (L : List (Int × Int)) (n : Nat) (u : Int) (v : Value) (w : World) (e : Ending) (w' : World) : Prop := e = .returned v ∧ StU x T D R top par L n u w w'
set_option maxHeartbeats 4000000 in
set_option maxRecDepth 100000 in
theorem cell_u (x : HSpot) (T : Nat → Nat) (D : Nat → Int) (R : Nat → Rows) (top par : Int) (L : List (Int × Int)) (u : Int) (w : World) (h : HA x T D R top par L u w) (at' k s a m : Int) (h1 : 1 ≤ at') (h2 : at' < x.n) (hd : Head D at' k s a m) :
    Calls Try.prog 20 #[.pointer (some ⟨x.h, 0, none⟩), .int .i64 at'] w (TellU x T D R top par L 1 u (.tuple #[.agg #[.int .i64 k, .int .i64 s, .int .i64 a, .int .i64 m], .int .i64 0]) w) := by
  have hx := (Below.refl w.heap.size w).alloc (Nat.le_refl _) (.cells #[.int .i64 0, .int .i64 0, .int .i64 0, .int .i64 0] 46)
  have hX := Ce.box_new w (.int .i64 0) (.int .i64 0) (.int .i64 0) (.int .i64 0) 46
  have hz : (w.alloc (.cells #[.int .i64 0, .int .i64 0, .int .i64 0, .int .i64 0] 46)).heap.size = w.heap.size + 1 := by simp
  obtain ⟨h, hA⟩ := h
  have hl := h.lh
  have lp := hA.lp
  have ld := hA.ld
  have c0 := later' hx h.arena
  have H := Lib.hid h
  have HX := Lib.hid (And.intro hx (hA.later hx))
  have hu : ∀ W : World, Calls Try.prog 46 #[.int .i64 (D at'.toNat)] W fun e w' => e = .returned (.tuple #[.agg #[.int .i64 k, .int .i64 s, .int .i64 a, .int .i64 m], .int .i64 0]) ∧ Below W.heap.size W w' := fun W => by
    have hr := Ce.jn_range hd.fit
    obtain ⟨e1, e2, e3, e4⟩ := Ce.parts_of hd.fit rfl
    have := Ce.unpack_word (Ce.jn k s a m) W (by unfold Ce.InR; omega) (Ce.word_jn hd.fit)
    rw [e1, e2, e3, e4] at this
    rw [hd.word]
    exact this
  have HU := Lib.hid hu
  clear h hx hA hu hd
  go_enter Try.func20, Try.ntmps20
  go_upto_region 1 with fail
  generalize (w.alloc (.cells #[.int .i64 0, .int .i64 0, .int .i64 0, .int .i64 0] 46)) = W at *
  go_wp2_with fail
  refine (load_in x.p x.d x.n D u at' W HX.out.2 (by omega) h2).mono ?_
  rintro e w2 ⟨rfl, hA2, hq2⟩
  have hX2 : Ce.Box w2 w.heap.size (.int .i64 0) (.int .i64 0) (.int .i64 0) (.int .i64 0) := by
    have hb : w2.heap[w.heap.size]? = W.heap[w.heap.size]? := hq2.block _ hX.lt (by omega) (by omega)
    have o : ∀ (j : Nat) (v : Value), W.cell? ⟨w.heap.size, j, none⟩ = some v → w2.cell? ⟨w.heap.size, j, none⟩ = some v := fun j v hv => (World.cell?_of_block (w := W) hb).trans hv
    have z : ∀ j, W.frozen? ⟨w.heap.size, j, none⟩ = false → w2.frozen? ⟨w.heap.size, j, none⟩ = false := fun j hv => (World.frozen?_of_block (w := W) hb).trans hv
    exact ⟨o _ _ hX.kind, o _ _ hX.size, o _ _ hX.aux, o _ _ hX.mark, z _ hX.f0, z _ hX.f1, z _ hX.f2, z _ hX.f3, Nat.lt_of_lt_of_le hX.lt hq2.size⟩
  have H2 := Lib.hid (And.intro hA2 ((Apart.of_below HX.out.1).trans hq2))
  generalize D at'.toNat = word at *
  clear hA2 hq2 hX c0 HX
  go_wp2_with fail
  refine (HU.out w2).mono ?_
  rintro e w3 ⟨rfl, hb⟩
  obtain ⟨c0, c1, c2, c3, z0, z1, z2, z3, hlt⟩ := hX2.later hb
  have H3 := Lib.hid (And.intro (H2.out.1.later hb) (H2.out.2.trans (Apart.of_below hb)))
  clear hb hX2 H2 HU
  go_wp2_with fail
  refine bodyPost_ret (v := .tuple #[.agg #[.int .i64 k, .int .i64 s, .int .i64 a, .int .i64 m], .int .i64 0]) (by simp [results, Try.results20, go_sem, c0, c1, c2, c3]) rfl ?_
  obtain ⟨hA3, hq3⟩ := H3.out
  have hA4 := (((hA3.setFresh (w := w) (a := ⟨w.heap.size, 0, none⟩) lp ld (Nat.le_refl _) (.int .i64 k)).setFresh (w := w) (a := ⟨w.heap.size, 1, none⟩) lp ld (Nat.le_refl _) (.int .i64 s)).setFresh (w := w) (a := ⟨w.heap.size, 2, none⟩) lp ld (Nat.le_refl _) (.int .i64 a)).setFresh (w := w) (a := ⟨w.heap.size, 3, none⟩) lp ld (Nat.le_refl _) (.int .i64 m)
  have h4 := H.out.words hA4 ((((hq3.setFresh (Nat.le_refl _) _).setFresh (Nat.le_refl _) _).setFresh (Nat.le_refl _) _).setFresh (Nat.le_refl _) _) (fun _ _ _ _ => rfl)
  exact ⟨rfl, _, ⟨h4.1, hA4⟩, h4.2, Us.one u⟩
set_option maxHeartbeats 4000000 in
set_option maxRecDepth 100000 in
theorem place_u (x : HSpot) (T : Nat → Nat) (D : Nat → Int) (R : Nat → Rows) (top par : Int) (L : List (Int × Int)) (u : Int) (w : World) (h : HA x T D R top par L u w) (at' k s a m : Int) (h1 : 1 ≤ at') (h2 : at' < x.n) (hn : x.n ≤ 65536) (hd : Head D at' k s a m) (j : Int) (hj : 0 ≤ j ∧ j < s) :
    Calls Try.prog 47 #[.pointer (some ⟨x.h, 0, none⟩), .int .i64 at', .int .i64 j] w (TellU x T D R top par L 1 u (.tuple #[.int .i64 (at' + 3 + j), .int .i64 0]) w) := by
  have H1 := Lib.hid (cell_u x T D R top par L u w h at' k s a m h1 h2 hd)
  have hs := hd.fit.2.1
  have e1 : IntKind.i64.wrap (at' + 3) = at' + 3 := by rw [IntKind.wrap_i64]; omega
  have e2 : IntKind.i64.wrap (at' + 3 + j) = at' + 3 + j := by rw [IntKind.wrap_i64]; omega
  have g1' : decide (j < 0) = false := decide_eq_false (by omega)
  have g2' : decide (s ≤ j) = false := decide_eq_false (by omega)
  clear h hd
  go_enter Try.func47, Try.ntmps47
  go_wp2_with fail
  refine H1.out.mono ?_
  rintro e w2 ⟨rfl, u2, hS, ht, hu⟩
  have hx := (Below.refl w2.heap.size w2).alloc (Nat.le_refl _) (.cells #[.int .i64 k, .int .i64 s, .int .i64 a, .int .i64 m] 46)
  have b1 : (w2.alloc (.cells #[.int .i64 k, .int .i64 s, .int .i64 a, .int .i64 m] 46)).cell? ⟨w2.heap.size, 1, none⟩ = some (.int .i64 s) := by simp [go_sem]
  have HS := Lib.hid (show StU x T D R top par L 1 u w (w2.alloc (.cells #[.int .i64 k, .int .i64 s, .int .i64 a, .int .i64 m] 46)) from ⟨u2, hS.later hx, ht.trans (HTurn.of_below hx), hu⟩)
  clear hS hx H1 ht hu
  go_upto_region 4 with fail
  generalize (w2.alloc (.cells #[.int .i64 k, .int .i64 s, .int .i64 a, .int .i64 m] 46)) = W at *
  go_wp2_with fail
  refine bodyPost_ret (v := .tuple #[.int .i64 (at' + 3 + j), .int .i64 0]) (by simp [results, Try.results47, go_sem]) rfl ?_
  exact ⟨rfl, HS.out⟩
set_option maxHeartbeats 1000000 in
set_option maxRecDepth 100000 in
theorem get_u (x : HSpot) (T : Nat → Nat) (D : Nat → Int) (R : Nat → Rows) (top par : Int) (L : List (Int × Int)) (u : Int) (w : World) (h : HA x T D R top par L u w) (at' k s a m : Int) (h1 : 1 ≤ at') (h2 : at' + s + 3 ≤ x.n) (hn : x.n ≤ 65536) (hd : Head D at' k s a m) (j : Int) (hj : 0 ≤ j ∧ j < s) :
    Calls Try.prog 21 #[.pointer (some ⟨x.h, 0, none⟩), .int .i64 at', .int .i64 j] w (TellU x T D R top par L 2 u (.tuple #[.int .i64 (D (at' + 3 + j).toNat), .int .i64 0]) w) := by
  have H1 := Lib.hid (place_u x T D R top par L u w h at' k s a m h1 (by omega) hn hd j hj)
  have hload : ∀ W u, At W x.p x.d x.n D u → _ := fun W u hA => load_in x.p x.d x.n D u (at' + 3 + j) W hA (by omega) (by omega)
  have HLD := Lib.hid hload
  clear h hd hload
  generalize D (at' + 3 + j).toNat = v at *
  go_enter Try.func21, Try.ntmps21
  go_wp2_with fail
  refine H1.out.mono ?_
  rintro e w2 ⟨rfl, u2, hS, ht, hus⟩
  have c0 := hS.1.arena
  have HU := Lib.hid (And.intro hS (And.intro ht hus))
  clear hS H1 ht hus
  go_wp2_with fail
  refine (HLD.out w2 u2 HU.out.1.2).mono ?_
  rintro e w3 ⟨rfl, hA, hq⟩
  have h4 := HU.out.1.1.words hA hq (fun _ _ _ _ => rfl)
  have HE := Lib.hid (show StU x T D R top par L 2 u w w3 from ⟨_, ⟨h4.1, hA⟩, HU.out.2.1.trans h4.2, HU.out.2.2.trans (Us.one u2)⟩)
  clear hA hq c0 h4
  go_wp2_with fail
  refine bodyPost_ret (v := .tuple #[.int .i64 v, .int .i64 0]) (by simp [results, Try.results21, go_sem]) rfl ?_
  exact ⟨rfl, HE.out⟩
set_option maxHeartbeats 1000000 in
set_option maxRecDepth 100000 in
theorem set_u (x : HSpot) (T : Nat → Nat) (D : Nat → Int) (R : Nat → Rows) (top par : Int) (L : List (Int × Int)) (u : Int) (w : World) (h : HA x T D R top par L u w) (at' k s a m : Int) (h1 : 1 ≤ at') (h2 : at' + s + 3 ≤ x.n) (hn : x.n ≤ 65536) (hd : Head D at' k s a m) (j v : Int) (hj : 0 ≤ j ∧ j < s) (hl : ∀ i, i ≤ x.k → ∀ q, Links (R i) q → (q : Int) ≠ at' + 3 + j) :
    Calls Try.prog 32 #[.pointer (some ⟨x.h, 0, none⟩), .int .i64 at', .int .i64 j, .int .i64 v] w (TellU x T (putW D (at' + 3 + j) v) R top par L 2 u (.int .i64 0) w) := by
  have hs := hd.fit.2.1
  have H1 := Lib.hid (place_u x T D R top par L u w h at' k s a m h1 (by omega) hn hd j hj)
  have HL := Lib.hid hl
  clear h hd hl
  go_enter Try.func32, Try.ntmps32
  go_wp2_with fail
  refine H1.out.mono ?_
  rintro e w2 ⟨rfl, u2, hS, ht, hus⟩
  have c0 := hS.1.arena
  have HU := Lib.hid (And.intro hS (And.intro ht hus))
  clear hS H1 ht hus
  go_wp2_with fail
  refine (store_in x.p x.d x.n D u2 (at' + 3 + j) v w2 HU.out.1.2 (by omega) (by omega)).mono ?_
  rintro e w3 ⟨rfl, hA, hq⟩
  have h4 := HU.out.1.1.words hA hq (fun i hi q hq => if_neg (by have := HL.out i hi q hq; omega))
  have HE := Lib.hid (show StU x T (putW D (at' + 3 + j) v) R top par L 2 u w w3 from ⟨_, ⟨h4.1, hA⟩, HU.out.2.1.trans h4.2, HU.out.2.2.trans (Us.one u2)⟩)
  clear hA hq c0 h4
  go_wp2_with fail
  go_ret
  exact ⟨rfl, HE.out⟩
set_option maxHeartbeats 1000000 in
set_option maxRecDepth 100000 in
theorem turn_u (x : HSpot) (T : Nat → Nat) (D : Nat → Int) (R : Nat → Rows) (top par : Int) (L : List (Int × Int)) (u : Int) (w : World) (h : HA x T D R top par L u w) (at' k s a m : Int) (h1 : 1 ≤ at') (h2 : at' < x.n) (hp : Ce.pe k s a m = 0) (hl : ∀ i, i ≤ x.k → ∀ q, Links (R i) q → (q : Int) ≠ at') :
    Calls Try.prog 58 #[.pointer (some ⟨x.h, 0, none⟩), .int .i64 at', .agg #[.int .i64 k, .int .i64 s, .int .i64 a, .int .i64 m]] w (TellU x T (putW D at' (Ce.pw k s a m)) R top par L 1 u (.int .i64 0) w) := by
  have HP := Lib.hid (fun w => Ce.pack_any k s a m w)
  have H := Lib.hid h
  have HL := Lib.hid hl
  clear h hl
  generalize Ce.pe k s a m = pe at *
  generalize Ce.pw k s a m = pw at *
  subst hp
  go_enter Try.func58, Try.ntmps58
  go_wp2_with fail
  have hx := (Below.refl w.heap.size w).alloc (Nat.le_refl _) (.cells #[.int .i64 k, .int .i64 s, .int .i64 a, .int .i64 m] 46)
  refine (HP.out _).mono ?_
  rintro e w2 ⟨rfl, hb0⟩
  have hb := onB' hx hb0
  have hS : HA x T D R top par L u w2 := H.out.later hb
  have c0 := hS.1.arena
  have HU := Lib.hid (And.intro hS (HTurn.of_below (T := T) hb))
  clear hb hS HP hx hb0
  go_wp2_with fail
  refine (store_in x.p x.d x.n D u at' pw w2 HU.out.1.2 (by omega) h2).mono ?_
  rintro e w3 ⟨rfl, hA, hq⟩
  have h4 := HU.out.1.1.words hA hq (fun i hi q hq => if_neg (by have := HL.out i hi q hq; omega))
  have HE := Lib.hid (show StU x T (putW D at' pw) R top par L 1 u w w3 from ⟨_, ⟨h4.1, hA⟩, HU.out.2.trans h4.2, Us.one u⟩)
  clear hA hq c0 h4
  go_wp2_with fail
  go_ret
  exact ⟨rfl, HE.out⟩
set_option maxHeartbeats 1000000 in
set_option maxRecDepth 100000 in
theorem become_u (x : HSpot) (T : Nat → Nat) (D : Nat → Int) (R : Nat → Rows) (top par : Int) (L : List (Int × Int)) (u : Int) (w : World) (h : HA x T D R top par L u w) (at' k s a m : Int) (h1 : 1 ≤ at') (h2 : at' < x.n) (hd : Head D at' k s a m) (k' a' : Int) (hp : Ce.pe k' s a' m = 0) (hl : ∀ i, i ≤ x.k → ∀ q, Links (R i) q → (q : Int) ≠ at') :
    Calls Try.prog 68 #[.pointer (some ⟨x.h, 0, none⟩), .int .i64 at', .int .i64 k', .int .i64 a'] w (TellU x T (putW D at' (Ce.pw k' s a' m)) R top par L 2 u (.int .i64 0) w) := by
  have H1 := Lib.hid (cell_u x T D R top par L u w h at' k s a m h1 h2 hd)
  have HT := Lib.hid (fun u W hW => turn_u x T D R top par L u W hW at' k' s a' m h1 h2 hp hl)
  clear h hd hl
  go_enter Try.func68, Try.ntmps68
  go_wp2_with fail
  refine H1.out.mono ?_
  rintro e w2 ⟨rfl, u2, hS, ht, hus⟩
  have HS := Lib.hid (And.intro hS (And.intro ht hus))
  clear hS H1 ht hus
  go_wp2_with fail
  have hx := (Below.refl w2.heap.size w2).alloc (Nat.le_refl _) (.cells #[.int .i64 k', .int .i64 s, .int .i64 a', .int .i64 m] 46)
  have HX := Lib.hid (And.intro (HS.out.1.later hx) (And.intro (HS.out.2.1.trans (HTurn.of_below hx)) HS.out.2.2))
  generalize (w2.alloc (.cells #[.int .i64 k', .int .i64 s, .int .i64 a', .int .i64 m] 46)) = W at *
  clear hx HS
  refine (HT.out u2 W HX.out.1).mono ?_
  rintro e w3 ⟨rfl, u3, hS, ht, hus⟩
  have HE := Lib.hid (show StU x T (putW D at' (Ce.pw k' s a' m)) R top par L 2 u w w3 from ⟨u3, hS, HX.out.2.1.trans ht, HX.out.2.2.trans hus⟩)
  clear hS HT ht hus
  generalize putW D at' (Ce.pw k' s a' m) = D' at *
  go_wp2_with fail
  go_ret
  exact ⟨rfl, HE.out⟩
end Go.Proofs.Ythliahaopelooaa
