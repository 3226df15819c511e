/- The law's world: its rows anew; mark. -/
import Derived.Test.YthliahaopelooaaMg11
namespace Go.Proofs.Ythliahaopelooaa
open Go.RowKit

section
variable {Kx : Nat → Prop} {S : LSp} {m : LM} {u : Int} {x : HSpot} {T : Nat → Nat} {D : Nat → Int} {R : Nat → Rows} {top : Int} {L : List (Int × Int)} {G : Nat → Nat} {vk vw vm vs : Value} {W W' : World}
theorem Lx.lawset (h : Lx Kx S m u x T D R top L G vk vw vm vs W) {ws mk : List Int} {vw' vm' : Value} (hk : ∀ b, b < W.heap.size → G b ≠ 1 → G b ≠ 7 → W'.heap[b]? = W.heap[b]?) (hos : W'.os = W.os) (htp : W'.tape = W.tape) (hou : W'.output = W.output) (hs : W.heap.size ≤ W'.heap.size)
    (h1 : A1 S vk vw' vm' vs W') (hw : Rw 0 W' vw' ws) (hd : Rw 0 W' vm' mk) (gw : ∀ g, vw'.ownBlock = some g → G g = 7) (gd : ∀ g, vm'.ownBlock = some g → G g = 8) :
    Lx Kx S { m with weaks := ws, marked := mk } u x T D R top L G vk vw' vm' vs W' ∧ Kp Kx W W' := by
  have nb : ∀ b, T b ≠ 1000 → G b = 0 := fun b hb => Classical.byContradiction fun e => hb (h.gt b e).2.2
  have hl : HLies x T D R top m.par L W' := h.ha.1.butw (fun b hb ht => hk b hb (by rw [nb b ht]; decide) (by rw [nb b ht]; decide)) hs
  obtain ⟨cb, cap, g, htg, -⟩ := h.ha.1.rest
  have np : G x.p = 0 := nb _ (by rw [htg.p]; omega)
  have nd : G x.d = 0 := nb _ (by rw [htg.d]; omega)
  have hA : At W' x.p x.d x.n D u := h.ha.2.move (hk _ h.ha.2.lp (by rw [np]; decide) (by rw [np]; decide)) (hk _ h.ha.2.ld (by rw [nd]; decide) (by rw [nd]; decide)) hs
  have gk : ∀ b t, G b = t → t ≠ 0 → t ≠ 1 → t ≠ 7 → W'.heap[b]? = W.heap[b]? := fun b t hb h0 h1 h7 => hk b (h.gt b (by omega)).2.1 (by omega) (by omega)
  have a3 := h.ll.a3.same (gk _ 3 h.ll.g3 (by decide) (by decide) (by decide))
  have a5 := h.ll.a5.same (W' := W') (fun b hb => by
    rcases hb with rfl | hb
    · exact gk _ 5 h.ll.g5 (by decide) (by decide) (by decide)
    · exact gk _ 10 hb (by decide) (by decide) (by decide))
  refine ⟨⟨h.xh, ⟨hl, hA⟩, h.hp, ⟨h.ll.g1, h.ll.g2, h.ll.g3, h.ll.g4, h.ll.g5, h1, (World.cell?_of_block (w := W) (gk _ 2 h.ll.g2 (by decide) (by decide) (by decide))).trans h.ll.a2, ⟨a3.h, a3.s, a3.fi, a3.a, a3.nx, a3.qu, a3.la, a3.cn, a3.fz⟩, h.ll.a4.same (gk _ 4 h.ll.g4 (by decide) (by decide) (by decide)), a5, h.ll.k.same fun q hq => gk _ 6 (h.ll.gk q hq) (by decide) (by decide) (by decide), hw, hd, h.ll.s.same fun q hq => gk _ 9 (h.ll.gs q hq) (by decide) (by decide) (by decide), h.ll.gk, gw, gd, h.ll.gs⟩, fun b hb => by have := h.bs b hb; omega, fun b hb => h.hi b (by omega), h.lo, fun b hb => ?_⟩, hos, htp, hou, hs, fun b hb => ?_⟩
  · have := h.gt b hb
    exact ⟨this.1, by omega, this.2.2⟩
  · have hb0 : G b = 0 := Classical.byContradiction fun e => (h.gt b e).1 hb
    exact hk b (h.bs b hb) (by omega) (by omega)
end
section
variable {Kx : Nat → Prop} {S : LSp} {m : LM} {u : Int} {W W' : World}
theorem Lm.d5 (h : Lm Kx S m u W) : (∃ v, W.cell? ⟨S.wb, 5, none⟩ = some v) ∧ W.frozen? ⟨S.wb, 5, none⟩ = false := by
  obtain ⟨x, T, D, R, top, L, G, vk, vw, vm, vs, h⟩ := h
  exact ⟨⟨_, h.ll.a1.d⟩, h.ll.a1.fz 5⟩
theorem Lm.nil_marked (h : Lm Kx S m u W) : Lm Kx S { m with marked := [] } u (W.setCell ⟨S.wb, 5, none⟩ (.slice none 0 0)) ∧ Kp Kx W (W.setCell ⟨S.wb, 5, none⟩ (.slice none 0 0)) := by
  obtain ⟨x, T, D, R, top, L, G, vk, vw, vm, vs, h⟩ := h
  have hb : ∀ b, b ≠ S.wb → (W.setCell ⟨S.wb, 5, none⟩ (.slice none 0 0)).heap[b]? = W.heap[b]? := fun b hb => Below.heap_setCell _ _ _ _ hb
  have ho : ∀ (j : Nat) (v' : Value), j ≠ 5 → W.cell? ⟨S.wb, j, none⟩ = some v' → (W.setCell ⟨S.wb, 5, none⟩ (.slice none 0 0)).cell? ⟨S.wb, j, none⟩ = some v' := fun j v' hj hv => (World.cell?_setCell_other _ _ _ _ (fun e => hj (by cases e; rfl))).trans hv
  have := h.lawset (W' := W.setCell ⟨S.wb, 5, none⟩ (.slice none 0 0)) (ws := m.weaks) (mk := []) (vw' := vw) (vm' := .slice none 0 0) (fun b _ h1 _ => hb b fun e => h1 (by rw [e]; exact h.ll.g1)) rfl rfl rfl (by simp [World.setCell])
    ⟨ho 0 _ (by decide) h.ll.a1.h, ho 1 _ (by decide) h.ll.a1.t, ho 2 _ (by decide) h.ll.a1.m, ho 3 _ (by decide) h.ll.a1.k, ho 4 _ (by decide) h.ll.a1.w, World.cell?_setCell_same _ _ _ h.ll.a1.d, ho 6 _ (by decide) h.ll.a1.s, fun j => (World.frozen?_setCell _ _ _ _).trans (h.ll.a1.fz j)⟩
    (h.ll.w.same fun q hq => hb q fun e => by have := h.ll.gw q hq; rw [e, h.ll.g1] at this; omega) (World.ownsRow_nil _ _ _ _) h.ll.gw (fun g hg => by cases hg)
  exact ⟨⟨x, T, D, R, top, L, G, vk, vw, _, vs, this.1⟩, this.2⟩
/-- A weak pointer's place in the law's row may be stored to. -/
theorem Lm.weak_set (h : Lm Kx S m u W) (hn : 0 < m.weaks.length) : ∃ g cap, W.cell? ⟨S.wb, 4, none⟩ = some (.slice (some ⟨g, 0, none⟩) m.weaks.length cap) ∧ (∀ i, i < m.weaks.length → W.cell? ⟨g, i, none⟩ = some (.int .i64 (m.weaks.getD i 0))) ∧ (∀ j, W.frozen? ⟨g, j, none⟩ = false) ∧ ∀ q z, Lm Kx S { m with weaks := m.weaks.set q z } u (W.setCell ⟨g, q, none⟩ (.int .i64 z)) ∧ Kp Kx W (W.setCell ⟨g, q, none⟩ (.int .i64 z)) := by
  obtain ⟨x, T, D, R, top, L, G, vk, vw, vm, vs, h⟩ := h
  obtain ⟨a, cap, rfl, hc⟩ := rw_at h.ll.w
  obtain ⟨g, rfl, -⟩ := hc 0 hn
  have hw := h.ll.w
  refine ⟨g, cap, h.ll.a1.w, fun i hi => ?_, fun j => World.ownsRow.frozenAt hw j, fun q z => ?_⟩
  · obtain ⟨g', e, hi⟩ := hc i hi
    cases e
    exact hi
  · have gg : G g = 7 := h.ll.gw g rfl
    have hb : ∀ b, b ≠ g → (W.setCell ⟨g, q, none⟩ (.int .i64 z)).heap[b]? = W.heap[b]? := fun b hb => Below.heap_setCell _ _ _ _ hb
    have hst := (World.ownsRow.stored hw q (.int .i64 z)).1
    have hst' : Rw 0 (W.setCell ⟨g, q, none⟩ (.int .i64 z)) (.slice (some ⟨g, 0, none⟩) m.weaks.length cap) (m.weaks.set q z) := by
      unfold Rw
      rw [List.length_set, List.map_set]
      exact hst
    have wg : S.wb ≠ g := fun e => by have := h.ll.g1; rw [e, gg] at this; omega
    have := h.lawset (W' := W.setCell ⟨g, q, none⟩ (.int .i64 z)) (ws := m.weaks.set q z) (mk := m.marked) (vm' := vm) (fun b _ _ h7 => hb b fun e => h7 (by rw [e]; exact gg)) rfl rfl rfl (by simp [World.setCell])
      (h.ll.a1.same (hb _ wg)) hst' (h.ll.d.same fun q hq => hb q fun e => by have := h.ll.gd q hq; rw [e, gg] at this; omega) h.ll.gw h.ll.gd
    exact ⟨⟨x, T, D, R, top, L, G, vk, _, vm, vs, this.1⟩, this.2⟩
theorem Lm.shadedAt (h : Lm Kx S m u W) : ∃ a cap, W.cell? ⟨S.wb, 6, none⟩ = some (.slice a m.shaded.length cap) ∧ ∀ i, i < m.shaded.length → ∃ g, a = some ⟨g, 0, none⟩ ∧ W.cell? ⟨g, i, none⟩ = some (.int .i64 (m.shaded.getD i 0)) := by
  obtain ⟨x, T, D, R, top, L, G, vk, vw, vm, vs, h⟩ := h
  have hs : W.ownsRow 0 2 1 vs m.shaded.length (m.shaded.map (.int .i64)) := h.ll.s
  have h6 := h.ll.a1.s
  rcases hs.2 with ⟨e, e2⟩ | ⟨g, cap, cur, e, hg, hb, hr⟩
  · rw [e] at h6
    exact ⟨none, 0, by rw [e2]; exact h6, fun i hi => by omega⟩
  · rw [e] at h6
    refine ⟨_, cap, h6, fun i hi => ⟨g, rfl, ?_⟩⟩
    subst e
    have := hs.cells rfl i (.int .i64 (m.shaded.getD i 0)) (by simp [List.getElem?_eq_getElem hi])
    rw [Addr.add_lit] at this
    simpa using this
end

/-- How many are marked. -/
def cnt (mk : Nat → Bool) : Nat → Nat
  | 0 => 0
  | n + 1 => cnt mk n + (mk n).toNat
theorem cnt_le (mk : Nat → Bool) (n : Nat) : cnt mk n ≤ n := by
  induction n with
  | zero => exact Nat.le_refl _
  | succ n ih => simp only [cnt]; have := Bool.toNat_le (mk n); omega
theorem cnt_far {mk : Nat → Bool} {q n : Nat} (h : n ≤ q) : cnt (fun i => mk i || decide (i = q)) n = cnt mk n := by
  induction n with
  | zero => rfl
  | succ n ih =>
    simp only [cnt]
    rw [ih (by omega), show decide (n = q) = false from decide_eq_false (by omega), Bool.or_false]
theorem cnt_one {mk : Nat → Bool} {q n : Nat} (h : q < n) (hq : mk q = false) : cnt (fun i => mk i || decide (i = q)) n = cnt mk n + 1 := by
  induction n with
  | zero => omega
  | succ n ih =>
    simp only [cnt]
    by_cases e : n = q
    · subst e
      rw [cnt_far (Nat.le_refl _), hq]
      simp
    · rw [ih (by omega), show decide (n = q) = false from decide_eq_false e, Bool.or_false]
      omega
theorem cnt_same {mk : Nat → Bool} {q : Nat} (h : mk q = true) : (fun i => mk i || decide (i = q)) = mk := by
  funext i
  by_cases e : i = q
  · subst e
    simp [h]
  · simp [e]

section
variable {Kx : Nat → Prop} {S : LSp} {m : LM} {W : World}
theorem LS.pushed {F : List Int} {rn qn : List Nat} {mk : Nat → Bool} (h : LS Kx S m F rn qn mk W) {l : List Int} {u : Int} {W' : World} (hl : Lm Kx S { m with marked := l } u W') (hma : l.length ≤ 2 * m.weaks.length) : LS Kx S { m with marked := l } F rn qn mk W' :=
  ⟨⟨u, hl⟩, h.ws.other rfl rfl ⟨rfl, rfl, rfl, rfl, rfl, rfl⟩ rfl rfl (fun o ho => ⟨o, ho, rfl, rfl, rfl, rfl⟩), fun n hn o ho he => h.mks n hn o ho he, h.dr, hma, h.sl⟩
set_option maxHeartbeats 16000000 in
set_option maxRecDepth 100000 in
theorem ls_mark {F : List Int} {rn qn : List Nat} {mk : Nat → Bool} (h : LS Kx S m F rn qn mk W) (h0 : 0 < m.weaks.length) (h1 : m.weaks.length < 100) (hc : m.marked.length ≤ cnt mk m.weaks.length) (n : Int) (hn1 : -9223372036854775808 ≤ n) (hn2 : n ≤ 9223372036854775807) :
    Calls Try.prog 11 #[.pointer (some ⟨S.wb, 0, none⟩), .int .i64 n] W fun e w' => e = .returned (.tuple #[]) ∧ ∃ m' mk', LS Kx S m' F rn qn mk' w' ∧ Kp Kx W w' ∧ m'.weaks = m.weaks ∧ m'.keys = m.keys ∧ m'.nx = m.nx ∧ m'.shaded = m.shaded ∧ (m.cy = true → m'.cy = true) ∧ m'.marked.length ≤ cnt mk' m'.weaks.length := by
  obtain ⟨i0, hi0, hz0, hzs, hzb⟩ := info_parts Try.info_intw
  obtain ⟨N, hN⟩ : ∃ N, m.weaks.length = N := ⟨_, rfl⟩
  have hqq : ∃ q : Nat, q < N ∧ ((n.tmod (N : Int) = (q : Int) ∧ ¬ (q : Int) < 0) ∨ (n.tmod (N : Int) = -(q : Int) ∧ -(q : Int) < 0)) := by
    have hNp : (0 : Int) < (N : Int) := by omega
    rcases Int.le_total 0 n with hp | hp
    · refine ⟨(n.tmod (N : Int)).toNat, ?_, Or.inl ⟨?_, by omega⟩⟩
      · have := Int.tmod_lt_of_pos n hNp
        have := Int.tmod_nonneg (N : Int) hp
        omega
      · have := Int.tmod_nonneg (N : Int) hp
        omega
    · have h2 := Int.tmod_nonneg (N : Int) (show 0 ≤ -n by omega)
      have h3 := Int.tmod_lt_of_pos (-n) hNp
      rw [Int.neg_tmod] at h2 h3
      by_cases hz : n.tmod (N : Int) = 0
      · exact ⟨0, by omega, Or.inl ⟨by rw [hz]; rfl, by decide⟩⟩
      · exact ⟨(-n.tmod (N : Int)).toNat, by omega, Or.inr ⟨by omega, by omega⟩⟩
  obtain ⟨q, hq, hqc⟩ := hqq
  have hdr : Below W.heap.size W W.drew := (Below.refl _ _).drew
  have hd := h.later hdr
  obtain ⟨u0, hu0⟩ := h.lm
  obtain ⟨a4, cap4, c4, -⟩ := hu0.weaksAt
  rw [hN] at c4
  obtain ⟨u1, hu1⟩ := hd.1.lm
  have d0 := hu1.c0
  obtain ⟨a3, cap3, d3, hke⟩ := hu1.keysAt
  have hlk : m.keys.length = N := by rw [h.ws.lk, hN]
  rw [hlk] at d3 hke
  obtain ⟨g3, rfl, d5⟩ := hke q hq
  have HS := Lib.hid (ls_shade hd.1 (n := q) (by omega))
  have HN := Lib.hid (And.intro hN (And.intro hc hd.2))
  have hNz : ¬ (N : Int) = 0 := by omega
  have hNz2 : (0 : Int) < (N : Int) := by omega
  have hqN : (q : Int) < (N : Int) := by omega
  have hw1 : IntKind.i64.wrap (q : Int) = (q : Int) := by rw [IntKind.wrap_i64]; omega
  have hw2 : IntKind.i64.wrap (- -(q : Int)) = (q : Int) := by rw [IntKind.wrap_i64]; omega
  generalize kl m q = key at *
  clear hu0 hu1 hd hdr hke hlk hc hN
  rcases hqc with ⟨hr, hlt⟩ | ⟨hr, hlt⟩
  all_goals
    go_enter Try.func11, Try.ntmps11
    go_upto_region 4 with fail
    cases hm : mk q
    · rw [hm] at HS
      simp only [Bool.not_false] at HS
      have HM := Lib.hid (cnt_one (n := N) hq hm)
      clear hm
      go_region_law (refine step_wanted rfl ?_; go_simp; go_at_call 27; refine HS.out.mono ?_; rintro e w5 ⟨rfl, m5, h5, k5, ew5, ek5, ex5, em5, ef5, es5, ec5⟩)
      all_goals
        have n5 : m5.weaks.length = N := by rw [ew5]; exact HN.out.1
        have HE := Lib.hid (And.intro h5 (And.intro (HN.out.2.2.trans k5) (And.intro ew5 (And.intro ek5 (And.intro ex5 (And.intro em5 (And.intro es5 ec5)))))))
        have HC := Lib.hid (And.intro n5 (show m5.marked.length + 1 ≤ cnt (fun i => mk i || decide (i = q)) N by rw [HM.out, em5, ← HN.out.1]; exact Nat.succ_le_succ HN.out.2.1))
        obtain ⟨u5, x, T, D, R, top, L, G, vk, vw, vm, vs, hx⟩ := h5.lm
        have hdr5 : Below w5.heap.size w5 w5.drew := (Below.refl _ _).drew
        have h6 := hx.later hdr5
        obtain ⟨b4, cap5, hvw, hcell⟩ := rw_at h6.1.ll.w
        rw [n5] at hvw hcell
        subst hvw
        obtain ⟨g4, rfl, d4⟩ := hcell q hq
        have p4 : w5.drew.cell? ⟨S.wb, 4, none⟩ = some (.slice (some ⟨g4, 0, none⟩) N cap5) := h6.1.ll.a1.w
        have p5 := h6.1.ll.a1.d
        generalize hp : (m5.weaks.getD q 0) = p at *
        have hx5 : Below w5.drew.heap.size w5.drew (w5.drew.alloc (.cells #[.int .i64 p] 3)) := (Below.refl _ _).alloc (Nat.le_refl _) _
        have ho : (w5.drew.alloc (.cells #[.int .i64 p] 3)).ownsRow 0 3 1 vm m5.marked.length (m5.marked.map (.int .i64)) := h6.1.ll.d.alloc _
        have k5' : (w5.alloc (.cells #[.int .i64 p] 3)).cell? ⟨S.wb, 5, none⟩ = some vm := later' ((Below.refl w5.heap.size w5).alloc (Nat.le_refl _) _) hx.ll.a1.d
        have H1 := Lib.hid (And.intro h6 (And.intro hx5 ho))
        have hlen : m5.marked.length < 1000 := by have := HC.out.2; have := HN.out.1; have := cnt_le (fun i => mk i || decide (i = q)) N; omega
        have hne : some S.wb ≠ vm.ownBlock := fun e => by
          have := hx.ll.gd _ e.symm
          have := hx.ll.g1
          omega
        clear h5 k5 ew5 ek5 ex5 em5 ef5 es5 ec5 n5 hx hdr5 h6 hcell hx5 ho HS HM d0 d3 d5 c4 hp
        go_upto_region 6 with fail
        go_region_law (refine step_append_lies _ rfl _ _ 22 rfl 0 3 i0 (.int .i64 0) 1 8 Try.underlying22 hi0 hz0 hzs hzb rfl (by decide) vm m5.marked.length (m5.marked.map (.int .i64)) rfl H1.out.2.2 ⟨w5.heap.size, 0, none⟩ 1 1 [.int .i64 p] rfl rfl (World.news_of_block (heap_alloc_new _ _)) (by intro u hu; simp at hu; subst hu; rfl) (by decide) (by unfold maxLen; omega) (by omega) (by simp) _ rfl ?_; intro g9 cap9 w9 o1 o2 o3 o4; have a1 := H1.out.1.1.wb_kept H1.out.2.1 o2 (fun g e => by have := H1.out.1.1.ll.gd g e; omega); have e6 := a1.1.d; have z6 := a1.1.fz 5)
        all_goals
          have hp := H1.out.1.1.push_marked H1.out.2.1 o1 o2 o3
          refine bodyPost_end (v := .tuple #[]) (by simp [results, Try.results11, go_sem]) rfl ?_
          exact ⟨rfl, _, _, HE.out.1.pushed hp.1 (by have := HC.out; have := cnt_le (fun i => mk i || decide (i = q)) N; rw [List.length_append, HC.out.1]; simp only [List.length_cons, List.length_nil]; omega), (HE.out.2.1.trans H1.out.1.2).trans hp.2, HE.out.2.2.1, HE.out.2.2.2.1, HE.out.2.2.2.2.1, HE.out.2.2.2.2.2.2.1, HE.out.2.2.2.2.2.2.2, by show (m5.marked ++ [p]).length ≤ cnt _ m5.weaks.length; rw [HC.out.1, List.length_append]; exact HC.out.2⟩
    · rw [hm] at HS
      simp only [Bool.not_true] at HS
      have HM := Lib.hid (cnt_same hm)
      clear hm
      go_region_law (refine step_wanted rfl ?_; go_simp; go_at_call 27; refine HS.out.mono ?_; rintro e w5 ⟨rfl, m5, h5, k5, ew5, ek5, ex5, em5, ef5, es5, ec5⟩)
      all_goals
        have HE := Lib.hid (And.intro h5 (And.intro (HN.out.2.2.trans k5) (And.intro ew5 (And.intro ek5 (And.intro ex5 (And.intro em5 (And.intro es5 ec5)))))))
        clear h5 k5 ew5 ek5 ex5 em5 ef5 es5 ec5 HS d0 d3 d5 c4
        go_wp2_with fail
        refine bodyPost_end (v := .tuple #[]) (by simp [results, Try.results11, go_sem]) rfl ?_
        exact ⟨rfl, m5, _, HE.out.1, HE.out.2.1, HE.out.2.2.1, HE.out.2.2.2.1, HE.out.2.2.2.2.1, HE.out.2.2.2.2.2.2.1, HE.out.2.2.2.2.2.2.2, by rw [HM.out, HE.out.2.2.2.2.2.1, HE.out.2.2.1]; exact HN.out.1.symm ▸ (HN.out.1 ▸ HN.out.2.1)⟩
end

end Go.Proofs.Ythliahaopelooaa
