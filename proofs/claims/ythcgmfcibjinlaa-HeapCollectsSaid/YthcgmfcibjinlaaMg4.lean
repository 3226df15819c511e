import Derived.Deep.DeepCutAuto
import Derived.Test.YthcgmfcibjinlaaChecked
import Derived.WalkKit
import Derived.BigQuiet
import Derived.Deep.QuietTactic
import Derived.Below
import Derived.Laws.StructEq
import Derived.Lib.QuietBelow
import Derived.Lib.Hide
import Derived.Test.YthcgmfcibjinlaaMg3
/- The ring's List. -/
namespace Go.Proofs.Ythcgmfcibjinlaa
open Go.RowKit Go.Shelf

attribute [local go_sem] Oper.semAt_some

set_option maxHeartbeats 1000000 in
theorem around_any (r : Nat) (w : World) :
    Calls Try.prog 51 #[.pointer (some ⟨r, 0, none⟩)] w fun e w' => e = .returned (.func (.func 80) #[] #[.pointer (some ⟨w.heap.size, 0, none⟩)]) ∧ w' = w.alloc (.cells #[.pointer (some ⟨r, 0, none⟩)] 25) := by
  have hmf := mkfunc2
  go_enter Try.func51, Try.ntmps51
  go_wp2_with fail
  go_ret
  exact ⟨rfl, rfl⟩

/-- What stands between two rounds of List's loop. -/
structure Mid (s : Spot) (C F D : Nat → Int) (w : World) (pre : List (Int × Int)) (W : World) : Prop where
  lies : Lies s C F D W
  box : W.cell? ⟨w.heap.size + 2, 0, none⟩ = some (.pointer (some ⟨s.r, 0, none⟩))
  seg : ∀ k, k < 4 → W.cell? ⟨w.heap.size, k, none⟩ = some (.slice none 0 0)
  sfz : ∀ k, W.frozen? ⟨w.heap.size, k, none⟩ = false
  turn : Turn s w W
  gath : ∃ (c M : Nat) (v : Nat → Value), c < 4 ∧ (c = 0 ∨ ∃ x, x ∈ pre ∧ x.1 = (c : Int)) ∧ w.heap.size + 3 ≤ M ∧ Gath (w.heap.size + 1) (w.heap.size + 1) c M v (fun k => pick k pre) W

theorem Mid.same {s : Spot} {C F D : Nat → Int} {w W W' : World} {pre : List (Int × Int)} (h : Mid s C F D w pre W) (hL : Lies s C F D W') (ht : Turn s w W') (hs : W.heap.size ≤ W'.heap.size)
    (hk : ∀ b o, w.heap.size ≤ b → W.heap[b]? = some o → o.isCells = true → W'.heap[b]? = some o) : Mid s C F D w pre W' := by
  have c : ∀ (b j : Nat) (x : Value), w.heap.size ≤ b → W.cell? ⟨b, j, none⟩ = some x → W'.heap[b]? = W.heap[b]? := fun b j x hb hx => by
    obtain ⟨o, ho, hoc⟩ := cells_of_cell hx
    exact (hk b o hb ho hoc).trans ho.symm
  refine ⟨hL, (World.cell?_of_block (w := W) (c _ _ _ (by simp only; omega) h.box)).trans h.box, fun k hk' => (World.cell?_of_block (w := W) (c _ _ _ (Nat.le_refl _) (h.seg k hk'))).trans (h.seg k hk'), fun k => (World.frozen?_of_block (w := W) (c _ _ _ (Nat.le_refl _) (h.seg 0 (by decide)))).trans (h.sfz k), ht, ?_⟩
  obtain ⟨d, M, v, h1, h2, h3, h4⟩ := h.gath
  exact ⟨d, M, v, h1, h2, h3, h4.same hs fun b o hb => hk b o (by omega)⟩

/-- What List leaves. -/
def Listed (s : Spot) (C F D : Nat → Int) (R : Rows) (w : World) (e : Ending) (w' : World) : Prop :=
  ∃ v0 v1 v2 v3, e = .returned (.agg #[v0, v1, v2, v3]) ∧ Row w' w.heap.size w'.heap.size v0 R.white ∧ Row w' w.heap.size w'.heap.size v1 R.frm ∧ Row w' w.heap.size w'.heap.size v2 R.grey ∧ Row w' w.heap.size w'.heap.size v3 R.black ∧ Lies s C F D w' ∧ Turn s w w'

set_option maxRecDepth 100000 in
set_option maxHeartbeats 8000000 in
theorem list_lies (s : Spot) (C F D : Nat → Int) (R : Rows) (w : World) (hL : Lies s C F D w) (hI : Inv s.n D C F R) :
    Calls Try.prog 14 #[.pointer (some ⟨s.r, 0, none⟩)] w (Listed s C F D R w) := by
  obtain ⟨i0, hi, hz0, hz1, hz2⟩ := info_parts Try.info_int
  have HL := Lib.hid hL
  have HI := Lib.hid hI
  have hun := hL.under
  clear hL hI
  refine (callsIn_wide (n := 4)).1 ?_
  refine callsIn_of_wp_marks Try.func14 rfl trivial ?_ rfl
  simp only [Try.ntmps14, List.size_toArray, List.length_cons, List.length_nil, Nat.reduceAdd, Nat.reduceSub, Array.replicate_succ, Array.replicate_zero, List.push_toArray, List.append_toArray, List.nil_append, List.cons_append]
  gi_wp2_with fail
  refine ⟨trivial, ?_⟩
  refine (callsIn_wide.2 (around_any s.r _)).mono ?_
  rintro e w' ⟨rfl, rfl⟩
  gi_wp2_with fail
  have hsz : (((w.alloc (.cells #[.slice none 0 0, .slice none 0 0, .slice none 0 0, .slice none 0 0] 40)).alloc (.cells #[.slice none 0 0, .slice none 0 0, .slice none 0 0, .slice none 0 0] 89)).alloc (.cells #[.pointer (some ⟨s.r, 0, none⟩)] 25)).heap.size = w.heap.size + 3 := by simp
  have hb0 : Below w.heap.size w (((w.alloc (.cells #[.slice none 0 0, .slice none 0 0, .slice none 0 0, .slice none 0 0] 40)).alloc (.cells #[.slice none 0 0, .slice none 0 0, .slice none 0 0, .slice none 0 0] 89)).alloc (.cells #[.pointer (some ⟨s.r, 0, none⟩)] 25)) := (((Below.refl _ _).alloc (Nat.le_refl _) _).alloc (by simp) _).alloc (by simp; omega) _
  have hm0 : Mid s C F D w [] (((w.alloc (.cells #[.slice none 0 0, .slice none 0 0, .slice none 0 0, .slice none 0 0] 40)).alloc (.cells #[.slice none 0 0, .slice none 0 0, .slice none 0 0, .slice none 0 0] 89)).alloc (.cells #[.pointer (some ⟨s.r, 0, none⟩)] 25)) := by
    refine ⟨HL.out.later hb0, by simp [go_sem], fun k hk => ?_, fun k => by simp [go_sem], Turn.of_below hb0, 0, w.heap.size + 3, fun _ => .slice none 0 0, by decide, Or.inl rfl, Nat.le_refl _, ⟨fun k hk => ?_, fun k => by simp [go_sem], fun k hk => absurd hk (Nat.not_lt_zero _), World.ownsRow_nil _ _ _ _, fun k _ => ⟨rfl, rfl⟩, Nat.le_refl _, by omega, by simp⟩⟩
    · obtain rfl | rfl | rfl | rfl : k = 0 ∨ k = 1 ∨ k = 2 ∨ k = 3 := by omega
      all_goals simp [go_sem]
    · obtain rfl | rfl | rfl | rfl : k = 0 ∨ k = 1 ∨ k = 2 ∨ k = 3 := by omega
      all_goals simp [go_sem]
  have HM0 := Lib.hid hm0
  clear hb0 hm0
  generalize (((w.alloc (.cells #[.slice none 0 0, .slice none 0 0, .slice none 0 0, .slice none 0 0] 40)).alloc (.cells #[.slice none 0 0, .slice none 0 0, .slice none 0 0, .slice none 0 0] 89)).alloc (.cells #[.pointer (some ⟨s.r, 0, none⟩)] 25)) = w0 at hsz HM0 ⊢
  obtain ⟨u1, u2, u3, u4, u5, u6, u7⟩ := hun
  refine range_by (gf := 80) (lb := #[.pointer (some ⟨w.heap.size + 1 + 1, 0, none⟩)]) rfl (enters_of Try.func80 (by kernel_rfl) rfl) (fun x : Int × Int => #[.int .i64 x.1, .int .i64 x.2]) (fun _ => rfl) R.pairs (Mid s C F D w) ?hput ?h0
    (fun x => { tmps := #[.pointer (some ⟨s.r, 0, none⟩), undef, .pointer (some ⟨w.heap.size, 0, none⟩), .pointer (some ⟨w.heap.size + 1, 0, none⟩), .int .i64 x.1, .int .i64 x.2, .pointer (some ⟨s.r, 0, none⟩), .func (.func 80) #[] #[.pointer (some ⟨w.heap.size + 1 + 1, 0, none⟩)], .int .i64 x.1, .int .i64 x.2, undef, undef, undef, undef, undef, undef, undef, undef, undef, undef, undef, undef, undef, undef, undef, undef, undef], defers := [] }) ?assign ?body ?iter ?done
  case hput =>
    intro pre W l o o' hm hl ho hoc
    have hk : ∀ b, b ≠ l → (W.putObj l o').heap[b]? = W.heap[b]? := fun b hb => World.putObj_heap_other hb
    have hs : W.heap.size ≤ (W.putObj l o').heap.size := by simp
    refine hm.same (hm.lies.same hs fun b e => hk b ?_) (hm.turn.then ⟨rfl, rfl, rfl, hs, fun b hb => hk b (by omega)⟩) hs fun b x hb hx hxc => (hk b ?_).trans hx
    · rcases e with rfl | rfl | rfl | rfl | rfl | rfl | rfl <;> omega
    · rintro rfl
      rw [ho] at hx
      cases hx
      rw [hoc] at hxc
      cases hxc
  case h0 =>
    intro o o'
    have hb := ((Below.refl w0.heap.size w0).alloc (Nat.le_refl _) o).alloc (by simp) o'
    exact HM0.out.same (HM0.out.lies.later hb) (HM0.out.turn.trans (Turn.of_below hb)) hb.size fun b x _ hx _ => (hb.block b (Array.getElem?_eq_some_iff.1 hx).1).trans hx
  case assign =>
    intro l x W K hK
    gi_wp2
    exact hK
  case body =>
    intro l pre x W hm hp
    obtain ⟨c, M, v, hc4, hcx, hM, hG⟩ := hm.gath
    obtain ⟨k, hk, hxk⟩ := pairs_colour R (hp.subset (by simp : x ∈ pre ++ [x]))
    have hrise := List.pairwise_append.1 ((pairs_rise R).sublist hp.sublist)
    have hck : c ≤ k := by
      rcases hcx with rfl | ⟨y, hy, hyc⟩
      · omega
      · have := hrise.2.2 y hy x (by simp)
        omega
    obtain ⟨M', hMM, hG'⟩ := hG.to hck
    have hlen : (pick k pre).length + 1 ≤ 1000 := by
      have h1 := hp.length_le
      have h2 := congrArg List.length (pairs_snd R)
      have h3 := HI.out.small
      have h4 : (pick k pre).length ≤ pre.length := by
        unfold pick
        simpa using List.length_filter_le _ _
      simp at h1 h2
      omega
    obtain ⟨y1, y⟩ := x
    simp only at hxk
    subst hxk
    have ck := hG'.cell k hk
    have hk' : (k : Int) < 4 := by omega
    have HG := Lib.hid hG'
    have HM := Lib.hid hm
    have HN := Lib.hid (And.intro hM hMM)
    clear hG hG' hm hp hrise hcx hck hM hMM
    gi_wp2_with (gi_at_builtin; refine wpListIn_append_own _ rfl _ _ 37 rfl M' 3 i0 (.int .i64 0) 1 8 Try.underlying37 hi hz0 hz1 hz2 rfl (by decide) _ _ _ rfl (HG.out.cur.alloc _) ⟨W.heap.size, 0, none⟩ 1 1 [.int .i64 y] rfl rfl (cell_one_new _ _ _) (by simp [Value.oneCell']) (by unfold maxLen; omega) (by omega) (by have := HG.out.MW; simp; omega) ?_; intro v' w1 hown' hgrow _; obtain ⟨g', cap', rfl⟩ := ownsRow_succ hown'; obtain ⟨p1, p2, p3, p4, p5, p6⟩ := HG.out.put hk hown' hgrow; have hc1 := p4 k hk; have hf1 := p5 k)
    have hM' := HN.out
    have hq : ∀ j (v : Value), ∀ b, b = w.heap.size ∨ b = w.heap.size + 2 → W.cell? ⟨b, j, none⟩ = some v → (w1.setCell ⟨w.heap.size + 1, k, none⟩ (Value.slice (some ⟨g', 0, none⟩) ((pick k pre).length + 1) cap')).cell? ⟨b, j, none⟩ = some v := fun j v b hb hx => (World.cell?_of_block (w := W) (p6 b (by omega) (by omega))).trans hx
    have he : (fun j => pick j (pre ++ [((k : Int), y)])) = fun j => if j = k then pick j pre ++ [y] else pick j pre := by
      funext j
      by_cases e : j = k
      · subst e
        rw [if_pos rfl]
        exact pick_hit rfl
      · rw [if_neg e]
        exact pick_miss (by simp only; omega)
    rw [← he] at p1
    refine ⟨p2, HM.out.lies.same p2.size fun b e => p6 b (by omega) (by omega), hq _ _ _ (Or.inr rfl) HM.out.box, fun j hj => hq _ _ _ (Or.inl rfl) (HM.out.seg j hj), fun j => (World.frozen?_of_block (w := W) (p6 w.heap.size (by omega) (by omega))).trans (HM.out.sfz j), HM.out.turn.then (p3.mono (by omega)), k, M', (fun j => if j = k then Value.slice (some ⟨g', 0, none⟩) ((pick k pre).length + 1) cap' else v j), hk, Or.inr ⟨((k : Int), y), by simp, rfl⟩, by omega, p1⟩
  case iter =>
    intro r W1 hY h0 hB
    refine (around_each 3 (by decide) (w0.heap.size + 1) (w.heap.size + 2) s C F D R HI.out (fun pre W => Mid s C F D w pre W ∧ Book w0.heap.size r W) (fun pre W h => ⟨h.1.lies, h.1.box⟩) ?_ ?_ W1 ⟨h0, hB⟩).mono ?_
    · rintro pre W W' ⟨hm, hb⟩ hl ht
      have hlt := hb.lt
      refine ⟨hm.same hl (hm.turn.trans ht) ht.size fun b o hbb ho _ => (ht.block b (Array.getElem?_eq_some_iff.1 ho).1 (by omega) (by omega) (by omega)).trans ho, hb.kept (ht.block _ (by omega) (by omega) (by omega) (by omega)) (ht.block _ (by omega) (by omega) (by omega) (by omega))⟩
    · rintro pre x W ⟨hm, hb⟩ hp
      obtain ⟨fn, tmps, assign, body, h1, h2⟩ := hY pre x W hm hb hp
      exact ⟨fn, tmps, assign, body, h1, h2⟩
    · rintro e W' ⟨h1, h2, h3⟩
      exact ⟨h1, h2, h3⟩
  case done =>
    intro D' W hD hm hK
    obtain ⟨c, M, v, hc4, hcx, hM, hG⟩ := hm.gath
    have c0 : W.cell? ⟨w.heap.size + 1, 0, none⟩ = some (v 0) := hG.cell 0 (by decide)
    have c1 : W.cell? ⟨w.heap.size + 1, 1, none⟩ = some (v 1) := hG.cell 1 (by decide)
    have c2 : W.cell? ⟨w.heap.size + 1, 2, none⟩ = some (v 2) := hG.cell 2 (by decide)
    have c3 : W.cell? ⟨w.heap.size + 1, 3, none⟩ = some (v 3) := hG.cell 3 (by decide)
    have s0 : W.cell? ⟨w.heap.size, 0, none⟩ = some (.slice none 0 0) := hm.seg 0 (by decide)
    have s1 : W.cell? ⟨w.heap.size, 1, none⟩ = some (.slice none 0 0) := hm.seg 1 (by decide)
    have s2 : W.cell? ⟨w.heap.size, 2, none⟩ = some (.slice none 0 0) := hm.seg 2 (by decide)
    have s3 : W.cell? ⟨w.heap.size, 3, none⟩ = some (.slice none 0 0) := hm.seg 3 (by decide)
    have z0 := hm.sfz 0
    have z1 := hm.sfz 1
    have z2 := hm.sfz 2
    have z3 := hm.sfz 3
    obtain ⟨a0, p0, e0, h0⟩ := hG.all 0
    obtain ⟨a1, p1, e1, h1⟩ := hG.all 1
    obtain ⟨a2, p2, e2, h2⟩ := hG.all 2
    obtain ⟨a3, p3, e3, h3⟩ := hG.all 3
    rw [e0] at c0
    rw [e1] at c1
    rw [e2] at c2
    rw [e3] at c3
    have HG := Lib.hid hG
    have HM := Lib.hid hm
    clear hG hm h0 h1 h2 h3
    gi_wp2
    obtain ⟨W4, hW4⟩ : ∃ W4, (((W.setCell ⟨w.heap.size, 0, none⟩ (Value.slice a0 (pick 0 R.pairs).length ((pick 0 R.pairs).length + p0))).setCell ⟨w.heap.size, 1, none⟩ (Value.slice a1 (pick 1 R.pairs).length ((pick 1 R.pairs).length + p1))).setCell ⟨w.heap.size, 2, none⟩ (Value.slice a2 (pick 2 R.pairs).length ((pick 2 R.pairs).length + p2))).setCell ⟨w.heap.size, 3, none⟩ (Value.slice a3 (pick 3 R.pairs).length ((pick 3 R.pairs).length + p3)) = W4 := ⟨_, rfl⟩
    rw [hW4]
    have k4 : ∀ b, b ≠ w.heap.size → W4.heap[b]? = W.heap[b]? := fun b hb => by
      rw [← hW4]
      exact (Below.heap_setCell _ _ _ _ hb).trans ((Below.heap_setCell _ _ _ _ hb).trans ((Below.heap_setCell _ _ _ _ hb).trans (Below.heap_setCell _ _ _ _ hb)))
    have d0 : W4.cell? ⟨w.heap.size, 0, none⟩ = some (Value.slice a0 (pick 0 R.pairs).length ((pick 0 R.pairs).length + p0)) := by
      rw [← hW4]
      exact (World.cell?_setCell_other _ _ _ _ (by simp)).trans ((World.cell?_setCell_other _ _ _ _ (by simp)).trans ((World.cell?_setCell_other _ _ _ _ (by simp)).trans (World.cell?_setCell_same _ _ _ s0)))
    have d1 : W4.cell? ⟨w.heap.size, 1, none⟩ = some (Value.slice a1 (pick 1 R.pairs).length ((pick 1 R.pairs).length + p1)) := by
      rw [← hW4]
      exact (World.cell?_setCell_other _ _ _ _ (by simp)).trans ((World.cell?_setCell_other _ _ _ _ (by simp)).trans (World.cell?_setCell_same _ _ _ ((World.cell?_setCell_other _ _ _ _ (by simp)).trans s1)))
    have d2 : W4.cell? ⟨w.heap.size, 2, none⟩ = some (Value.slice a2 (pick 2 R.pairs).length ((pick 2 R.pairs).length + p2)) := by
      rw [← hW4]
      exact (World.cell?_setCell_other _ _ _ _ (by simp)).trans (World.cell?_setCell_same _ _ _ ((World.cell?_setCell_other _ _ _ _ (by simp)).trans ((World.cell?_setCell_other _ _ _ _ (by simp)).trans s2)))
    have d3 : W4.cell? ⟨w.heap.size, 3, none⟩ = some (Value.slice a3 (pick 3 R.pairs).length ((pick 3 R.pairs).length + p3)) := by
      rw [← hW4]
      exact World.cell?_setCell_same _ _ _ ((World.cell?_setCell_other _ _ _ _ (by simp)).trans ((World.cell?_setCell_other _ _ _ _ (by simp)).trans ((World.cell?_setCell_other _ _ _ _ (by simp)).trans s3)))
    have z4 : W.heap.size = W4.heap.size ∧ W4.os = W.os ∧ W4.tape = W.tape ∧ W4.output = W.output := by
      rw [← hW4]
      exact ⟨by simp [World.setCell], rfl, rfl, rfl⟩
    have hK' : W4.heap[D']? = some (.deferred (some [])) := (k4 D' (by omega)).trans hK
    refine ⟨by simp, .inl ⟨_, _, rfl, run_takeDeferred hK', ?_⟩⟩
    have k5 : ∀ b, b ≠ w.heap.size → b ≠ D' → (W4.putObj D' (.deferred none)).heap[b]? = W.heap[b]? := fun b h1 h2 => (World.putObj_heap_other h2).trans (k4 b h1)
    have q : ∀ j (x : Value), W4.cell? ⟨w.heap.size, j, none⟩ = some x → (W4.putObj D' (.deferred none)).cell? ⟨w.heap.size, j, none⟩ = some x := fun j x hx => (World.cell?_of_block (w := W4) (World.putObj_heap_other (by simp only; omega))).trans hx
    have s5 : W.heap.size ≤ (W4.putObj D' (.deferred none)).heap.size := by simp; omega
    have r : ∀ k, k < 4 → Row (W4.putObj D' (.deferred none)) w.heap.size (W4.putObj D' (.deferred none)).heap.size (v k) (R.row k) := fun k hk => by
      rw [← pick_pairs R k hk]
      refine ((HG.out.all k).same fun b o h1 _ h3 h4 => (k5 b (by omega) ?_).trans h3).mono (by omega) s5
      rintro rfl
      rw [hK] at h3
      cases h3
      cases h4
    have r0 := r 0 (by decide)
    have r1 := r 1 (by decide)
    have r2 := r 2 (by decide)
    have r3 := r 3 (by decide)
    rw [e0] at r0
    rw [e1] at r1
    rw [e2] at r2
    rw [e3] at r3
    refine ⟨.agg #[Value.slice a0 (pick 0 R.pairs).length ((pick 0 R.pairs).length + p0), Value.slice a1 (pick 1 R.pairs).length ((pick 1 R.pairs).length + p1), Value.slice a2 (pick 2 R.pairs).length ((pick 2 R.pairs).length + p2), Value.slice a3 (pick 3 R.pairs).length ((pick 3 R.pairs).length + p3)], ?_, _, _, _, _, rfl, r0, r1, r2, r3, ?_, ?_⟩
    · simp [results, Try.results14, go_sem, q _ _ d0, q _ _ d1, q _ _ d2, q _ _ d3]
    · exact HM.out.lies.same s5 fun b e => k5 b (by omega) (by omega)
    · have ht := HM.out.turn
      exact ⟨by show W4.os = _; rw [z4.2.1]; exact ht.os, by show W4.tape = _; rw [z4.2.2.1]; exact ht.tape, by show W4.output = _; rw [z4.2.2.2]; exact ht.output, by have := ht.size; omega, fun b h0 h1 h2 h3 => (k5 b (by omega) (by omega)).trans (ht.block b h0 h1 h2 h3)⟩

end Go.Proofs.Ythcgmfcibjinlaa

/- The ring's calls, with its arena's words told. (Written by gen/genRdB.py out of RiF.) -/
namespace Go.Proofs.Ythcgmfcibjinlaa
open Go.RowKit

theorem ringd_grow (s : Spot) (R : Rows) (w : World) (D : Nat → Int) (hR : RingD s R D w) (c : Int) (hf : Fit s.n (c :: R.all)) (hl : R.all.length < 1000) :
    Calls Try.prog 35 #[.pointer (some ⟨s.r, 0, none⟩), .int .i64 c] w fun e w' => e = .returned (.int .i64 0) ∧ (∃ D', RingD s (R.grow c) D' w' ∧ SameBut (R.grow c) D D') ∧ Turn s w w' := by
  obtain ⟨C, F, hL, hI⟩ := hR
  have hc : Rng s.n c := hf.rng c (by simp)
  have hn := hL.nb
  unfold Rng at hc
  have g' : decide (c < 1) = false := decide_eq_false (by omega)
  obtain ⟨u, hA⟩ := hL.words
  have ca := hL.arena
  have hw : IntKind.i64.wrap ((s.n : Int) - 3) = (s.n : Int) - 3 := by rw [IntKind.wrap_i64]; omega
  have g3 : decide ((s.n : Int) - 3 < c) = false := decide_eq_false (by omega)
  have hx := rng_head hI.cyc (hf.tail)
  rw [← hI.start0] at hx
  have h1 := start_0 s C F D w hL
  have h2 := insert_any s C F D w hL c (start0 C F) hc hx
  have h3 : ∀ w, Lies s C F (inserted D c (start0 C F)) w → _ := fun w h => enterFirst_0 s C F _ w h c hI.b0.1 hI.b0.2
  have h4 : ∀ w, Lies s (upd C 0 (C 0 + 1)) (upd F 0 c) (inserted D c (start0 C F)) w → ∃ D', RingD s (R.grow c) D' w ∧ SameBut (R.grow c) D D' := fun w h => ⟨_, ⟨_, _, h, hI.grow hf hl⟩, by rw [hI.start0]; exact same_inserted hI.cyc hf (fun x hx => hx)⟩
  have HA := Lib.hid hA
  have H1 := Lib.hid h1
  have H2 := Lib.hid h2
  have H3 := Lib.hid h3
  have H4 := Lib.hid h4
  generalize start0 C F = x at H1 H2 H3 H4
  clear hL hI hA hc hf hl hx h1 h2 h3 h4
  go_enter Try.func35, Try.ntmps35
  go_wp2_with fail
  refine (len_any s.p s.d s.n D u w HA.out).mono ?_
  rintro e w2 ⟨rfl, rfl⟩
  clear HA
  go_wp2_with fail
  refine H1.out.mono ?_
  rintro e w3 ⟨rfl, rfl⟩
  clear H1
  go_wp2_with fail
  refine H2.out.mono ?_
  rintro e w4 ⟨rfl, hL4, hq4⟩
  have HL4 := Lib.hid hL4
  have HQ4 := Lib.hid hq4
  clear H2 hL4 hq4 ca
  go_wp2_with fail
  refine (H3.out _ HL4.out).mono ?_
  rintro e w5 ⟨rfl, hL5, hq5⟩
  have HE := Lib.hid (And.intro (H4.out _ hL5) (HQ4.out.trans hq5))
  clear H3 hL5 hq5 HL4 HQ4
  go_wp2_with fail
  go_ret
  exact ⟨rfl, HE.out⟩

theorem ringd_alloc (s : Spot) (R : Rows) (w : World) (D : Nat → Int) (hR : RingD s R D w) (c : Int) (l : List Int) (hW : R.white = c :: l) :
    Calls Try.prog 36 #[.pointer (some ⟨s.r, 0, none⟩)] w fun e w' => e = .returned (.tuple #[.int .i64 c, .int .i64 0]) ∧ (∃ D', RingD s R.alloc D' w' ∧ D' = D) ∧ Turn s w w' := by
  obtain ⟨C, F, hL, hI⟩ := hR
  have hc : Rng s.n c := hI.rng (by simp [Rows.all, hW])
  have e0 : C 0 = l.length + 1 := by rw [hI.c0, hW]; simp
  have g0 : (C 0 == 0) = false := by simp; omega
  have ef : F 0 = c := hI.f0 c l hW
  have c0 : w.cell? ⟨s.r, 5, none⟩ = some (.int .i64 (C 0)) := hL.count 0 (by decide)
  have f0 : w.cell? ⟨s.r, 9, none⟩ = some (.int .i64 (F 0)) := hL.first 0 (by decide)
  rw [ef] at f0
  have h1 := leave_0 s C F D w hL c hc hI.b0.1 hI.b0.2
  have h2 : ∀ w, Lies s (upd C 0 (C 0 - 1)) (leftF D F c 0) D w → _ := fun w h => enterLast_3 s _ _ D w h c (show 0 ≤ C 3 from hI.b3.1) (show C 3 ≤ 1000 from hI.b3.2)
  have h3 : ∀ w, Lies s (upd (upd C 0 (C 0 - 1)) 3 (upd C 0 (C 0 - 1) 3 + 1)) (lastF (upd C 0 (C 0 - 1)) (leftF D F c 0) c 3) D w → ∃ D', RingD s R.alloc D' w ∧ D' = D := fun w h => ⟨_, ⟨_, _, h, hI.alloc hW⟩, rfl⟩
  have H1 := Lib.hid h1
  have H2 := Lib.hid h2
  have H3 := Lib.hid h3
  generalize C 0 = x at c0 g0 H1 H2 H3
  clear hL hI hc hW ef h1 h2 h3 e0
  go_enter Try.func36, Try.ntmps36
  go_wp2_with fail
  refine H1.out.mono ?_
  rintro e w4 ⟨rfl, hL4, hq4⟩
  have HL4 := Lib.hid hL4
  have HQ4 := Lib.hid hq4
  clear H1 hL4 hq4 c0 f0
  go_wp2_with fail
  refine (H2.out _ HL4.out).mono ?_
  rintro e w5 ⟨rfl, hL5, hq5⟩
  have HE := Lib.hid (And.intro (H3.out _ hL5) (HQ4.out.trans hq5))
  clear H3 hL5 hq5 HL4 HQ4
  go_wp2_with fail
  go_ret2
  exact ⟨rfl, HE.out⟩

theorem ringd_drop (s : Spot) (R : Rows) (w : World) (D : Nat → Int) (hR : RingD s R D w) (c : Int) (l : List Int) (hW : R.white = c :: l) :
    Calls Try.prog 47 #[.pointer (some ⟨s.r, 0, none⟩)] w fun e w' => e = .returned (.tuple #[.int .i64 c, .int .i64 0]) ∧ (∃ D', RingD s R.drop D' w' ∧ SameBut R D D') ∧ Turn s w w' := by
  obtain ⟨C, F, hL, hI⟩ := hR
  have hc : Rng s.n c := hI.rng (by simp [Rows.all, hW])
  have e0 : C 0 = l.length + 1 := by rw [hI.c0, hW]; simp
  have g0 : (C 0 == 0) = false := by simp; omega
  have ef : F 0 = c := hI.f0 c l hW
  have c0 : w.cell? ⟨s.r, 5, none⟩ = some (.int .i64 (C 0)) := hL.count 0 (by decide)
  have f0 : w.cell? ⟨s.r, 9, none⟩ = some (.int .i64 (F 0)) := hL.first 0 (by decide)
  rw [ef] at f0
  have ea : R.all = c :: (l ++ (R.frm ++ (R.grey ++ R.black))) := by simp [Rows.all, hW]
  have hr := rng_around (D := D) (by rw [← ea]; exact hI.cyc) (by rw [← ea]; exact hI.fit)
  have hsame : SameBut R D (removed D c) := same_removed (by rw [← ea]; exact hI.cyc) (by rw [← ea]; exact hI.fit) (fun x hx => by rw [ea]; exact hx)
  have h1 := leave_0 s C F D w hL c hc hI.b0.1 hI.b0.2
  have h2 : ∀ w, Lies s (upd C 0 (C 0 - 1)) (leftF D F c 0) D w → _ := fun w h => remove_any s _ _ D w h c hc hr.1 hr.2
  have h3 : ∀ w, Lies s (upd C 0 (C 0 - 1)) (leftF D F c 0) (removed D c) w → ∃ D', RingD s R.drop D' w ∧ SameBut R D D' := fun w h => ⟨_, ⟨_, _, h, hI.drop hW⟩, hsame⟩
  have H1 := Lib.hid h1
  have H2 := Lib.hid h2
  have H3 := Lib.hid h3
  generalize C 0 = x at c0 g0 H1 H2 H3
  clear hL hI hc hW ef h1 h2 h3 e0 ea hr hsame
  go_enter Try.func47, Try.ntmps47
  go_wp2_with fail
  refine H1.out.mono ?_
  rintro e w4 ⟨rfl, hL4, hq4⟩
  have HL4 := Lib.hid hL4
  have HQ4 := Lib.hid hq4
  clear H1 hL4 hq4 c0 f0
  go_wp2_with fail
  refine (H2.out _ HL4.out).mono ?_
  rintro e w5 ⟨rfl, hL5, hq5⟩
  have HE := Lib.hid (And.intro (H3.out _ hL5) (HQ4.out.trans hq5))
  clear H3 hL5 hq5 HL4 HQ4
  go_wp2_with fail
  go_ret2
  exact ⟨rfl, HE.out⟩

theorem ringd_shade (s : Spot) (R : Rows) (w : World) (D : Nat → Int) (hR : RingD s R D w) (c : Int) (hW : c ∈ R.frm) :
    Calls Try.prog 42 #[.pointer (some ⟨s.r, 0, none⟩), .int .i64 c] w fun e w' => e = .returned (.int .i64 0) ∧ (∃ D', RingD s (R.shade c) D' w' ∧ SameBut R D D') ∧ Turn s w w' := by
  obtain ⟨C, F, hL, hI⟩ := hR
  obtain ⟨l, m, _, hf, he⟩ := List.exists_erase_eq hW
  obtain ⟨hI2, hfit, hlen⟩ := hI.out hf
  have hs : R.shade c = { ({ R with frm := l ++ m } : Rows) with grey := R.grey ++ [c] } := by simp [Rows.shade, he]
  have hI3 := hI2.in hfit hlen
  have hc : Rng s.n c := hfit.rng c (by simp)
  have e0 : C 1 = l.length + m.length + 1 := by rw [hI.c1, hf]; simp; omega
  have g0 : (C 1 == 0) = false := by simp; omega
  have c0 : w.cell? ⟨s.r, 6, none⟩ = some (.int .i64 (C 1)) := hL.count 1 (by decide)
  have hcy : Cyc D (c :: (m ++ (R.grey ++ R.black) ++ (R.white ++ l))) := by
    have e : R.all = (R.white ++ l) ++ (c :: (m ++ (R.grey ++ R.black))) := by simp [Rows.all, hf]
    have := cyc_rot (D := D) (a := R.white ++ l) (b := c :: (m ++ (R.grey ++ R.black))) (by rw [← e]; exact hI.cyc)
    simpa using this
  have hfit2 : Fit s.n (c :: (m ++ (R.grey ++ R.black) ++ (R.white ++ l))) := by
    refine hfit.perm (List.Perm.cons c ?_)
    have e : (Rows.all { R with frm := l ++ m }) = (R.white ++ l) ++ (m ++ (R.grey ++ R.black)) := by simp [Rows.all]
    rw [e]
    exact List.perm_append_comm
  have hr := rng_around hcy hfit2
  have hx : start3 (upd C 1 (C 1 - 1)) (leftF D F c 1) = 0 ∨ (Rng s.n (start3 (upd C 1 (C 1 - 1)) (leftF D F c 1)) ∧ Rng s.n (removed D c (start3 (upd C 1 (C 1 - 1)) (leftF D F c 1) + 2).toNat)) := by
    rw [hI2.start3]
    have e : (Rows.all { R with frm := l ++ m }) = (R.white ++ (l ++ m ++ R.grey)) ++ R.black := by simp [Rows.all]
    refine rng_head (cyc_rot (by rw [← e]; exact hI2.cyc)) ((hI2.fit).perm ?_)
    rw [e]
    exact List.perm_append_comm
  have hsame : SameBut R D (inserted (removed D c) c (start3 (upd C 1 (C 1 - 1)) (leftF D F c 1))) := by
    have hin : ∀ x, x ∈ c :: (m ++ (R.grey ++ R.black) ++ (R.white ++ l)) → x ∈ R.all := fun x hx => by
      unfold Rows.all
      rw [hf]
      simp only [List.mem_cons, List.mem_append] at hx ⊢
      rcases hx with h | (h | h | h) | h | h <;> simp [h]
    refine (same_removed hcy hfit2 hin).trans ?_
    rw [hI2.start3]
    have e : (Rows.all { R with frm := l ++ m }) = (R.white ++ (l ++ m ++ R.grey)) ++ R.black := by simp [Rows.all]
    refine same_inserted (n := s.n) (cyc_rot (by rw [← e]; exact hI2.cyc)) (hfit.perm (List.Perm.cons c (by rw [e]; exact List.perm_append_comm))) (fun x hx => ?_)
    refine hin x ?_
    simp only [List.mem_cons, List.mem_append] at hx ⊢
    rcases hx with h | h | h | (h | h) | h <;> simp [h]
  have h1 := leave_1 s C F D w hL c hc hI.b1.1 hI.b1.2
  have h2 : ∀ w, Lies s (upd C 1 (C 1 - 1)) (leftF D F c 1) D w → _ := fun w h => remove_any s _ _ D w h c hc hr.1 hr.2
  have h3 : ∀ w, Lies s (upd C 1 (C 1 - 1)) (leftF D F c 1) (removed D c) w → _ := fun w h => start_3 s _ _ _ w h
  have h4 : ∀ w, Lies s (upd C 1 (C 1 - 1)) (leftF D F c 1) (removed D c) w → _ := fun w h => insert_any s _ _ _ w h c _ hc hx
  have h5 : ∀ w, Lies s (upd C 1 (C 1 - 1)) (leftF D F c 1) (inserted (removed D c) c (start3 (upd C 1 (C 1 - 1)) (leftF D F c 1))) w → _ := fun w h => enterLast_2 s _ _ _ w h c hI2.b2.1 hI2.b2.2
  have h6 : ∀ w, Lies s (upd (upd C 1 (C 1 - 1)) 2 (upd C 1 (C 1 - 1) 2 + 1)) (lastF (upd C 1 (C 1 - 1)) (leftF D F c 1) c 2) (inserted (removed D c) c (start3 (upd C 1 (C 1 - 1)) (leftF D F c 1))) w → ∃ D', RingD s (R.shade c) D' w ∧ SameBut R D D' := fun w h => ⟨_, ⟨_, _, h, by rw [hs]; exact hI3⟩, hsame⟩
  have H1 := Lib.hid h1
  have H2 := Lib.hid h2
  have H3 := Lib.hid h3
  have H4 := Lib.hid h4
  have H5 := Lib.hid h5
  have H6 := Lib.hid h6
  generalize upd C 1 (C 1 - 1) = C' at H1 H2 H3 H4 H5 H6
  generalize leftF D F c 1 = F' at H1 H2 H3 H4 H5 H6
  generalize start3 C' F' = x at H3 H4 H5 H6
  generalize C 1 = c1 at c0 g0
  clear hL hI hc hW hf he hI2 hfit hlen hs hI3 e0 hcy hfit2 hr hx h1 h2 h3 h4 h5 h6 hsame
  go_enter Try.func42, Try.ntmps42
  go_wp2_with fail
  refine H1.out.mono ?_
  rintro e w2 ⟨rfl, hL2, hq2⟩
  have HL2 := Lib.hid hL2
  have HQ2 := Lib.hid hq2
  clear H1 hL2 hq2 c0
  go_wp2_with fail
  refine (H2.out _ HL2.out).mono ?_
  rintro e w3 ⟨rfl, hL3, hq3⟩
  have HL3 := Lib.hid hL3
  have HQ3 := Lib.hid (HQ2.out.trans hq3)
  clear H2 hL3 hq3 HL2 HQ2
  go_wp2_with fail
  refine (H3.out _ HL3.out).mono ?_
  rintro e w4 ⟨rfl, rfl⟩
  clear H3
  go_wp2_with fail
  refine (H4.out _ HL3.out).mono ?_
  rintro e w5 ⟨rfl, hL5, hq5⟩
  have HL5 := Lib.hid hL5
  have HQ5 := Lib.hid (HQ3.out.trans hq5)
  clear H4 hL5 hq5 HL3 HQ3
  go_wp2_with fail
  refine (H5.out _ HL5.out).mono ?_
  rintro e w6 ⟨rfl, hL6, hq6⟩
  have HE := Lib.hid (And.intro (H6.out _ hL6) (HQ5.out.trans hq6))
  clear H5 H6 hL6 hq6 HL5 HQ5
  go_wp2_with fail
  go_ret
  exact ⟨rfl, HE.out⟩

theorem ringd_done (s : Spot) (R : Rows) (w : World) (D : Nat → Int) (hR : RingD s R D w) (c : Int) (l : List Int) (hW : R.grey = l ++ [c]) :
    Calls Try.prog 45 #[.pointer (some ⟨s.r, 0, none⟩)] w fun e w' => e = .returned (.int .i64 0) ∧ (∃ D', RingD s R.done D' w' ∧ D' = D) ∧ Turn s w w' := by
  obtain ⟨C, F, hL, hI⟩ := hR
  have b2 := hI.b2
  have h1 := lies_next s C F D R w hL hI c l hW
  have hw : IntKind.i64.wrap (C 2 - 1) = C 2 - 1 := by rw [IntKind.wrap_i64]; omega
  have h2 : ∀ w, Lies s (upd C 2 (C 2 - 1)) F D w → _ := fun w h => enterFirst_3 s _ F D w h c (show 0 ≤ C 3 from hI.b3.1) (show C 3 ≤ 1000 from hI.b3.2)
  have h3 : ∀ w, Lies s (upd (upd C 2 (C 2 - 1)) 3 (upd C 2 (C 2 - 1) 3 + 1)) (upd F 3 c) D w → ∃ D', RingD s R.done D' w ∧ D' = D := fun w h => ⟨_, ⟨_, _, h, hI.done hW⟩, rfl⟩
  have H1 := Lib.hid h1
  have H2 := Lib.hid h2
  have H3 := Lib.hid h3
  clear hL hI hW h1 h2 h3 b2
  go_enter Try.func45, Try.ntmps45
  go_wp2_with fail
  refine H1.out.mono ?_
  rintro e w2 ⟨rfl, hL2, hq2⟩
  have c0 : w2.cell? ⟨s.r, 7, none⟩ = some (.int .i64 (C 2)) := hL2.count 2 (by decide)
  have z0 := hL2.fz 7
  have H4 := Lib.hid (And.intro (hL2.setCount 2 (C 2 - 1) (by decide)).drew ((hq2.trans (Turn.setR s 7 (.int .i64 (C 2 - 1)) w2)).then (c := (w2.setCell ⟨s.r, 7, none⟩ (.int .i64 (C 2 - 1))).drew) (Below.refl _ _).drew))
  generalize upd C 2 (C 2 - 1) = C' at H2 H3 H4
  clear hL2 hq2 H1
  go_wp2_with fail
  go_region
  go_wp2_with fail
  refine (H2.out _ H4.out.1).mono ?_
  rintro e w5 ⟨rfl, hL5, hq5⟩
  have HE := Lib.hid (And.intro (H3.out _ hL5) (H4.out.2.trans hq5))
  clear H2 H3 hL5 hq5 H4 c0 z0
  go_wp2_with fail
  go_ret
  exact ⟨rfl, HE.out⟩

theorem ringd_begin (s : Spot) (R : Rows) (w : World) (D : Nat → Int) (hR : RingD s R D w) (g1 : R.frm = []) (g2 : R.grey = []) :
    Calls Try.prog 37 #[.pointer (some ⟨s.r, 0, none⟩)] w fun e w' => e = .returned (.int .i64 0) ∧ (∃ D', RingD s R.begin D' w' ∧ D' = D) ∧ Turn s w w' := by
  obtain ⟨C, F, hL, hI⟩ := hR
  have e1 : C 1 = 0 := by rw [hI.c1, g1]; rfl
  have e2 : C 2 = 0 := by rw [hI.c2, g2]; rfl
  have c1 : w.cell? ⟨s.r, 6, none⟩ = some (.int .i64 (C 1)) := hL.count 1 (by decide)
  have c2 : w.cell? ⟨s.r, 7, none⟩ = some (.int .i64 (C 2)) := hL.count 2 (by decide)
  rw [e1] at c1
  rw [e2] at c2
  have h1 := recolour_31 s C F D w hL hI.b3.1 hI.b3.2 hI.b1.1 hI.b1.2
  have h3 : ∀ w, Lies s (upd (upd C 1 (C 1 + C 3)) 3 0) (lastF C F (F 3) 1) D w → ∃ D', RingD s R.begin D' w ∧ D' = D := fun w h => ⟨_, ⟨_, _, h, by rw [show lastF C F (F 3) 1 = upd F 1 (F 3) from if_pos e1]; exact hI.begin g1 g2⟩, rfl⟩
  have H1 := Lib.hid h1
  have H3 := Lib.hid h3
  clear hL hI g1 g2 e1 e2 h1 h3
  go_enter Try.func37, Try.ntmps37
  go_wp2_with fail
  refine H1.out.mono ?_
  rintro e w2 ⟨rfl, hL2, hq2⟩
  have HE := Lib.hid (And.intro (H3.out _ hL2) hq2)
  clear H1 H3 hL2 hq2 c1 c2
  go_wp2_with fail
  go_ret
  exact ⟨rfl, HE.out⟩

theorem ringd_end (s : Spot) (R : Rows) (w : World) (D : Nat → Int) (hR : RingD s R D w) (g2 : R.grey = []) :
    Calls Try.prog 46 #[.pointer (some ⟨s.r, 0, none⟩)] w fun e w' => e = .returned (.int .i64 0) ∧ (∃ D', RingD s R.fin D' w' ∧ D' = D) ∧ Turn s w w' := by
  obtain ⟨C, F, hL, hI⟩ := hR
  have e2 : C 2 = 0 := by rw [hI.c2, g2]; rfl
  have c2 : w.cell? ⟨s.r, 7, none⟩ = some (.int .i64 (C 2)) := hL.count 2 (by decide)
  rw [e2] at c2
  have h1 := recolour_10 s C F D w hL hI.b1.1 hI.b1.2 hI.b0.1 hI.b0.2
  have h3 : ∀ w, Lies s (upd (upd C 0 (C 0 + C 1)) 1 0) (lastF C F (F 1) 0) D w → ∃ D', RingD s R.fin D' w ∧ D' = D := fun w h => ⟨_, ⟨_, _, h, hI.fin g2⟩, rfl⟩
  have H1 := Lib.hid h1
  have H3 := Lib.hid h3
  clear hL hI g2 e2 h1 h3
  go_enter Try.func46, Try.ntmps46
  go_wp2_with fail
  refine H1.out.mono ?_
  rintro e w2 ⟨rfl, hL2, hq2⟩
  have HE := Lib.hid (And.intro (H3.out _ hL2) hq2)
  clear H1 H3 hL2 hq2 c2
  go_wp2_with fail
  go_ret
  exact ⟨rfl, HE.out⟩

theorem ringd_next (s : Spot) (R : Rows) (w : World) (D : Nat → Int) (hR : RingD s R D w) (c : Int) (l : List Int) (hW : R.grey = l ++ [c]) :
    Calls Try.prog 44 #[.pointer (some ⟨s.r, 0, none⟩)] w fun e w' => e = .returned (.tuple #[.int .i64 c, .bool true]) ∧ RingD s R D w' ∧ Turn s w w' := by
  obtain ⟨C, F, hL, hI⟩ := hR
  refine (lies_next s C F D R w hL hI c l hW).mono ?_
  rintro e w' ⟨rfl, h1, h2⟩
  exact ⟨rfl, ⟨C, F, h1, hI⟩, h2⟩

theorem ringd_list (s : Spot) (R : Rows) (w : World) (D : Nat → Int) (hR : RingD s R D w) :
    Calls Try.prog 14 #[.pointer (some ⟨s.r, 0, none⟩)] w fun e w' => ∃ v0 v1 v2 v3, e = .returned (.agg #[v0, v1, v2, v3]) ∧ Row w' w.heap.size w'.heap.size v0 R.white ∧ Row w' w.heap.size w'.heap.size v1 R.frm ∧ Row w' w.heap.size w'.heap.size v2 R.grey ∧ Row w' w.heap.size w'.heap.size v3 R.black ∧ RingD s R D w' ∧ Turn s w w' := by
  obtain ⟨C, F, hL, hI⟩ := hR
  refine (list_lies s C F D R w hL hI).mono ?_
  rintro e w' ⟨v0, v1, v2, v3, h1, h2, h3, h4, h5, h6, h7⟩
  exact ⟨v0, v1, v2, v3, h1, h2, h3, h4, h5, ⟨C, F, h6, hI⟩, h7⟩

end Go.Proofs.Ythcgmfcibjinlaa

/- Which configurations a heap can be made of: the program's question, and the document's. -/
namespace Go.Proofs.Ythcgmfcibjinlaa
open Go.RowKit

/-- A row of sizes as it came in. -/
def Sizes (w : World) (a0 : Option Addr) (len : Nat) (v : Nat → Int) : Prop :=
  0 < len → ∃ b off, a0 = some ⟨b, off, none⟩ ∧ b < w.heap.size ∧ ∀ k, k < len → w.cell? ⟨b, off + k, none⟩ = some (.int .i64 (v k))
theorem Sizes.below {w w' : World} {a0 : Option Addr} {len : Nat} {v : Nat → Int} (h : Sizes w a0 len v) (hb : Below w.heap.size w w') : Sizes w' a0 len v := fun h0 => by
  obtain ⟨b, off, e, hl, hc⟩ := h h0
  exact ⟨b, off, e, Nat.lt_of_lt_of_le hl hb.size, fun k hk => (hb.cell (p := ⟨b, off + k, none⟩) hl).trans (hc k hk)⟩

def prev (v : Nat → Int) (k : Nat) : Int := if k = 0 then 0 else v (k - 1)
/-- The first k sizes rise, from 1 to 24. -/
def Rise (v : Nat → Int) (k : Nat) : Prop := ∀ i, i < k → prev v i < v i ∧ v i ≤ 24
theorem Rise.succ {v : Nat → Int} {k : Nat} (h : Rise v k) (hk : prev v k < v k ∧ v k ≤ 24) : Rise v (k + 1) := fun i hi => by
  by_cases e : i = k
  · rw [e]; exact hk
  · exact h i (by omega)
theorem Rise.pos {v : Nat → Int} {k : Nat} (h : Rise v k) : ∀ i, i < k → 1 ≤ v i ∧ v i ≤ 24 := by
  intro i
  induction i with
  | zero => intro hi; have := h 0 hi; simp only [prev, if_true] at this; omega
  | succ i ih => intro hi; have h1 := ih (by omega); have h2 := h (i + 1) hi; simp only [prev, Nat.add_sub_cancel, Nat.succ_ne_zero, if_false] at h2; omega
theorem prev_succ (v : Nat → Int) (k : Nat) : prev v (k + 1) = v k := by simp [prev]

set_option maxHeartbeats 1000000 in
set_option maxRecDepth 100000 in
theorem rising_in (a0 : Option Addr) (len cap : Nat) (v : Nat → Int) (w : World) (hs : Sizes w a0 len v) (h1 : 1 ≤ len) (h6 : len ≤ 6) (hr : Rise v len) :
    Calls Try.prog 52 #[.slice a0 len cap] w fun e w' => e = .returned (.bool true) ∧ w' = w := by
  obtain ⟨b, off, rfl, hl, hc⟩ := hs h1
  have HC := Lib.hid hc
  have HR := Lib.hid hr
  have g1 : decide (1 ≤ (len : Int)) = true := decide_eq_true (by omega)
  have g6 : decide ((len : Int) ≤ 6) = true := decide_eq_true (by omega)
  clear hc hr hs
  go_enter Try.func52, Try.ntmps52
  go_wp2_with fail
  go_loopw [3, 8] (fun s3 s8 wr => ∃ k : Nat, k ≤ len ∧ s8 = .int .i64 k ∧ s3 = .int .i64 (prev v k) ∧ wr = w) (fun _ s8 _ => len - (intOf s8).toNat)
  case atStart => exact ⟨0, Nat.zero_le _, rfl, rfl, rfl⟩
  case round =>
    obtain ⟨k, hk, rfl, rfl, rfl⟩ := hrel
    by_cases hlt : k < len
    · have hlt' : (k : Int) < (len : Int) := by omega
      have c := HC.out k hlt
      obtain ⟨r1, r2⟩ := HR.out k hlt
      have e1 : decide (v k ≤ prev v k) = false := decide_eq_false (by omega)
      have e2 : decide (24 < v k) = false := decide_eq_false (by omega)
      have HP := Lib.hid (prev_succ v k)
      generalize prev v k = pk at *
      generalize v k = vk at *
      go_wp2_with fail
      go_roundw
      case rel => exact ⟨k + 1, by omega, by go_num, by rw [HP.out], by first | rfl | trivial⟩
      case measure => simp [intOf]; omega
    · obtain rfl : k = len := by omega
      go_wp2_with fail
      go_ret
      exact ⟨rfl, rfl⟩

/-- A configuration that a heap can be made of. -/
structure RightP (words large : Int) (len : Nat) (v : Nat → Int) : Prop where
  w1 : 1 ≤ words
  w2 : words ≤ 65536
  l1 : 0 ≤ large
  l2 : large < words
  k1 : 1 ≤ len
  k2 : len ≤ 6
  rise : Rise v len

def RightTold (words large : Int) (len : Nat) (v : Nat → Int) (w : World) (e : Ending) (w' : World) : Prop := ∃ r, e = .returned (.bool r) ∧ (r = true → RightP words large len v) ∧ Below w.heap.size w w'
set_option maxHeartbeats 4000000 in
set_option maxRecDepth 100000 in
theorem right_any (words large x2 x3 x4 x5 : Int) (a0 : Option Addr) (len cap : Nat) (v : Nat → Int) (w : World) (hs : Sizes w a0 len v) :
    Calls Try.prog 16 #[.agg #[.int .i64 words, .int .i64 large, .int .i64 x2, .int .i64 x3, .int .i64 x4, .int .i64 x5, .slice a0 len cap]] w (RightTold words large len v w) := by
  have hb : Below w.heap.size w (w.alloc (.cells #[.int .i64 words, .int .i64 large, .int .i64 x2, .int .i64 x3, .int .i64 x4, .int .i64 x5, .slice a0 len cap] 44)) := (Below.refl _ _).alloc (Nat.le_refl _) _
  have c0 : (w.alloc (.cells #[.int .i64 words, .int .i64 large, .int .i64 x2, .int .i64 x3, .int .i64 x4, .int .i64 x5, .slice a0 len cap] 44)).cell? ⟨w.heap.size, 0, none⟩ = some (.int .i64 words) := by simp [go_sem]
  have c1 : (w.alloc (.cells #[.int .i64 words, .int .i64 large, .int .i64 x2, .int .i64 x3, .int .i64 x4, .int .i64 x5, .slice a0 len cap] 44)).cell? ⟨w.heap.size, 1, none⟩ = some (.int .i64 large) := by simp [go_sem]
  have c6 : (w.alloc (.cells #[.int .i64 words, .int .i64 large, .int .i64 x2, .int .i64 x3, .int .i64 x4, .int .i64 x5, .slice a0 len cap] 44)).cell? ⟨w.heap.size, 6, none⟩ = some (.slice a0 len cap) := by simp [go_sem]
  have HS := Lib.hid (hs.below hb)
  have HB := Lib.hid hb
  clear hs hb
  go_enter Try.func16, Try.ntmps16
  go_upto_region 1 with fail
  generalize (w.alloc (.cells #[.int .i64 words, .int .i64 large, .int .i64 x2, .int .i64 x3, .int .i64 x4, .int .i64 x5, .slice a0 len cap] 44)) = W at *
  by_cases g1 : words < 1
  · have e1 : decide (words < 1) = true := decide_eq_true g1
    go_wp2_with fail
    go_ret
    exact ⟨_, rfl, fun h => by (cases h), HB.out⟩
  have e1 : decide (words < 1) = false := decide_eq_false g1
  by_cases g2 : 65536 < words
  · have e2 : decide (65536 < words) = true := decide_eq_true g2
    go_wp2_with fail
    go_ret
    exact ⟨_, rfl, fun h => by (cases h), HB.out⟩
  have e2 : decide (65536 < words) = false := decide_eq_false g2
  by_cases g3 : large < 0
  · have e3 : decide (large < 0) = true := decide_eq_true g3
    go_wp2_with fail
    go_ret
    exact ⟨_, rfl, fun h => by (cases h), HB.out⟩
  have e3 : decide (large < 0) = false := decide_eq_false g3
  by_cases g4 : words ≤ large
  · have e4 : decide (words ≤ large) = true := decide_eq_true g4
    go_wp2_with fail
    go_ret
    exact ⟨_, rfl, fun h => by (cases h), HB.out⟩
  have e4 : decide (words ≤ large) = false := decide_eq_false g4
  by_cases g5 : (len : Int) < 1
  · have e5 : decide ((len : Int) < 1) = true := decide_eq_true g5
    go_wp2_with fail
    go_ret
    exact ⟨_, rfl, fun h => by (cases h), HB.out⟩
  have e5 : decide ((len : Int) < 1) = false := decide_eq_false g5
  by_cases g6 : 6 < (len : Int)
  · have e6 : decide (6 < (len : Int)) = true := decide_eq_true g6
    go_wp2_with fail
    go_ret
    exact ⟨_, rfl, fun h => by (cases h), HB.out⟩
  have e6 : decide (6 < (len : Int)) = false := decide_eq_false g6
  have HG := Lib.hid (show 1 ≤ words ∧ words ≤ 65536 ∧ 0 ≤ large ∧ large < words ∧ 1 ≤ len ∧ len ≤ 6 by omega)
  obtain ⟨b, off, rfl, hl, hc⟩ := HS.out (by omega)
  have HC := Lib.hid hc
  clear hc HS
  have hbW := HB.out
  have hlW : b < W.heap.size := by
    have := HB.out.size
    exact World.block_lt_of_cell? _ _ (HC.out 0 (by omega))
  go_wp2_with fail
  clear e1 e2 e3 e4 e5 e6 g1 g2 g3 g4 c0 c1 hl
  go_loopw [3] (fun s3 wr => ∃ k : Nat, k ≤ len ∧ s3 = .int .i64 k ∧ Rise v k ∧ Below W.heap.size W wr) (fun s3 _ => len - (intOf s3).toNat)
  case atStart => exact ⟨0, Nat.zero_le _, rfl, fun i hi => absurd hi (Nat.not_lt_zero _), Below.refl _ _⟩
  case round =>
    obtain ⟨k, hk, rfl, hr, hbr⟩ := hrel
    have c6' := later' hbr c6
    have hdr : Below W.heap.size W wr.drew := hbr.drew
    have HBD := Lib.hid (And.intro hdr (And.intro (onB' HB.out hdr) (onB' HB.out hbr)))
    have hcl : ∀ i, i < len → wr.cell? ⟨b, off + i, none⟩ = some (.int .i64 (v i)) := fun i hi => later' hbr (HC.out i hi)
    have HCL := Lib.hid hcl
    have HR := Lib.hid hr
    clear hr hbr hdr hcl
    by_cases hlt : k < len
    · have hlt' : (k : Int) < (len : Int) := by omega
      have c := HCL.out k hlt
      by_cases q1 : v k < 1
      · have e1 : decide (v k < 1) = true := decide_eq_true q1
        go_wp2_with fail
        go_region
        go_wp2_with fail
        go_ret
        exact ⟨_, rfl, fun h => by (cases h), HBD.out.2.1⟩
      have e1 : decide (v k < 1) = false := decide_eq_false q1
      by_cases q2 : 24 < v k
      · have e2 : decide (24 < v k) = true := decide_eq_true q2
        go_wp2_with fail
        go_region
        go_wp2_with fail
        go_ret
        exact ⟨_, rfl, fun h => by (cases h), HBD.out.2.1⟩
      have e2 : decide (24 < v k) = false := decide_eq_false q2
      cases k with
      | zero =>
        rw [Nat.add_zero] at c
        go_wp2_with fail
        go_region
        go_wp2_with fail
        go_roundw
        case rel => exact ⟨1, by omega, by go_num, HR.out.succ ⟨by simp only [prev, if_true]; omega, by omega⟩, HBD.out.1⟩
        case measure => simp [intOf]; omega
      | succ j =>
        have c' := HCL.out j (by omega)
        have hp := prev_succ v j
        have ej : ((j + 1 : Nat) : Int) - 1 = (j : Int) := by omega
        have ew : IntKind.i64.wrap ((j + 1 : Nat) : Int) = ((j + 1 : Nat) : Int) := by rw [IntKind.wrap_i64]; omega
        have ew2 : IntKind.i64.wrap (((j + 1 : Nat) : Int) - 1) = (j : Int) := by rw [ej, IntKind.wrap_i64]; omega
        by_cases q3 : v (j + 1) ≤ v j
        · have e3 : decide (v (j + 1) ≤ v j) = true := decide_eq_true q3
          go_wp2_with fail
          go_region
          go_wp2_with fail
          go_ret
          exact ⟨_, rfl, fun h => by (cases h), HBD.out.2.1⟩
        have e3 : decide (v (j + 1) ≤ v j) = false := decide_eq_false q3
        go_wp2_with fail
        go_region
        go_wp2_with fail
        go_roundw
        case rel => exact ⟨j + 2, by omega, by go_num, HR.out.succ ⟨by rw [hp]; omega, by omega⟩, HBD.out.1⟩
        case measure => simp [intOf]; omega
    · obtain rfl : k = len := by omega
      go_wp2_with fail
      go_ret
      exact ⟨_, rfl, fun _ => ⟨HG.out.1, HG.out.2.1, HG.out.2.2.1, HG.out.2.2.2.1, HG.out.2.2.2.2.1, HG.out.2.2.2.2.2, HR.out⟩, HBD.out.2.2⟩

end Go.Proofs.Ythcgmfcibjinlaa

/- The small questions that two runs of places are asked: each is read, nothing that was there turns. -/
namespace Go.Proofs.Ythcgmfcibjinlaa.Ex
open Go.RowKit Go.Sort

theorem later {W W' : World} {a : Addr} {v : Value} (hb : Below W.heap.size W W') (h : W.cell? a = some v) : W'.cell? a = some v :=
  (hb.cell (World.block_lt_of_cell? _ _ h)).trans h
theorem on {B : Nat} {w W W' : World} (h : Below B w W) (hb : Below W.heap.size W W') (hB : B ≤ W.heap.size) : Below B w W' := h.trans (hb.mono hB)
theorem onB {w W W' : World} (h : Below w.heap.size w W) (hb : Below W.heap.size W W') : Below w.heap.size w W' := h.trans (hb.mono h.size)

theorem eqIn_pair' (d : Nat) (t : TypeId) (ht : Try.prog.underlying t = some (.array 2 3)) (a n b m : Int) (w : World) :
    (Op.equalIn (d + 2) t (.agg #[.int .i64 a, .int .i64 n]) (.agg #[.int .i64 b, .int .i64 m])).run Try.prog w = .ok (a == b && n == m) w := by
  have q : ∀ (x y : Int) (w : World), (Op.equalIn (d + 1) 3 (.int .i64 x) (.int .i64 y)).run Try.prog w = .ok (x == y) w := fun x y w => run_equalIn_int w d 3 .i64 .i64 x y Try.underlying3
  rw [Op.equalIn]
  generalize hE : Op.equalIn (d + 1) 3 = E at *
  simp only [Sem.run_bind, run_underlying ht, Result.andThen_ok, Try.sizeOf3, hE]
  have p0 : ∀ (x y : Int) (w : World), (part 3 #[.int .i64 x, .int .i64 y] 0).run Try.prog w = .ok (.int .i64 x) w := by intro x y w; simp [part, Try.isAgg3, go_sem]
  have p1 : ∀ (x y : Int) (w : World), (part 3 #[.int .i64 x, .int .i64 y] 1).run Try.prog w = .ok (.int .i64 y) w := by intro x y w; simp [part, Try.isAgg3, go_sem]
  simp only [Std.Legacy.Range.forIn_eq_forIn_range', Std.Legacy.Range.size, List.range'_succ]
  by_cases h1 : a = b <;> by_cases h2 : n = m <;> simp [h1, h2, p0, p1, q, List.range']
theorem eqIn_pair (t : TypeId) (ht : Try.prog.underlying t = some (.array 2 3)) (a n b m : Int) (w : World) :
    (Op.equalIn 10000 t (.agg #[.int .i64 a, .int .i64 n]) (.agg #[.int .i64 b, .int .i64 m])).run Try.prog w = .ok (a == b && n == m) w := eqIn_pair' 9998 t ht a n b m w

set_option maxHeartbeats 1000000 in
set_option maxRecDepth 100000 in
/-- end. -/
theorem end_any (a n : Int) (w : World) (h0 : -9223372036854775808 ≤ a + n) (h1 : a + n ≤ 9223372036854775807) :
    Calls Try.prog 107 #[.agg #[.int .i64 a, .int .i64 n]] w fun e w' => e = .returned (.int .i64 (a + n)) ∧ Below w.heap.size w w' := by
  have hw : wrap64 (a + n) = a + n := by unfold wrap64; omega
  go_enter Try.func107, Try.ntmps107
  go_wp2
  go_ret
  refine ⟨by simp_all, (Below.refl _ w).alloc (Nat.le_refl _) _⟩

set_option maxHeartbeats 1000000 in
set_option maxRecDepth 100000 in
/-- isAheadOf. -/
theorem ahead_any (a n b m : Int) (w : World) :
    Calls Try.prog 108 #[.agg #[.int .i64 a, .int .i64 n], .agg #[.int .i64 b, .int .i64 m]] w fun e w' => e = .returned (.bool (decide (a < b))) ∧ Below w.heap.size w w' := by
  go_enter Try.func108, Try.ntmps108
  go_wp2
  go_ret
  exact ⟨by simp_all, ((Below.refl _ w).alloc (Nat.le_refl _) _).alloc (by simp) _⟩

theorem end_regrown (a n : Int) (W : World) (d : Nat) (os : Array Obj) (h0 : -9223372036854775808 ≤ a + n) (h1 : a + n ≤ 9223372036854775807) :
    Calls Try.prog 107 #[.agg #[.int .i64 a, .int .i64 n]] (grow (redrawn W d) os) fun e w'' => e = .returned (.int .i64 (a + n)) ∧ ∃ p : Regrown, w'' = grow (redrawn W p.d) p.os :=
  Calls.regrown_of (end_any a n _ h0 h1)

set_option maxHeartbeats 1000000 in
set_option maxRecDepth 100000 in
/-- touches: whether the second one begins where the first one ends. -/
theorem touches_any (a n b m : Int) (w : World) (h0 : -9223372036854775808 ≤ a + n) (h1 : a + n ≤ 9223372036854775807) :
    Calls Try.prog 111 #[.agg #[.int .i64 a, .int .i64 n], .agg #[.int .i64 b, .int .i64 m]] w fun e w' => e = .returned (.bool (decide (b = a + n))) ∧ Below w.heap.size w w' := by
  have hB := ((Below.refl w.heap.size w).alloc (Nat.le_refl _) (.cells #[.int .i64 a, .int .i64 n] 145)).alloc (by simp) (.cells #[.int .i64 b, .int .i64 m] 145)
  have hc0 : ((w.alloc (.cells #[.int .i64 a, .int .i64 n] 145)).alloc (.cells #[.int .i64 b, .int .i64 m] 145)).cell? ⟨w.heap.size, 0, none⟩ = some (.int .i64 a) := by simp [go_sem]
  have hc1 : ((w.alloc (.cells #[.int .i64 a, .int .i64 n] 145)).alloc (.cells #[.int .i64 b, .int .i64 m] 145)).cell? ⟨w.heap.size, 1, none⟩ = some (.int .i64 n) := by simp [go_sem]
  have hc2 : ((w.alloc (.cells #[.int .i64 a, .int .i64 n] 145)).alloc (.cells #[.int .i64 b, .int .i64 m] 145)).cell? ⟨w.heap.size + 1, 0, none⟩ = some (.int .i64 b) := by simp [go_sem]
  have hc3 : ((w.alloc (.cells #[.int .i64 a, .int .i64 n] 145)).alloc (.cells #[.int .i64 b, .int .i64 m] 145)).cell? ⟨w.heap.size + 1, 1, none⟩ = some (.int .i64 m) := by simp [go_sem]
  go_enter Try.func111, Try.ntmps111
  go_wp2_with fail
  generalize hW : ((w.alloc (.cells #[.int .i64 a, .int .i64 n] 145)).alloc (.cells #[.int .i64 b, .int .i64 m] 145)) = W at hB hc0 hc1 hc2 hc3 ⊢
  clear hW
  have k0 := cell_regrown hc0
  have k1 := cell_regrown hc1
  have k2 := cell_regrown hc2
  have k3 := cell_regrown hc3
  have he : ∀ W : World, (Op.equalIn 10000 145 (.agg #[.int .i64 b, .int .i64 m]) (.agg #[.int .i64 (a + n), .int .i64 m])).run Try.prog W = .ok (decide (b = a + n)) W := fun W => by
    rw [eqIn_pair _ Try.underlying145]
    by_cases h : b = a + n <;> simp [h]
  refine wp_region_quiet_below (by kernel_rfl) (by kernel_rfl) ?_
  repeat (first | go_big_quiet_skip | (quiet_step (exact end_regrown _ _ _ _ _ (by assumption) (by assumption))))
  refine wpQuiet_nil ?_
  intro _ hw'
  obtain ⟨⟨dq, osq⟩, hw''⟩ := hw'
  subst hw''
  have hE := onB hB (below_regrown W dq osq)
  clear k0 k1 k2 k3 hB
  go_wp2
  go_ret
  exact ⟨by simp, hE⟩

set_option maxHeartbeats 1000000 in
set_option maxRecDepth 100000 in
/-- meets: some place is in both. -/
theorem meets_any (a n b m : Int) (w : World) (h0 : -9223372036854775808 ≤ a + n) (h1 : a + n ≤ 9223372036854775807) (h2 : -9223372036854775808 ≤ b + m) (h3 : b + m ≤ 9223372036854775807) :
    Calls Try.prog 94 #[.agg #[.int .i64 a, .int .i64 n], .agg #[.int .i64 b, .int .i64 m]] w fun e w' => e = .returned (.bool (decide (a < b + m) && decide (b < a + n))) ∧ Below w.heap.size w w' := by
  by_cases g : a < b + m
  · have g' : decide (a < b + m) = true := by simpa using g
    have hB := ((Below.refl w.heap.size w).alloc (Nat.le_refl _) (.cells #[.int .i64 a, .int .i64 n] 145)).alloc (by simp) (.cells #[.int .i64 b, .int .i64 m] 145)
    have hc0 : ((w.alloc (.cells #[.int .i64 a, .int .i64 n] 145)).alloc (.cells #[.int .i64 b, .int .i64 m] 145)).cell? ⟨w.heap.size, 0, none⟩ = some (.int .i64 a) := by simp [go_sem]
    have hc1 : ((w.alloc (.cells #[.int .i64 a, .int .i64 n] 145)).alloc (.cells #[.int .i64 b, .int .i64 m] 145)).cell? ⟨w.heap.size, 1, none⟩ = some (.int .i64 n) := by simp [go_sem]
    have hc2 : ((w.alloc (.cells #[.int .i64 a, .int .i64 n] 145)).alloc (.cells #[.int .i64 b, .int .i64 m] 145)).cell? ⟨w.heap.size + 1, 0, none⟩ = some (.int .i64 b) := by simp [go_sem]
    have hc3 : ((w.alloc (.cells #[.int .i64 a, .int .i64 n] 145)).alloc (.cells #[.int .i64 b, .int .i64 m] 145)).cell? ⟨w.heap.size + 1, 1, none⟩ = some (.int .i64 m) := by simp [go_sem]
    go_enter Try.func94, Try.ntmps94
    go_wp2_with fail
    generalize hW : ((w.alloc (.cells #[.int .i64 a, .int .i64 n] 145)).alloc (.cells #[.int .i64 b, .int .i64 m] 145)) = W at hB hc0 hc1 hc2 hc3 ⊢
    clear hW
    have k0 := cell_regrown hc0
    have k1 := cell_regrown hc1
    have k2 := cell_regrown hc2
    have k3 := cell_regrown hc3
    refine wp_region_quiet_below (by kernel_rfl) (by kernel_rfl) ?_
    repeat (first | go_big_quiet_skip | (quiet_step (exact end_regrown _ _ _ _ _ (by assumption) (by assumption))))
    refine wpQuiet_nil ?_
    intro _ hw'
    obtain ⟨⟨dq, osq⟩, hw''⟩ := hw'
    subst hw''
    have hE := onB hB (below_regrown W dq osq)
    clear k0 k1 k2 k3 hB
    go_wp2
    go_ret
    exact ⟨by simp [g], hE⟩
  · have g' : decide (a < b + m) = false := by simpa using g
    have hB := ((Below.refl w.heap.size w).alloc (Nat.le_refl _) (.cells #[.int .i64 a, .int .i64 n] 145)).alloc (by simp) (.cells #[.int .i64 b, .int .i64 m] 145)
    have hc0 : ((w.alloc (.cells #[.int .i64 a, .int .i64 n] 145)).alloc (.cells #[.int .i64 b, .int .i64 m] 145)).cell? ⟨w.heap.size, 0, none⟩ = some (.int .i64 a) := by simp [go_sem]
    have hc1 : ((w.alloc (.cells #[.int .i64 a, .int .i64 n] 145)).alloc (.cells #[.int .i64 b, .int .i64 m] 145)).cell? ⟨w.heap.size, 1, none⟩ = some (.int .i64 n) := by simp [go_sem]
    have hc2 : ((w.alloc (.cells #[.int .i64 a, .int .i64 n] 145)).alloc (.cells #[.int .i64 b, .int .i64 m] 145)).cell? ⟨w.heap.size + 1, 0, none⟩ = some (.int .i64 b) := by simp [go_sem]
    have hc3 : ((w.alloc (.cells #[.int .i64 a, .int .i64 n] 145)).alloc (.cells #[.int .i64 b, .int .i64 m] 145)).cell? ⟨w.heap.size + 1, 1, none⟩ = some (.int .i64 m) := by simp [go_sem]
    go_enter Try.func94, Try.ntmps94
    go_wp2_with fail
    generalize hW : ((w.alloc (.cells #[.int .i64 a, .int .i64 n] 145)).alloc (.cells #[.int .i64 b, .int .i64 m] 145)) = W at hB hc0 hc1 hc2 hc3 ⊢
    clear hW
    have k0 := cell_regrown hc0
    have k1 := cell_regrown hc1
    have k2 := cell_regrown hc2
    have k3 := cell_regrown hc3
    refine wp_region_quiet_below (by kernel_rfl) (by kernel_rfl) ?_
    repeat (first | go_big_quiet_skip | (quiet_step (exact end_regrown _ _ _ _ _ (by assumption) (by assumption))))
    refine wpQuiet_nil ?_
    intro _ hw'
    obtain ⟨⟨dq, osq⟩, hw''⟩ := hw'
    subst hw''
    have hE := onB hB (below_regrown W dq osq)
    clear k0 k1 k2 k3 hB
    go_wp2
    go_ret
    have g2 : ¬ a < b + m := by omega
    exact ⟨by simp [g2], hE⟩

set_option maxHeartbeats 1000000 in
set_option maxRecDepth 100000 in
/-- has: whether the second one is a run, all of it the first one's. -/
theorem has_any (a n b m : Int) (w : World) (h0 : 0 ≤ a) (h1 : a ≤ 1000000) (h2 : 0 ≤ n) (h3 : n ≤ 1000000) (hb : b ≤ 9223372036854775807) :
    Calls Try.prog 92 #[.agg #[.int .i64 a, .int .i64 n], .agg #[.int .i64 b, .int .i64 m]] w fun e w' => e = .returned (.bool (decide (1 ≤ m ∧ a ≤ b ∧ b + m ≤ a + n))) ∧ Below w.heap.size w w' := by
  have h4 : -9223372036854775808 ≤ a + n := by omega
  have h5 : a + n ≤ 9223372036854775807 := by omega
  by_cases g : 1 ≤ m
  · have g' : decide (1 ≤ m) = true := by simpa using g
    by_cases f : a ≤ b
    · have f' : decide (a ≤ b) = true := by simpa using f
      have h6 : -9223372036854775808 ≤ a + n - b := by omega
      have h7 : a + n - b ≤ 9223372036854775807 := by omega
      have hB := ((Below.refl w.heap.size w).alloc (Nat.le_refl _) (.cells #[.int .i64 a, .int .i64 n] 145)).alloc (by simp) (.cells #[.int .i64 b, .int .i64 m] 145)
      have hc0 : ((w.alloc (.cells #[.int .i64 a, .int .i64 n] 145)).alloc (.cells #[.int .i64 b, .int .i64 m] 145)).cell? ⟨w.heap.size, 0, none⟩ = some (.int .i64 a) := by simp [go_sem]
      have hc1 : ((w.alloc (.cells #[.int .i64 a, .int .i64 n] 145)).alloc (.cells #[.int .i64 b, .int .i64 m] 145)).cell? ⟨w.heap.size, 1, none⟩ = some (.int .i64 n) := by simp [go_sem]
      have hc2 : ((w.alloc (.cells #[.int .i64 a, .int .i64 n] 145)).alloc (.cells #[.int .i64 b, .int .i64 m] 145)).cell? ⟨w.heap.size + 1, 0, none⟩ = some (.int .i64 b) := by simp [go_sem]
      have hc3 : ((w.alloc (.cells #[.int .i64 a, .int .i64 n] 145)).alloc (.cells #[.int .i64 b, .int .i64 m] 145)).cell? ⟨w.heap.size + 1, 1, none⟩ = some (.int .i64 m) := by simp [go_sem]
      go_enter Try.func92, Try.ntmps92
      go_wp2_with fail
      generalize hW : ((w.alloc (.cells #[.int .i64 a, .int .i64 n] 145)).alloc (.cells #[.int .i64 b, .int .i64 m] 145)) = W at hB hc0 hc1 hc2 hc3 ⊢
      clear hW
      have k0 := cell_regrown hc0
      have k1 := cell_regrown hc1
      have k2 := cell_regrown hc2
      have k3 := cell_regrown hc3
      refine wp_region_quiet_below (by kernel_rfl) (by kernel_rfl) ?_
      repeat (first | go_big_quiet_skip | (quiet_step (exact end_regrown _ _ _ _ _ (by assumption) (by assumption))))
      refine wpQuiet_nil ?_
      intro _ hw'
      obtain ⟨⟨dq, osq⟩, hw''⟩ := hw'
      subst hw''
      have hE := onB hB (below_regrown W dq osq)
      clear k0 k1 k2 k3 hB
      go_wp2
      go_ret
      refine ⟨?_, hE⟩
      clear g' f'
      have hw : IntKind.i64.wrap (a + n - b) = a + n - b := IntWalk.i64_in _ (by omega)
      rw [show decide (1 ≤ m ∧ a ≤ b ∧ b + m ≤ a + n) = decide (m ≤ IntKind.i64.wrap (a + n - b)) from decide_eq_decide.2 (by rw [hw]; omega)]
      rfl
    · have f' : decide (a ≤ b) = false := by simpa using f
      have hB := ((Below.refl w.heap.size w).alloc (Nat.le_refl _) (.cells #[.int .i64 a, .int .i64 n] 145)).alloc (by simp) (.cells #[.int .i64 b, .int .i64 m] 145)
      have hc0 : ((w.alloc (.cells #[.int .i64 a, .int .i64 n] 145)).alloc (.cells #[.int .i64 b, .int .i64 m] 145)).cell? ⟨w.heap.size, 0, none⟩ = some (.int .i64 a) := by simp [go_sem]
      have hc1 : ((w.alloc (.cells #[.int .i64 a, .int .i64 n] 145)).alloc (.cells #[.int .i64 b, .int .i64 m] 145)).cell? ⟨w.heap.size, 1, none⟩ = some (.int .i64 n) := by simp [go_sem]
      have hc2 : ((w.alloc (.cells #[.int .i64 a, .int .i64 n] 145)).alloc (.cells #[.int .i64 b, .int .i64 m] 145)).cell? ⟨w.heap.size + 1, 0, none⟩ = some (.int .i64 b) := by simp [go_sem]
      have hc3 : ((w.alloc (.cells #[.int .i64 a, .int .i64 n] 145)).alloc (.cells #[.int .i64 b, .int .i64 m] 145)).cell? ⟨w.heap.size + 1, 1, none⟩ = some (.int .i64 m) := by simp [go_sem]
      go_enter Try.func92, Try.ntmps92
      go_wp2_with fail
      generalize hW : ((w.alloc (.cells #[.int .i64 a, .int .i64 n] 145)).alloc (.cells #[.int .i64 b, .int .i64 m] 145)) = W at hB hc0 hc1 hc2 hc3 ⊢
      clear hW
      have k0 := cell_regrown hc0
      have k1 := cell_regrown hc1
      have k2 := cell_regrown hc2
      have k3 := cell_regrown hc3
      refine wp_region_quiet_below (by kernel_rfl) (by kernel_rfl) ?_
      repeat (first | go_big_quiet_skip | (quiet_step (exact end_regrown _ _ _ _ _ (by assumption) (by assumption))))
      refine wpQuiet_nil ?_
      intro _ hw'
      obtain ⟨⟨dq, osq⟩, hw''⟩ := hw'
      subst hw''
      have hE := onB hB (below_regrown W dq osq)
      clear k0 k1 k2 k3 hB
      go_wp2
      go_ret
      clear g' f'
      rw [decide_eq_false (p := 1 ≤ m ∧ a ≤ b ∧ b + m ≤ a + n) (by omega)]
      exact ⟨rfl, hE⟩
  · have g' : decide (1 ≤ m) = false := by simpa using g
    have hB := ((Below.refl w.heap.size w).alloc (Nat.le_refl _) (.cells #[.int .i64 a, .int .i64 n] 145)).alloc (by simp) (.cells #[.int .i64 b, .int .i64 m] 145)
    have hc0 : ((w.alloc (.cells #[.int .i64 a, .int .i64 n] 145)).alloc (.cells #[.int .i64 b, .int .i64 m] 145)).cell? ⟨w.heap.size, 0, none⟩ = some (.int .i64 a) := by simp [go_sem]
    have hc1 : ((w.alloc (.cells #[.int .i64 a, .int .i64 n] 145)).alloc (.cells #[.int .i64 b, .int .i64 m] 145)).cell? ⟨w.heap.size, 1, none⟩ = some (.int .i64 n) := by simp [go_sem]
    have hc2 : ((w.alloc (.cells #[.int .i64 a, .int .i64 n] 145)).alloc (.cells #[.int .i64 b, .int .i64 m] 145)).cell? ⟨w.heap.size + 1, 0, none⟩ = some (.int .i64 b) := by simp [go_sem]
    have hc3 : ((w.alloc (.cells #[.int .i64 a, .int .i64 n] 145)).alloc (.cells #[.int .i64 b, .int .i64 m] 145)).cell? ⟨w.heap.size + 1, 1, none⟩ = some (.int .i64 m) := by simp [go_sem]
    go_enter Try.func92, Try.ntmps92
    go_wp2_with fail
    generalize hW : ((w.alloc (.cells #[.int .i64 a, .int .i64 n] 145)).alloc (.cells #[.int .i64 b, .int .i64 m] 145)) = W at hB hc0 hc1 hc2 hc3 ⊢
    clear hW
    have k0 := cell_regrown hc0
    have k1 := cell_regrown hc1
    have k2 := cell_regrown hc2
    have k3 := cell_regrown hc3
    refine wp_region_quiet_below (by kernel_rfl) (by kernel_rfl) ?_
    repeat (first | go_big_quiet_skip | (quiet_step (exact end_regrown _ _ _ _ _ (by assumption) (by assumption))))
    refine wpQuiet_nil ?_
    intro _ hw'
    obtain ⟨⟨dq, osq⟩, hw''⟩ := hw'
    subst hw''
    have hE := onB hB (below_regrown W dq osq)
    clear k0 k1 k2 k3 hB
    go_wp2
    go_ret
    clear g'
    rw [decide_eq_false (p := 1 ≤ m ∧ a ≤ b ∧ b + m ≤ a + n) (by omega)]
    exact ⟨rfl, hE⟩

set_option maxHeartbeats 1000000 in
set_option maxRecDepth 100000 in
/-- The question of Take: whether the run has so many places; how many stands in a box of the caller's. -/
theorem fits_any (a m n : Int) (B : Nat) (w : World) (hc : w.cell? ⟨B, 0, none⟩ = some (.int .i64 n)) :
    Calls Try.prog 103 #[.agg #[.int .i64 a, .int .i64 m], .pointer (some ⟨B, 0, none⟩)] w fun e w' => e = .returned (.bool (decide (n ≤ m))) ∧ Below w.heap.size w w' := by
  have hB : B < w.heap.size := World.block_lt_of_cell? _ _ hc
  have hne : B ≠ w.heap.size := by omega
  go_enter Try.func103, Try.ntmps103
  go_wp2
  go_ret
  exact ⟨by simp_all, (Below.refl _ w).alloc (Nat.le_refl _) _⟩

end Go.Proofs.Ythcgmfcibjinlaa.Ex
