/- The ring's List. -/
import Derived.Test.YtbjlpmjalidfkaaRiJ
namespace Go.Proofs.Ytbjlpmjalidfkaa
open Go.RowKit Go.Shelf

attribute [local go_sem] Oper.semAt_some

set_option maxHeartbeats 1000000 in
theorem around_any (r : Nat) (w : World) :
    Calls Try.prog 51 #[.pointer (some ⟨r, 0, none⟩)] w fun e w' => e = .returned (.func (.func 80) #[] #[.pointer (some ⟨w.heap.size, 0, none⟩)]) ∧ w' = w.alloc (.cells #[.pointer (some ⟨r, 0, none⟩)] 25) := by
  have hmf := mkfunc2
  go_enter Try.func51, Try.ntmps51
  go_wp2_with fail
  go_ret
  exact ⟨rfl, rfl⟩

/-- What stands between two rounds of List's loop. -/
structure Mid (s : Spot) (C F D : Nat → Int) (w : World) (pre : List (Int × Int)) (W : World) : Prop where
  lies : Lies s C F D W
  box : W.cell? ⟨w.heap.size + 2, 0, none⟩ = some (.pointer (some ⟨s.r, 0, none⟩))
  seg : ∀ k, k < 4 → W.cell? ⟨w.heap.size, k, none⟩ = some (.slice none 0 0)
  sfz : ∀ k, W.frozen? ⟨w.heap.size, k, none⟩ = false
  turn : Turn s w W
  gath : ∃ (c M : Nat) (v : Nat → Value), c < 4 ∧ (c = 0 ∨ ∃ x, x ∈ pre ∧ x.1 = (c : Int)) ∧ w.heap.size + 3 ≤ M ∧ Gath (w.heap.size + 1) (w.heap.size + 1) c M v (fun k => pick k pre) W

theorem Mid.same {s : Spot} {C F D : Nat → Int} {w W W' : World} {pre : List (Int × Int)} (h : Mid s C F D w pre W) (hL : Lies s C F D W') (ht : Turn s w W') (hs : W.heap.size ≤ W'.heap.size)
    (hk : ∀ b o, w.heap.size ≤ b → W.heap[b]? = some o → o.isCells = true → W'.heap[b]? = some o) : Mid s C F D w pre W' := by
  have c : ∀ (b j : Nat) (x : Value), w.heap.size ≤ b → W.cell? ⟨b, j, none⟩ = some x → W'.heap[b]? = W.heap[b]? := fun b j x hb hx => by
    obtain ⟨o, ho, hoc⟩ := cells_of_cell hx
    exact (hk b o hb ho hoc).trans ho.symm
  refine ⟨hL, (World.cell?_of_block (w := W) (c _ _ _ (by simp only; omega) h.box)).trans h.box, fun k hk' => (World.cell?_of_block (w := W) (c _ _ _ (Nat.le_refl _) (h.seg k hk'))).trans (h.seg k hk'), fun k => (World.frozen?_of_block (w := W) (c _ _ _ (Nat.le_refl _) (h.seg 0 (by decide)))).trans (h.sfz k), ht, ?_⟩
  obtain ⟨d, M, v, h1, h2, h3, h4⟩ := h.gath
  exact ⟨d, M, v, h1, h2, h3, h4.same hs fun b o hb => hk b o (by omega)⟩

/-- What List leaves. -/
def Listed (s : Spot) (C F D : Nat → Int) (R : Rows) (w : World) (e : Ending) (w' : World) : Prop :=
  ∃ v0 v1 v2 v3, e = .returned (.agg #[v0, v1, v2, v3]) ∧ Row w' w.heap.size w'.heap.size v0 R.white ∧ Row w' w.heap.size w'.heap.size v1 R.frm ∧ Row w' w.heap.size w'.heap.size v2 R.grey ∧ Row w' w.heap.size w'.heap.size v3 R.black ∧ Lies s C F D w' ∧ Turn s w w'

set_option maxRecDepth 100000 in
set_option maxHeartbeats 8000000 in
theorem list_lies (s : Spot) (C F D : Nat → Int) (R : Rows) (w : World) (hL : Lies s C F D w) (hI : Inv s.n D C F R) :
    Calls Try.prog 14 #[.pointer (some ⟨s.r, 0, none⟩)] w (Listed s C F D R w) := by
  obtain ⟨i0, hi, hz0, hz1, hz2⟩ := info_parts Try.info_int
  have HL := Lib.hid hL
  have HI := Lib.hid hI
  have hun := hL.under
  clear hL hI
  refine (callsIn_wide (n := 4)).1 ?_
  refine callsIn_of_wp_marks Try.func14 rfl trivial ?_ rfl
  simp only [Try.ntmps14, List.size_toArray, List.length_cons, List.length_nil, Nat.reduceAdd, Nat.reduceSub, Array.replicate_succ, Array.replicate_zero, List.push_toArray, List.append_toArray, List.nil_append, List.cons_append]
  gi_wp2_with fail
  refine ⟨trivial, ?_⟩
  refine (callsIn_wide.2 (around_any s.r _)).mono ?_
  rintro e w' ⟨rfl, rfl⟩
  gi_wp2_with fail
  have hsz : (((w.alloc (.cells #[.slice none 0 0, .slice none 0 0, .slice none 0 0, .slice none 0 0] 40)).alloc (.cells #[.slice none 0 0, .slice none 0 0, .slice none 0 0, .slice none 0 0] 89)).alloc (.cells #[.pointer (some ⟨s.r, 0, none⟩)] 25)).heap.size = w.heap.size + 3 := by simp
  have hb0 : Below w.heap.size w (((w.alloc (.cells #[.slice none 0 0, .slice none 0 0, .slice none 0 0, .slice none 0 0] 40)).alloc (.cells #[.slice none 0 0, .slice none 0 0, .slice none 0 0, .slice none 0 0] 89)).alloc (.cells #[.pointer (some ⟨s.r, 0, none⟩)] 25)) := (((Below.refl _ _).alloc (Nat.le_refl _) _).alloc (by simp) _).alloc (by simp; omega) _
  have hm0 : Mid s C F D w [] (((w.alloc (.cells #[.slice none 0 0, .slice none 0 0, .slice none 0 0, .slice none 0 0] 40)).alloc (.cells #[.slice none 0 0, .slice none 0 0, .slice none 0 0, .slice none 0 0] 89)).alloc (.cells #[.pointer (some ⟨s.r, 0, none⟩)] 25)) := by
    refine ⟨HL.out.later hb0, by simp [go_sem], fun k hk => ?_, fun k => by simp [go_sem], Turn.of_below hb0, 0, w.heap.size + 3, fun _ => .slice none 0 0, by decide, Or.inl rfl, Nat.le_refl _, ⟨fun k hk => ?_, fun k => by simp [go_sem], fun k hk => absurd hk (Nat.not_lt_zero _), World.ownsRow_nil _ _ _ _, fun k _ => ⟨rfl, rfl⟩, Nat.le_refl _, by omega, by simp⟩⟩
    · obtain rfl | rfl | rfl | rfl : k = 0 ∨ k = 1 ∨ k = 2 ∨ k = 3 := by omega
      all_goals simp [go_sem]
    · obtain rfl | rfl | rfl | rfl : k = 0 ∨ k = 1 ∨ k = 2 ∨ k = 3 := by omega
      all_goals simp [go_sem]
  have HM0 := Lib.hid hm0
  clear hb0 hm0
  generalize (((w.alloc (.cells #[.slice none 0 0, .slice none 0 0, .slice none 0 0, .slice none 0 0] 40)).alloc (.cells #[.slice none 0 0, .slice none 0 0, .slice none 0 0, .slice none 0 0] 89)).alloc (.cells #[.pointer (some ⟨s.r, 0, none⟩)] 25)) = w0 at hsz HM0 ⊢
  obtain ⟨u1, u2, u3, u4, u5, u6, u7⟩ := hun
  refine range_by (gf := 80) (lb := #[.pointer (some ⟨w.heap.size + 1 + 1, 0, none⟩)]) rfl (enters_of Try.func80 (by kernel_rfl) rfl) (fun x : Int × Int => #[.int .i64 x.1, .int .i64 x.2]) (fun _ => rfl) R.pairs (Mid s C F D w) ?hput ?h0
    (fun x => { tmps := #[.pointer (some ⟨s.r, 0, none⟩), undef, .pointer (some ⟨w.heap.size, 0, none⟩), .pointer (some ⟨w.heap.size + 1, 0, none⟩), .int .i64 x.1, .int .i64 x.2, .pointer (some ⟨s.r, 0, none⟩), .func (.func 80) #[] #[.pointer (some ⟨w.heap.size + 1 + 1, 0, none⟩)], .int .i64 x.1, .int .i64 x.2, undef, undef, undef, undef, undef, undef, undef, undef, undef, undef, undef, undef, undef, undef, undef, undef, undef], defers := [] }) ?assign ?body ?iter ?done
  case hput =>
    intro pre W l o o' hm hl ho hoc
    have hk : ∀ b, b ≠ l → (W.putObj l o').heap[b]? = W.heap[b]? := fun b hb => World.putObj_heap_other hb
    have hs : W.heap.size ≤ (W.putObj l o').heap.size := by simp
    refine hm.same (hm.lies.same hs fun b e => hk b ?_) (hm.turn.then ⟨rfl, rfl, rfl, hs, fun b hb => hk b (by omega)⟩) hs fun b x hb hx hxc => (hk b ?_).trans hx
    · rcases e with rfl | rfl | rfl | rfl | rfl | rfl | rfl <;> omega
    · rintro rfl
      rw [ho] at hx
      cases hx
      rw [hoc] at hxc
      cases hxc
  case h0 =>
    intro o o'
    have hb := ((Below.refl w0.heap.size w0).alloc (Nat.le_refl _) o).alloc (by simp) o'
    exact HM0.out.same (HM0.out.lies.later hb) (HM0.out.turn.trans (Turn.of_below hb)) hb.size fun b x _ hx _ => (hb.block b (Array.getElem?_eq_some_iff.1 hx).1).trans hx
  case assign =>
    intro l x W K hK
    gi_wp2
    exact hK
  case body =>
    intro l pre x W hm hp
    obtain ⟨c, M, v, hc4, hcx, hM, hG⟩ := hm.gath
    obtain ⟨k, hk, hxk⟩ := pairs_colour R (hp.subset (by simp : x ∈ pre ++ [x]))
    have hrise := List.pairwise_append.1 ((pairs_rise R).sublist hp.sublist)
    have hck : c ≤ k := by
      rcases hcx with rfl | ⟨y, hy, hyc⟩
      · omega
      · have := hrise.2.2 y hy x (by simp)
        omega
    obtain ⟨M', hMM, hG'⟩ := hG.to hck
    have hlen : (pick k pre).length + 1 ≤ 1000 := by
      have h1 := hp.length_le
      have h2 := congrArg List.length (pairs_snd R)
      have h3 := HI.out.small
      have h4 : (pick k pre).length ≤ pre.length := by
        unfold pick
        simpa using List.length_filter_le _ _
      simp at h1 h2
      omega
    obtain ⟨y1, y⟩ := x
    simp only at hxk
    subst hxk
    have ck := hG'.cell k hk
    have hk' : (k : Int) < 4 := by omega
    have HG := Lib.hid hG'
    have HM := Lib.hid hm
    have HN := Lib.hid (And.intro hM hMM)
    clear hG hG' hm hp hrise hcx hck hM hMM
    gi_wp2_with (gi_at_builtin; refine wpListIn_append_own _ rfl _ _ 37 rfl M' 3 i0 (.int .i64 0) 1 8 Try.underlying37 hi hz0 hz1 hz2 rfl (by decide) _ _ _ rfl (HG.out.cur.alloc _) ⟨W.heap.size, 0, none⟩ 1 1 [.int .i64 y] rfl rfl (cell_one_new _ _ _) (by simp [Value.oneCell']) (by unfold maxLen; omega) (by omega) (by have := HG.out.MW; simp; omega) ?_; intro v' w1 hown' hgrow _; obtain ⟨g', cap', rfl⟩ := ownsRow_succ hown'; obtain ⟨p1, p2, p3, p4, p5, p6⟩ := HG.out.put hk hown' hgrow; have hc1 := p4 k hk; have hf1 := p5 k)
    have hM' := HN.out
    have hq : ∀ j (v : Value), ∀ b, b = w.heap.size ∨ b = w.heap.size + 2 → W.cell? ⟨b, j, none⟩ = some v → (w1.setCell ⟨w.heap.size + 1, k, none⟩ (Value.slice (some ⟨g', 0, none⟩) ((pick k pre).length + 1) cap')).cell? ⟨b, j, none⟩ = some v := fun j v b hb hx => (World.cell?_of_block (w := W) (p6 b (by omega) (by omega))).trans hx
    have he : (fun j => pick j (pre ++ [((k : Int), y)])) = fun j => if j = k then pick j pre ++ [y] else pick j pre := by
      funext j
      by_cases e : j = k
      · subst e
        rw [if_pos rfl]
        exact pick_hit rfl
      · rw [if_neg e]
        exact pick_miss (by simp only; omega)
    rw [← he] at p1
    refine ⟨p2, HM.out.lies.same p2.size fun b e => p6 b (by omega) (by omega), hq _ _ _ (Or.inr rfl) HM.out.box, fun j hj => hq _ _ _ (Or.inl rfl) (HM.out.seg j hj), fun j => (World.frozen?_of_block (w := W) (p6 w.heap.size (by omega) (by omega))).trans (HM.out.sfz j), HM.out.turn.then (p3.mono (by omega)), k, M', (fun j => if j = k then Value.slice (some ⟨g', 0, none⟩) ((pick k pre).length + 1) cap' else v j), hk, Or.inr ⟨((k : Int), y), by simp, rfl⟩, by omega, p1⟩
  case iter =>
    intro r W1 hY h0 hB
    refine (around_each 3 (by decide) (w0.heap.size + 1) (w.heap.size + 2) s C F D R HI.out (fun pre W => Mid s C F D w pre W ∧ Book w0.heap.size r W) (fun pre W h => ⟨h.1.lies, h.1.box⟩) ?_ ?_ W1 ⟨h0, hB⟩).mono ?_
    · rintro pre W W' ⟨hm, hb⟩ hl ht
      have hlt := hb.lt
      refine ⟨hm.same hl (hm.turn.trans ht) ht.size fun b o hbb ho _ => (ht.block b (Array.getElem?_eq_some_iff.1 ho).1 (by omega) (by omega) (by omega)).trans ho, hb.kept (ht.block _ (by omega) (by omega) (by omega) (by omega)) (ht.block _ (by omega) (by omega) (by omega) (by omega))⟩
    · rintro pre x W ⟨hm, hb⟩ hp
      obtain ⟨fn, tmps, assign, body, h1, h2⟩ := hY pre x W hm hb hp
      exact ⟨fn, tmps, assign, body, h1, h2⟩
    · rintro e W' ⟨h1, h2, h3⟩
      exact ⟨h1, h2, h3⟩
  case done =>
    intro D' W hD hm hK
    obtain ⟨c, M, v, hc4, hcx, hM, hG⟩ := hm.gath
    have c0 : W.cell? ⟨w.heap.size + 1, 0, none⟩ = some (v 0) := hG.cell 0 (by decide)
    have c1 : W.cell? ⟨w.heap.size + 1, 1, none⟩ = some (v 1) := hG.cell 1 (by decide)
    have c2 : W.cell? ⟨w.heap.size + 1, 2, none⟩ = some (v 2) := hG.cell 2 (by decide)
    have c3 : W.cell? ⟨w.heap.size + 1, 3, none⟩ = some (v 3) := hG.cell 3 (by decide)
    have s0 : W.cell? ⟨w.heap.size, 0, none⟩ = some (.slice none 0 0) := hm.seg 0 (by decide)
    have s1 : W.cell? ⟨w.heap.size, 1, none⟩ = some (.slice none 0 0) := hm.seg 1 (by decide)
    have s2 : W.cell? ⟨w.heap.size, 2, none⟩ = some (.slice none 0 0) := hm.seg 2 (by decide)
    have s3 : W.cell? ⟨w.heap.size, 3, none⟩ = some (.slice none 0 0) := hm.seg 3 (by decide)
    have z0 := hm.sfz 0
    have z1 := hm.sfz 1
    have z2 := hm.sfz 2
    have z3 := hm.sfz 3
    obtain ⟨a0, p0, e0, h0⟩ := hG.all 0
    obtain ⟨a1, p1, e1, h1⟩ := hG.all 1
    obtain ⟨a2, p2, e2, h2⟩ := hG.all 2
    obtain ⟨a3, p3, e3, h3⟩ := hG.all 3
    rw [e0] at c0
    rw [e1] at c1
    rw [e2] at c2
    rw [e3] at c3
    have HG := Lib.hid hG
    have HM := Lib.hid hm
    clear hG hm h0 h1 h2 h3
    gi_wp2
    obtain ⟨W4, hW4⟩ : ∃ W4, (((W.setCell ⟨w.heap.size, 0, none⟩ (Value.slice a0 (pick 0 R.pairs).length ((pick 0 R.pairs).length + p0))).setCell ⟨w.heap.size, 1, none⟩ (Value.slice a1 (pick 1 R.pairs).length ((pick 1 R.pairs).length + p1))).setCell ⟨w.heap.size, 2, none⟩ (Value.slice a2 (pick 2 R.pairs).length ((pick 2 R.pairs).length + p2))).setCell ⟨w.heap.size, 3, none⟩ (Value.slice a3 (pick 3 R.pairs).length ((pick 3 R.pairs).length + p3)) = W4 := ⟨_, rfl⟩
    rw [hW4]
    have k4 : ∀ b, b ≠ w.heap.size → W4.heap[b]? = W.heap[b]? := fun b hb => by
      rw [← hW4]
      exact (Below.heap_setCell _ _ _ _ hb).trans ((Below.heap_setCell _ _ _ _ hb).trans ((Below.heap_setCell _ _ _ _ hb).trans (Below.heap_setCell _ _ _ _ hb)))
    have d0 : W4.cell? ⟨w.heap.size, 0, none⟩ = some (Value.slice a0 (pick 0 R.pairs).length ((pick 0 R.pairs).length + p0)) := by
      rw [← hW4]
      exact (World.cell?_setCell_other _ _ _ _ (by simp)).trans ((World.cell?_setCell_other _ _ _ _ (by simp)).trans ((World.cell?_setCell_other _ _ _ _ (by simp)).trans (World.cell?_setCell_same _ _ _ s0)))
    have d1 : W4.cell? ⟨w.heap.size, 1, none⟩ = some (Value.slice a1 (pick 1 R.pairs).length ((pick 1 R.pairs).length + p1)) := by
      rw [← hW4]
      exact (World.cell?_setCell_other _ _ _ _ (by simp)).trans ((World.cell?_setCell_other _ _ _ _ (by simp)).trans (World.cell?_setCell_same _ _ _ ((World.cell?_setCell_other _ _ _ _ (by simp)).trans s1)))
    have d2 : W4.cell? ⟨w.heap.size, 2, none⟩ = some (Value.slice a2 (pick 2 R.pairs).length ((pick 2 R.pairs).length + p2)) := by
      rw [← hW4]
      exact (World.cell?_setCell_other _ _ _ _ (by simp)).trans (World.cell?_setCell_same _ _ _ ((World.cell?_setCell_other _ _ _ _ (by simp)).trans ((World.cell?_setCell_other _ _ _ _ (by simp)).trans s2)))
    have d3 : W4.cell? ⟨w.heap.size, 3, none⟩ = some (Value.slice a3 (pick 3 R.pairs).length ((pick 3 R.pairs).length + p3)) := by
      rw [← hW4]
      exact World.cell?_setCell_same _ _ _ ((World.cell?_setCell_other _ _ _ _ (by simp)).trans ((World.cell?_setCell_other _ _ _ _ (by simp)).trans ((World.cell?_setCell_other _ _ _ _ (by simp)).trans s3)))
    have z4 : W.heap.size = W4.heap.size ∧ W4.os = W.os ∧ W4.tape = W.tape ∧ W4.output = W.output := by
      rw [← hW4]
      exact ⟨by simp [World.setCell], rfl, rfl, rfl⟩
    have hK' : W4.heap[D']? = some (.deferred (some [])) := (k4 D' (by omega)).trans hK
    refine ⟨by simp, .inl ⟨_, _, rfl, run_takeDeferred hK', ?_⟩⟩
    have k5 : ∀ b, b ≠ w.heap.size → b ≠ D' → (W4.putObj D' (.deferred none)).heap[b]? = W.heap[b]? := fun b h1 h2 => (World.putObj_heap_other h2).trans (k4 b h1)
    have q : ∀ j (x : Value), W4.cell? ⟨w.heap.size, j, none⟩ = some x → (W4.putObj D' (.deferred none)).cell? ⟨w.heap.size, j, none⟩ = some x := fun j x hx => (World.cell?_of_block (w := W4) (World.putObj_heap_other (by simp only; omega))).trans hx
    have s5 : W.heap.size ≤ (W4.putObj D' (.deferred none)).heap.size := by simp; omega
    have r : ∀ k, k < 4 → Row (W4.putObj D' (.deferred none)) w.heap.size (W4.putObj D' (.deferred none)).heap.size (v k) (R.row k) := fun k hk => by
      rw [← pick_pairs R k hk]
      refine ((HG.out.all k).same fun b o h1 _ h3 h4 => (k5 b (by omega) ?_).trans h3).mono (by omega) s5
      rintro rfl
      rw [hK] at h3
      cases h3
      cases h4
    have r0 := r 0 (by decide)
    have r1 := r 1 (by decide)
    have r2 := r 2 (by decide)
    have r3 := r 3 (by decide)
    rw [e0] at r0
    rw [e1] at r1
    rw [e2] at r2
    rw [e3] at r3
    refine ⟨.agg #[Value.slice a0 (pick 0 R.pairs).length ((pick 0 R.pairs).length + p0), Value.slice a1 (pick 1 R.pairs).length ((pick 1 R.pairs).length + p1), Value.slice a2 (pick 2 R.pairs).length ((pick 2 R.pairs).length + p2), Value.slice a3 (pick 3 R.pairs).length ((pick 3 R.pairs).length + p3)], ?_, _, _, _, _, rfl, r0, r1, r2, r3, ?_, ?_⟩
    · simp [results, Try.results14, go_sem, q _ _ d0, q _ _ d1, q _ _ d2, q _ _ d3]
    · exact HM.out.lies.same s5 fun b e => k5 b (by omega) (by omega)
    · have ht := HM.out.turn
      exact ⟨by show W4.os = _; rw [z4.2.1]; exact ht.os, by show W4.tape = _; rw [z4.2.2.1]; exact ht.tape, by show W4.output = _; rw [z4.2.2.2]; exact ht.output, by have := ht.size; omega, fun b h0 h1 h2 h3 => (k5 b (by omega) (by omega)).trans (ht.block b h0 h1 h2 h3)⟩

end Go.Proofs.Ytbjlpmjalidfkaa
