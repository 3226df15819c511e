/- What a frame takes; a copy of one. -/
import Derived.Test.YtalfhcmccdnajaaSkA
import Derived.Laws.MakeOwn
namespace Go.Proofs.Ytalfhcmccdnajaa
open Go.RowKit

theorem Try.info_i64 : (Try.prog.info? 2).map (fun i => (i.zero, i.size, i.bytes)) = some (some (.int .i64 0), 1, 8) := by kernel_rfl
abbrev TW : TypeId := 35

set_option maxHeartbeats 1000000 in
theorem takes_any (k n : Int) (a : Option Addr) (m c : Nat) (w : World) (hm : m ≤ 9223372036854775805) :
    Calls Try.prog 28 #[.agg #[.int .i64 k, .int .i64 n, .slice a m c]] w fun e w' => e = .returned (.int .i64 ((m : Int) + 2)) ∧ Below w.heap.size w w' := by
  have hb := (Below.refl w.heap.size w).alloc (Nat.le_refl _) (.cells #[.int .i64 k, .int .i64 n, .slice a m c] TF)
  go_enter Try.func28, Try.ntmps28
  go_wp2_with fail
  go_ret
  exact ⟨rfl, hb⟩

/-- copy of a frame's words into new ones. -/
theorem run_copy_words (ty : TypeId) (W : World) (g : Nat) (cur : Array Value) (ws : List Int) (hg : W.heap[g]? = some (.cells cur 2 (0, 0))) (hs : cur.size = ws.length) (a : Option Addr) (c : Nat) (K : Nat → Prop) (k n : Int) (hw : WAt K W ⟨k, n, ws, a, c⟩) :
    ∃ W', (Builtin.copy_ #[TW, TW] ty #[.slice (some ⟨g, 0, none⟩) ws.length ws.length, .slice a ws.length c]).run Try.prog W = .ok (goInt ws.length) W' ∧ W.grownBy W' (some g) ∧ W'.heap.size = W.heap.size ∧ (∀ i y, ws[i]? = some y → W'.cell? ⟨g, i, none⟩ = some (.int .i64 y)) ∧ ∀ i, W'.frozen? ⟨g, i, none⟩ = false := by
  obtain ⟨i0, hi, hz0, hz1, hz2⟩ := info_parts Try.info_i64
  have hu : Try.prog.underlying TW = some (.slice 2) := Try.underlying35
  have hsz : (Try.prog.info? 2).map (·.size) = some 1 := by rw [hi]; simp [hz1]
  cases a with
  | none =>
    have h0 : ws = [] := by
      cases ws with
      | nil => rfl
      | cons y r =>
        obtain ⟨g, o, h, _⟩ := hw.2 (by simp)
        cases h
    subst h0
    refine ⟨W, ?_, World.grownBy.refl _ _, rfl, fun i y hy => by simp at hy, fun i => frozen_of_row _ _ i _ _ hg⟩
    simp [Builtin.copy_, run_underlying hu, Builtin.lenOf, Builtin.firstCells, sizeOf, typeInfo, hi, storeCells]
  | some ad =>
    have hsrc : ∀ j v, (ws.map (Value.int .i64))[j]? = some v → W.cell? (ad.add j) = some v := fun j v hv => by
      rw [List.getElem?_map] at hv
      cases hy : ws[j]? with
      | none => rw [hy] at hv; cases hv
      | some y =>
        rw [hy] at hv
        cases hv
        have hj := (List.getElem?_eq_some_iff.1 hy).1
        obtain ⟨g, o, e, _, _, _, h⟩ := hw.2 (by show 0 < ws.length; omega)
        cases e
        rw [addr_at]
        exact h j y hy
    have hr := run_copy_row (P := Try.prog) W TW TW ty 2 g 0 ws.length ws.length ad ws.length c cur 2 (ws.map (Value.int .i64)) hu hsz hg (by simp) hsrc (by simp [hs]) (fun v hv => by obtain ⟨y, _, rfl⟩ := List.mem_map.1 hv; rfl)
    rw [List.length_map] at hr
    refine ⟨_, hr, ⟨rfl, rfl, rfl, by simp, fun k _ hk => setRow_other W g k _ (fun e => hk (by simp [e]))⟩, by simp [World.setRow], fun i y hy => ?_, fun i => frozen_of_row _ _ i _ _ (setRow_heap W g cur (cur.toList.take 0 ++ ws.map (Value.int .i64) ++ cur.toList.drop (0 + ws.length)).toArray _ _ hg)⟩
    have hg2 := setRow_heap W g cur (cur.toList.take 0 ++ ws.map (Value.int .i64) ++ cur.toList.drop (0 + ws.length)).toArray _ _ hg
    rw [cell_of_row _ g i _ _ _ hg2]
    have hi2 := (List.getElem?_eq_some_iff.1 hy).1
    simp only [List.take_zero, List.nil_append, List.getElem?_toArray]
    rw [List.getElem?_append_left (by simpa using hi2), List.getElem?_map, hy]
    rfl
theorem three_cells {W : World} {b : Nat} (u0 u1 u2 : Value) (x y z : Value) (h0 : W.cell? ⟨b, 0, none⟩ = some u0) (h1 : W.cell? ⟨b, 1, none⟩ = some u1) (h2 : W.cell? ⟨b, 2, none⟩ = some u2) :
    (((W.setCell ⟨b, 0, none⟩ x).setCell ⟨b, 1, none⟩ y).setCell ⟨b, 2, none⟩ z).cell? ⟨b, 0, none⟩ = some x ∧ (((W.setCell ⟨b, 0, none⟩ x).setCell ⟨b, 1, none⟩ y).setCell ⟨b, 2, none⟩ z).cell? ⟨b, 1, none⟩ = some y ∧ (((W.setCell ⟨b, 0, none⟩ x).setCell ⟨b, 1, none⟩ y).setCell ⟨b, 2, none⟩ z).cell? ⟨b, 2, none⟩ = some z := by
  refine ⟨?_, ?_, ?_⟩
  · rw [World.cell?_setCell_other _ _ _ _ (by simp), World.cell?_setCell_other _ _ _ _ (by simp), World.cell?_setCell_same _ _ _ h0]
  · rw [World.cell?_setCell_other _ _ _ _ (by simp), World.cell?_setCell_same _ _ _ (by rw [World.cell?_setCell_other _ _ _ _ (by simp)]; exact h1)]
  · rw [World.cell?_setCell_same _ _ _ (by rw [World.cell?_setCell_other _ _ _ _ (by simp), World.cell?_setCell_other _ _ _ _ (by simp)]; exact h2)]
theorem three_below {B : Nat} {w W : World} (h : Below B w W) {b : Nat} (hb : B ≤ b) (x y z : Value) : Below B w (((W.setCell ⟨b, 0, none⟩ x).setCell ⟨b, 1, none⟩ y).setCell ⟨b, 2, none⟩ z) :=
  ((h.setCell (p := ⟨b, 0, none⟩) hb _).setCell (p := ⟨b, 1, none⟩) hb _).setCell (p := ⟨b, 2, none⟩) hb _

set_option maxHeartbeats 4000000 in
theorem copied_any (k n : Int) (a : Option Addr) (c : Nat) (ws : List Int) (K : Nat → Prop) (w : World) (hw : WAt K w ⟨k, n, ws, a, c⟩) (hl : ws.length ≤ 100000) :
    Calls Try.prog 27 #[.agg #[.int .i64 k, .int .i64 n, .slice a ws.length c]] w fun e w' => ∃ g, e = .returned (.agg #[.int .i64 k, .int .i64 n, .slice (some ⟨g, 0, none⟩) ws.length ws.length]) ∧ WAt (fun x => x = g) w' ⟨k, n, ws, some ⟨g, 0, none⟩, ws.length⟩ ∧ w.heap.size ≤ g ∧ g < w'.heap.size ∧ Below w.heap.size w w' ∧ ∀ i, w'.frozen? ⟨g, i, none⟩ = false := by
  obtain ⟨i0, hi, hz0, hz1, hz2⟩ := info_parts Try.info_i64
  have hmk := fun W => run_make (P := Try.prog) W TW 2 i0 (.int .i64 0) Try.underlying35 hi hz0 .i64 .i64 ws.length ws.length (by omega) (Int.le_refl _) (by rw [hz2]; omega) (by omega)
  have hsz : ∀ o1 o2 : Obj, ((w.alloc o1).alloc o2).heap.size = w.heap.size + 1 + 1 := fun o1 o2 => by rw [World.size_alloc, World.size_alloc]
  have hB0 := (((Below.refl w.heap.size w).alloc (Nat.le_refl _) (.cells #[.int .i64 k, .int .i64 n, .slice a ws.length c] TF)).alloc (by simp) (.cells #[.int .i64 0, .int .i64 0, .slice none 0 0] TF)).alloc (by simp; omega) (.cells (madeCells #[Value.int IntKind.i64 0] ws.length) 2)
  obtain ⟨W1, hr, hg, hz, hc, hfz⟩ := run_copy_words 3 (((w.alloc (.cells #[.int .i64 k, .int .i64 n, .slice a ws.length c] TF)).alloc (.cells #[.int .i64 0, .int .i64 0, .slice none 0 0] TF)).alloc (.cells (madeCells #[Value.int IntKind.i64 0] ws.length) 2)) (w.heap.size + 1 + 1) (madeCells #[Value.int IntKind.i64 0] ws.length) ws (by rw [← hsz]; exact heap_alloc_new _ _) (by rw [size_madeCells]) a c K k n (hw.move (fun g hg hk => ⟨hk, hB0.block g hg⟩) hB0.size)
  have hB1 := hB0.grown hg (by simp; omega) (fun k hk => by cases hk; omega)
  have hz1 : W1.heap.size = w.heap.size + 1 + 1 + 1 := by rw [hz, World.size_alloc, hsz]
  have b0 := hg.block w.heap.size (by simp; omega) (by simp; omega)
  have b1 := hg.block (w.heap.size + 1) (by simp) (by simp)
  have b0' : W1.heap[w.heap.size]? = some (.cells #[.int .i64 k, .int .i64 n, .slice a ws.length c] TF (0, 0)) := by
    rw [b0, Below.heap_alloc _ _ _ (by simp; omega), Below.heap_alloc _ _ _ (by simp)]; exact heap_alloc_new _ _
  have b1' : W1.heap[w.heap.size + 1]? = some (.cells #[.int .i64 0, .int .i64 0, .slice none 0 0] TF (0, 0)) := by
    rw [b1, Below.heap_alloc _ _ _ (by simp)]
    have := heap_alloc_new (w.alloc (.cells #[.int .i64 k, .int .i64 n, .slice a ws.length c] TF)) (.cells #[.int .i64 0, .int .i64 0, .slice none 0 0] TF)
    rw [World.size_alloc] at this
    exact this
  have c00 := cell_of_row W1 _ 0 _ _ _ b0'
  have c01 := cell_of_row W1 _ 1 _ _ _ b0'
  have c02 := cell_of_row W1 _ 2 _ _ _ b0'
  have z02 := frozen_of_row W1 _ 2 _ _ b0'
  have c10 := cell_of_row W1 _ 0 _ _ _ b1'
  have c11 := cell_of_row W1 _ 1 _ _ _ b1'
  have c12 := cell_of_row W1 _ 2 _ _ _ b1'
  have z10 := frozen_of_row W1 _ 0 _ _ b1'
  have z11 := frozen_of_row W1 _ 1 _ _ b1'
  have z12 := frozen_of_row W1 _ 2 _ _ b1'
  have HE := Lib.hid (And.intro hB1 (And.intro hz1 (And.intro hc hfz)))
  clear hw hB0 hB1 hz1 hc hfz hg hz b0 b1 b0' b1' hsz
  go_enter Try.func27, Try.ntmps27
  go_wp2_with fail
  obtain ⟨hB1, hz1, hc, hfz⟩ := HE.out
  obtain ⟨v0, v1, v2⟩ := three_cells (W := W1.setCell ⟨w.heap.size, 2, none⟩ (.slice (some ⟨w.heap.size + 1 + 1, 0, none⟩) ws.length ws.length)) (b := w.heap.size + 1) _ _ _ (.int .i64 k) (.int .i64 n) (.slice (some ⟨w.heap.size + 1 + 1, 0, none⟩) ws.length ws.length) (by rw [World.cell?_setCell_other _ _ _ _ (by simp)]; exact c10) (by rw [World.cell?_setCell_other _ _ _ _ (by simp)]; exact c11) (by rw [World.cell?_setCell_other _ _ _ _ (by simp)]; exact c12)
  refine bodyPost_ret (v := .agg #[.int .i64 k, .int .i64 n, .slice (some ⟨w.heap.size + 1 + 1, 0, none⟩) ws.length ws.length]) (by simp [results, Try.results27, go_sem, v0, v1, v2]) rfl ⟨w.heap.size + 1 + 1, rfl, ⟨by show ws.length ≤ _; unfold maxLen; omega, fun h0 => ⟨_, 0, rfl, Nat.le_refl _, by simp [World.setCell]; omega, rfl, fun i y hy => ?_⟩⟩, by omega, by simp [World.setCell]; omega, ?_, fun i => by rw [World.frozen?_setCell, World.frozen?_setCell, World.frozen?_setCell, World.frozen?_setCell]; exact hfz i⟩
  · rw [Nat.zero_add]
    rw [World.cell?_setCell_other _ _ _ _ (by simp), World.cell?_setCell_other _ _ _ _ (by simp), World.cell?_setCell_other _ _ _ _ (by simp), World.cell?_setCell_other _ _ _ _ (by simp)]
    exact hc i y hy
  · exact three_below (hB1.setCell (p := ⟨w.heap.size, 2, none⟩) (Nat.le_refl _) _) (Nat.le_succ _) _ _ _

end Go.Proofs.Ytalfhcmccdnajaa
