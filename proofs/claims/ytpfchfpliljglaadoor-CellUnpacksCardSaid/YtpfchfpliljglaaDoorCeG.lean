/- The document's own answer of which words of an object are links. -/
import Derived.Test.YtpfchfpliljglaaDoorCeF
namespace Go.Proofs.YtpfchfpliljglaaDoor
open Go.RowKit Go.Sort

/-- A word is one of an object's links, as the document lists them by its kind. -/
def isL (k j : Int) : Bool := if k = 1 ∨ k = 2 ∨ k = 3 ∨ k = 4 then true else if k = 5 then j == 0 else if k = 9 then decide (1 ≤ j) && decide (j ≤ 3) else if k = 10 then j == 2 || j == 3 else false
/-- .. of those that it has. -/
def lk (k s a m j : Int) : Bool := decide (pe k s a m = 0) && decide (0 ≤ j) && decide (j < s) && isL k j

set_option maxHeartbeats 1000000 in
theorem link_none (k s a m j : Int) (w : World) (h : ¬ pe k s a m = 0 ∨ j < 0 ∨ s ≤ j) :
    Calls Tryd.prog 14 #[.agg #[.int .i64 k, .int .i64 s, .int .i64 a, .int .i64 m], .int .i64 j] w fun e w' => e = .returned (.bool false) ∧ Below w.heap.size w w' := by
  have hB := (Below.refl w.heap.size w).alloc (Nat.le_refl _) (.cells #[.int .i64 k, .int .i64 s, .int .i64 a, .int .i64 m] 30)
  have hX := box_new w (.int .i64 k) (.int .i64 s) (.int .i64 a) (.int .i64 m) 30
  have hP := Lib.hid fun W => rpack_any k s a m W
  generalize pe k s a m = q at h hP
  have h' : ¬ q = 0 ∨ (q = 0 ∧ j < 0) ∨ (q = 0 ∧ 0 ≤ j ∧ s ≤ j) := by omega
  clear h
  rcases h' with h | ⟨rfl, h⟩ | ⟨rfl, h1, h⟩
  all_goals
    go_enter Tryd.func14, Tryd.ntmps14
    go_wp2_with fail
    refine (hP.out _).mono ?_
    rintro e x1 ⟨rfl, hb⟩
    replace hB := onB hB hb
    replace hX := hX.later hb
    clear hb hP
    obtain ⟨c0, c1, c2, c3, -, -, -, -, hl⟩ := hX
    go_wp2
    go_ret
    exact ⟨rfl, hB⟩

set_option maxHeartbeats 1000000 in
theorem link_some (k s a m j : Int) (w : World) (h : pe k s a m = 0) (h0 : 0 ≤ j) (h1 : j < s) :
    Calls Tryd.prog 14 #[.agg #[.int .i64 k, .int .i64 s, .int .i64 a, .int .i64 m], .int .i64 j] w fun e w' => e = .returned (.bool (isL k j)) ∧ Below w.heap.size w w' := by
  have hB := (Below.refl w.heap.size w).alloc (Nat.le_refl _) (.cells #[.int .i64 k, .int .i64 s, .int .i64 a, .int .i64 m] 30)
  have hX := box_new w (.int .i64 k) (.int .i64 s) (.int .i64 a) (.int .i64 m) 30
  have hk := (pe_fit _ _ _ _).1 h
  obtain ⟨k0, k1⟩ := hk.1
  have hP := Lib.hid fun W => rpack_any k s a m W
  rw [h] at hP
  clear hk h
  generalize pw k s a m = q at hP
  have hk : k = 0 ∨ k = 1 ∨ k = 2 ∨ k = 3 ∨ k = 4 ∨ k = 5 ∨ k = 6 ∨ k = 7 ∨ k = 8 ∨ k = 9 ∨ k = 10 := by omega
  clear k0 k1
  rcases hk with rfl | rfl | rfl | rfl | rfl | rfl | rfl | rfl | rfl | rfl | rfl
  all_goals
    go_enter Tryd.func14, Tryd.ntmps14
    go_wp2_with fail
    refine (hP.out _).mono ?_
    rintro e x1 ⟨rfl, hb⟩
    replace hB := onB hB hb
    replace hX := hX.later hb
    clear hb hP
    obtain ⟨c0, c1, c2, c3, -, -, -, -, hl⟩ := hX
    go_wp2
  all_goals
    go_ret
    refine ⟨?_, hB⟩
    first
      | rfl
      | (show Ending.returned (.bool _) = _; simp [isL, *]; done)
      | (show Ending.returned (.bool _) = _; simp [isL, *]; omega)

theorem link_any (k s a m j : Int) (w : World) :
    Calls Tryd.prog 14 #[.agg #[.int .i64 k, .int .i64 s, .int .i64 a, .int .i64 m], .int .i64 j] w fun e w' => e = .returned (.bool (lk k s a m j)) ∧ Below w.heap.size w w' := by
  unfold lk
  by_cases h : pe k s a m = 0
  · by_cases h0 : 0 ≤ j
    · by_cases h1 : j < s
      · simp only [h, h0, h1, decide_true, Bool.true_and]
        exact link_some k s a m j w h h0 h1
      · simp only [h, h0, h1, decide_true, decide_false, Bool.true_and, Bool.false_and]
        exact link_none k s a m j w (.inr (.inr (by omega)))
    · simp only [h, h0, decide_true, decide_false, Bool.true_and, Bool.false_and]
      exact link_none k s a m j w (.inr (.inl (by omega)))
  · simp only [h, decide_false, Bool.false_and]
    exact link_none k s a m j w (.inl h)

/-- The links are the same, word by word. -/
theorem same_links (k s a m j : Int) : (decide (lf k s a m ≤ j) && decide (j < lt k s a m)) = lk k s a m j := by
  by_cases h : pe k s a m = 0
  · have hf := (pe_fit _ _ _ _).1 h
    obtain ⟨⟨k0, k1⟩, ⟨s0, s1⟩, -⟩ := hf
    have hk : k = 0 ∨ k = 1 ∨ k = 2 ∨ k = 3 ∨ k = 4 ∨ k = 5 ∨ k = 6 ∨ k = 7 ∨ k = 8 ∨ k = 9 ∨ k = 10 := by omega
    unfold lf lt has lk
    rw [h]
    clear h k0 k1
    rw [Bool.eq_iff_iff]
    rcases hk with rfl | rfl | rfl | rfl | rfl | rfl | rfl | rfl | rfl | rfl | rfl
    all_goals
      simp [isL, lt0, lfrom, lto]
      first
        | done
        | omega
        | (split <;> omega)
  · unfold lf lt has lk
    simp [h]
end Go.Proofs.YtpfchfpliljglaaDoor
