/- The document's own word of an object, and its object of a word; the program's object of a word. -/
import Derived.Test.YtpfchfpliljglaaDoorCeC
namespace Go.Proofs.YtpfchfpliljglaaDoor
open Go.RowKit Go.Sort

theorem bad_any {k s a m : Int} (h : ¬ (k < 0 ∨ 10 < k)) : (decide (s < 0) || decide (31 < s) || decide (a < 0) || decide (16777215 < a) || decide (m < 0) || decide (1 < m)) = !(decide (pe k s a m = 0)) := by
  by_cases hf : Fit k s a m
  · rw [pe_ok hf]
    unfold Fit at hf
    have h1 : ¬ s < 0 := by omega
    have h2 : ¬ 31 < s := by omega
    have h3 : ¬ a < 0 := by omega
    have h4 : ¬ 16777215 < a := by omega
    have h5 : ¬ m < 0 := by omega
    have h6 : ¬ 1 < m := by omega
    simp [h1, h2, h3, h4, h5, h6]
  · rw [pe_range h hf]
    unfold Fit at hf
    simp only [Bool.or_eq_true, decide_eq_true_eq, Int.reduceEq, decide_false, Bool.not_false]
    omega

set_option maxHeartbeats 400000 in
theorem rpack_kind (k s a m : Int) (w : World) (h : k < 0 ∨ 10 < k) :
    Calls Tryd.prog 10 #[.agg #[.int .i64 k, .int .i64 s, .int .i64 a, .int .i64 m]] w fun e w' => e = .returned (.tuple #[.int .i64 0, .int .i64 6]) ∧ Below w.heap.size w w' := by
  by_cases h0 : k < 0
  · go_enter Tryd.func10, Tryd.ntmps10
    go_wp2
    go_ret2
    exact ⟨rfl, (Below.refl _ w).alloc (Nat.le_refl _) _⟩
  · have h1 : 10 < k := by omega
    clear h
    go_enter Tryd.func10, Tryd.ntmps10
    go_wp2
    go_ret2
    exact ⟨rfl, (Below.refl _ w).alloc (Nat.le_refl _) _⟩

set_option maxHeartbeats 1000000 in
theorem rpack_range (k s a m : Int) (w : World) (h : ¬ (k < 0 ∨ 10 < k)) (hf : ¬ Fit k s a m) :
    Calls Tryd.prog 10 #[.agg #[.int .i64 k, .int .i64 s, .int .i64 a, .int .i64 m]] w fun e w' => e = .returned (.tuple #[.int .i64 0, .int .i64 1]) ∧ Below w.heap.size w w' := by
  have h0 : 0 ≤ k := by omega
  have h1 : k ≤ 10 := by omega
  have hb := @bad_any k s a m h
  rw [pe_range h hf] at hb
  simp only [Int.reduceEq, decide_false, Bool.not_false] at hb
  clear h hf
  go_enter Tryd.func10, Tryd.ntmps10
  go_wp2
  all_goals
    go_ret2
    exact ⟨rfl, (Below.refl _ w).alloc (Nat.le_refl _) _⟩

set_option maxHeartbeats 1000000 in
theorem rpack_fit (k s a m : Int) (w : World) (hf : Fit k s a m) :
    Calls Tryd.prog 10 #[.agg #[.int .i64 k, .int .i64 s, .int .i64 a, .int .i64 m]] w fun e w' => e = .returned (.tuple #[.int .i64 (jn k s a m), .int .i64 0]) ∧ Below w.heap.size w w' := by
  obtain ⟨⟨h0, h1⟩, ⟨h2, h3⟩, ⟨h4, h5⟩, h6, h7⟩ := hf
  go_enter Tryd.func10, Tryd.ntmps10
  go_wp2
  go_ret2
  refine ⟨?_, (Below.refl _ w).alloc (Nat.le_refl _) _⟩
  show Ending.returned (.tuple #[.int .i64 (k + 16 * m + 32 * s + 1024 * a), .int .i64 0]) = _
  rw [show k + 16 * m + 32 * s + 1024 * a = jn k s a m by unfold jn; omega]

theorem rpack_any (k s a m : Int) (w : World) :
    Calls Tryd.prog 10 #[.agg #[.int .i64 k, .int .i64 s, .int .i64 a, .int .i64 m]] w fun e w' => e = .returned (.tuple #[.int .i64 (pw k s a m), .int .i64 (pe k s a m)]) ∧ Below w.heap.size w w' := by
  by_cases h : k < 0 ∨ 10 < k
  · rw [pw_kind h, pe_kind h]
    exact rpack_kind k s a m w h
  · by_cases hf : Fit k s a m
    · rw [pw_ok hf, pe_ok hf]
      exact rpack_fit k s a m w hf
    · rw [pw_range h hf, pe_range h hf]
      exact rpack_range k s a m w h hf

theorem pe_word {n : Int} (h : Word n) : pe (kb n) (sb n) (ab n) (mb n) = 0 := pe_ok (word_fit n h)
theorem pw_word {n : Int} (h : Word n) : pw (kb n) (sb n) (ab n) (mb n) = n := (pw_ok (word_fit n h)).trans (jn_word n h)
theorem none_word {n : Int} (h : ¬ Word n) : ¬ pe (kb n) (sb n) (ab n) (mb n) = 0 ∨ ¬ pw (kb n) (sb n) (ab n) (mb n) = n := by
  by_cases h1 : pe (kb n) (sb n) (ab n) (mb n) = 0
  · refine .inr fun h2 => h ?_
    have hf := (pe_fit _ _ _ _).1 h1
    rw [pw_ok hf] at h2
    exact word_of n hf h2
  · exact .inl h1

set_option maxHeartbeats 1000000 in
theorem unpack_word (n : Int) (w : World) (hn : InR n) (h : Word n) :
    Calls Tryd.prog 11 #[.int .i64 n] w fun e w' => e = .returned (.tuple #[.agg #[.int .i64 (kb n), .int .i64 (sb n), .int .i64 (ab n), .int .i64 (mb n)], .int .i64 0]) ∧ Below w.heap.size w w' := by
  have HN := Lib.hid hn
  have HP : Hid (∀ W : World, Calls Tryd.prog 9 #[.agg #[.int .i64 (kb n), .int .i64 (sb n), .int .i64 (ab n), .int .i64 (mb n)]] W fun e w' => e = .returned (.tuple #[.int .i64 n, .int .i64 0]) ∧ Below W.heap.size W w') := Lib.hid fun W => by
    have hp := pack_any (kb n) (sb n) (ab n) (mb n) W
    rw [pe_word h, pw_word h] at hp
    exact hp
  clear h
  clear hn
  have hB := (Below.refl w.heap.size w).alloc (Nat.le_refl _) (.cells #[.int .i64 0, .int .i64 0, .int .i64 0, .int .i64 0] 23)
  have hX := box_new w (.int .i64 0) (.int .i64 0) (.int .i64 0) (.int .i64 0) 23
  go_enter Tryd.func11, Tryd.ntmps11
  go_wp2_with fail
  generalize w.alloc (.cells #[.int .i64 0, .int .i64 0, .int .i64 0, .int .i64 0] 23) = W0 at hB hX ⊢
  refine (split_any n _ HN.out).mono ?_
  rintro e x1 ⟨rfl, hb⟩
  replace hB := onB hB hb
  replace hX := hX.later hb
  clear hb
  go_wp2_with fail
  have hY := box_new x1 (.int .i64 (kb n)) (.int .i64 (sb n)) (.int .i64 (ab n)) (.int .i64 (mb n)) 23
  have hbx := (Below.refl x1.heap.size x1).alloc (Nat.le_refl _) (.cells #[.int .i64 (kb n), .int .i64 (sb n), .int .i64 (ab n), .int .i64 (mb n)] 23)
  replace hB := onB hB hbx
  replace hX := hX.later hbx
  clear hbx
  refine (HP.out _).mono ?_
  rintro e x2 ⟨rfl, hb⟩
  replace hB := onB hB hb
  replace hX := hX.later hb
  replace hY := hY.later hb
  clear hb HP
  obtain ⟨c0, c1, c2, c3, f0, f1, f2, f3, hl⟩ := hX
  obtain ⟨d0, d1, d2, d3, -, -, -, -, dl⟩ := hY
  go_wp2
  exact bodyPost_ret (v := .tuple #[.agg #[.int .i64 (kb n), .int .i64 (sb n), .int .i64 (ab n), .int .i64 (mb n)], .int .i64 0]) (by simp [results, Tryd.results11, go_sem, c0, c1, c2, c3]) rfl ⟨rfl, ((((hB.setCell (Nat.le_refl _) _).setCell (Nat.le_refl _) _).setCell (Nat.le_refl _) _).setCell (Nat.le_refl _) _)⟩

set_option maxHeartbeats 1000000 in
theorem unpack_bad (n : Int) (w : World) (hn : InR n) (h : ¬ pe (kb n) (sb n) (ab n) (mb n) = 0) :
    Calls Tryd.prog 11 #[.int .i64 n] w fun e w' => e = .returned (.tuple #[.agg #[.int .i64 0, .int .i64 0, .int .i64 0, .int .i64 0], .int .i64 3]) ∧ Below w.heap.size w w' := by
  have HN := Lib.hid hn
  have HP := Lib.hid fun W => pack_any (kb n) (sb n) (ab n) (mb n) W
  have hne := h
  clear h
  clear hn
  have hB := (Below.refl w.heap.size w).alloc (Nat.le_refl _) (.cells #[.int .i64 0, .int .i64 0, .int .i64 0, .int .i64 0] 23)
  have hX := box_new w (.int .i64 0) (.int .i64 0) (.int .i64 0) (.int .i64 0) 23
  go_enter Tryd.func11, Tryd.ntmps11
  go_wp2_with fail
  generalize w.alloc (.cells #[.int .i64 0, .int .i64 0, .int .i64 0, .int .i64 0] 23) = W0 at hB hX ⊢
  refine (split_any n _ HN.out).mono ?_
  rintro e x1 ⟨rfl, hb⟩
  replace hB := onB hB hb
  replace hX := hX.later hb
  clear hb
  go_wp2_with fail
  have hY := box_new x1 (.int .i64 (kb n)) (.int .i64 (sb n)) (.int .i64 (ab n)) (.int .i64 (mb n)) 23
  have hbx := (Below.refl x1.heap.size x1).alloc (Nat.le_refl _) (.cells #[.int .i64 (kb n), .int .i64 (sb n), .int .i64 (ab n), .int .i64 (mb n)] 23)
  replace hB := onB hB hbx
  replace hX := hX.later hbx
  clear hbx
  refine (HP.out _).mono ?_
  rintro e x2 ⟨rfl, hb⟩
  replace hB := onB hB hb
  replace hX := hX.later hb
  replace hY := hY.later hb
  clear hb HP
  obtain ⟨c0, c1, c2, c3, f0, f1, f2, f3, hl⟩ := hX
  obtain ⟨d0, d1, d2, d3, -, -, -, -, dl⟩ := hY
  go_wp2
  exact bodyPost_ret (v := .tuple #[.agg #[.int .i64 0, .int .i64 0, .int .i64 0, .int .i64 0], .int .i64 3]) (by simp [results, Tryd.results11, go_sem, c0, c1, c2, c3]) rfl ⟨rfl, ((((hB.setCell (Nat.le_refl _) _).setCell (Nat.le_refl _) _).setCell (Nat.le_refl _) _).setCell (Nat.le_refl _) _)⟩

set_option maxHeartbeats 1000000 in
theorem unpack_off (n : Int) (w : World) (hn : InR n) (h2 : ¬ pw (kb n) (sb n) (ab n) (mb n) = n) (h : pe (kb n) (sb n) (ab n) (mb n) = 0) :
    Calls Tryd.prog 11 #[.int .i64 n] w fun e w' => e = .returned (.tuple #[.agg #[.int .i64 0, .int .i64 0, .int .i64 0, .int .i64 0], .int .i64 3]) ∧ Below w.heap.size w w' := by
  have HN := Lib.hid hn
  have HP : Hid (∀ W : World, Calls Tryd.prog 9 #[.agg #[.int .i64 (kb n), .int .i64 (sb n), .int .i64 (ab n), .int .i64 (mb n)]] W fun e w' => e = .returned (.tuple #[.int .i64 (pw (kb n) (sb n) (ab n) (mb n)), .int .i64 0]) ∧ Below W.heap.size W w') := Lib.hid fun W => by
    have hp := pack_any (kb n) (sb n) (ab n) (mb n) W
    rw [h] at hp
    exact hp
  clear h
  clear hn
  have hB := (Below.refl w.heap.size w).alloc (Nat.le_refl _) (.cells #[.int .i64 0, .int .i64 0, .int .i64 0, .int .i64 0] 23)
  have hX := box_new w (.int .i64 0) (.int .i64 0) (.int .i64 0) (.int .i64 0) 23
  go_enter Tryd.func11, Tryd.ntmps11
  go_wp2_with fail
  generalize w.alloc (.cells #[.int .i64 0, .int .i64 0, .int .i64 0, .int .i64 0] 23) = W0 at hB hX ⊢
  refine (split_any n _ HN.out).mono ?_
  rintro e x1 ⟨rfl, hb⟩
  replace hB := onB hB hb
  replace hX := hX.later hb
  clear hb
  go_wp2_with fail
  have hY := box_new x1 (.int .i64 (kb n)) (.int .i64 (sb n)) (.int .i64 (ab n)) (.int .i64 (mb n)) 23
  have hbx := (Below.refl x1.heap.size x1).alloc (Nat.le_refl _) (.cells #[.int .i64 (kb n), .int .i64 (sb n), .int .i64 (ab n), .int .i64 (mb n)] 23)
  replace hB := onB hB hbx
  replace hX := hX.later hbx
  clear hbx
  refine (HP.out _).mono ?_
  rintro e x2 ⟨rfl, hb⟩
  replace hB := onB hB hb
  replace hX := hX.later hb
  replace hY := hY.later hb
  clear hb HP
  obtain ⟨c0, c1, c2, c3, f0, f1, f2, f3, hl⟩ := hX
  obtain ⟨d0, d1, d2, d3, -, -, -, -, dl⟩ := hY
  go_wp2
  exact bodyPost_ret (v := .tuple #[.agg #[.int .i64 0, .int .i64 0, .int .i64 0, .int .i64 0], .int .i64 3]) (by simp [results, Tryd.results11, go_sem, c0, c1, c2, c3]) rfl ⟨rfl, ((((hB.setCell (Nat.le_refl _) _).setCell (Nat.le_refl _) _).setCell (Nat.le_refl _) _).setCell (Nat.le_refl _) _)⟩

theorem unpack_none (n : Int) (w : World) (hn : InR n) (h : ¬ Word n) :
    Calls Tryd.prog 11 #[.int .i64 n] w fun e w' => e = .returned (.tuple #[.agg #[.int .i64 0, .int .i64 0, .int .i64 0, .int .i64 0], .int .i64 3]) ∧ Below w.heap.size w w' := by
  by_cases h1 : pe (kb n) (sb n) (ab n) (mb n) = 0
  · exact unpack_off n w hn ((none_word h).resolve_left (fun k => k h1)) h1
  · exact unpack_bad n w hn h1
end Go.Proofs.YtpfchfpliljglaaDoor
