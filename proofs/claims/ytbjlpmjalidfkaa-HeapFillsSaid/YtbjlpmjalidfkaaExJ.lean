/- New room; its list, and how many are free. -/
import Derived.Test.YtbjlpmjalidfkaaExI
import Derived.Laws.NewBlocks
namespace Go.Proofs.Ytbjlpmjalidfkaa.Ex
open Go.RowKit Go.Sort

theorem isBound_is (n : Int) (b : Bool) (h : decide (0 ≤ n ∧ n ≤ 65536) = b) (w : World) :
    Calls Try.prog 81 #[.int .i64 n] w fun e w' => e = .returned (.bool b) ∧ w' = w := by
  subst h
  exact isBound_any n w

set_option maxHeartbeats 1000000 in
set_option maxRecDepth 100000 in
theorem new_first (F N : Int) (w : World) (h : ¬ (0 ≤ F ∧ F ≤ 65536)) :
    Calls Try.prog 53 #[.int .i64 F, .int .i64 N] w fun e w' => e = .returned (.tuple #[.pointer none, .int .i64 1]) ∧ w' = w := by
  have H := Lib.hid (isBound_is F false (by simpa using h) w)
  clear h
  go_enter Try.func53, Try.ntmps53
  go_wp2_with fail
  refine H.out.mono ?_
  rintro e w' ⟨rfl, rfl⟩
  go_wp2_with fail
  go_ret2
  exact ⟨rfl, rfl⟩

set_option maxHeartbeats 1000000 in
set_option maxRecDepth 100000 in
theorem new_second (F N : Int) (w : World) (h0 : 0 ≤ F ∧ F ≤ 65536) (h : ¬ (0 ≤ N ∧ N ≤ 65536)) :
    Calls Try.prog 53 #[.int .i64 F, .int .i64 N] w fun e w' => e = .returned (.tuple #[.pointer none, .int .i64 1]) ∧ w' = w := by
  have H0 := Lib.hid (isBound_is F true (by simpa using h0) w)
  have H := Lib.hid (isBound_is N false (by simpa using h) w)
  clear h0 h
  go_enter Try.func53, Try.ntmps53
  go_wp2_with fail
  refine H0.out.mono ?_
  rintro e w' ⟨rfl, rfl⟩
  go_wp2_with fail
  refine H.out.mono ?_
  rintro e w' ⟨rfl, rfl⟩
  go_wp2_with fail
  go_ret2
  exact ⟨rfl, rfl⟩

/-- Room without places, as it lies. -/
structure None (w : World) (p : Nat) (F : Int) : Prop where
  first : w.cell? ⟨p, 0, none⟩ = some (.int .i64 F)
  places : w.cell? ⟨p, 1, none⟩ = some (.int .i64 0)
  free : w.cell? ⟨p, 2, none⟩ = some (.slice none 0 0)
  lp : p < w.heap.size

set_option maxHeartbeats 1000000 in
set_option maxRecDepth 100000 in
theorem new_none (F : Int) (w : World) (h0 : 0 ≤ F ∧ F ≤ 65536) :
    Calls Try.prog 53 #[.int .i64 F, .int .i64 0] w fun e w' => ∃ p, e = .returned (.tuple #[.pointer (some ⟨p, 0, none⟩), .int .i64 0]) ∧ None w' p F ∧ Below w.heap.size w w' ∧ w.heap.size ≤ p := by
  have H0 := Lib.hid (isBound_is F true (by simpa using h0) w)
  have H := Lib.hid (isBound_is 0 true (by simp) w)
  have hE : None (w.alloc (.cells #[.int .i64 F, .int .i64 0, .slice none 0 0] 148)) w.heap.size F := ⟨by simp [go_sem], by simp [go_sem], by simp [go_sem], by simp⟩
  have hB := (Below.refl w.heap.size w).alloc (Nat.le_refl _) (.cells #[.int .i64 F, .int .i64 0, .slice none 0 0] 148)
  have HE := Lib.hid hE
  have HB := Lib.hid hB
  clear h0 hE hB
  go_enter Try.func53, Try.ntmps53
  go_wp2_with fail
  refine H0.out.mono ?_
  rintro e w' ⟨rfl, rfl⟩
  go_wp2_with fail
  refine H.out.mono ?_
  rintro e w' ⟨rfl, rfl⟩
  go_wp2_with fail
  go_ret2
  exact ⟨_, rfl, HE.out, HB.out, Nat.le_refl _⟩

set_option maxHeartbeats 1000000 in
set_option maxRecDepth 100000 in
theorem new_some (F N : Int) (w : World) (h0 : 0 ≤ F ∧ F ≤ 65536) (h1 : 1 ≤ N ∧ N ≤ 65536) :
    Calls Try.prog 53 #[.int .i64 F, .int .i64 N] w fun e w' => ∃ p g, e = .returned (.tuple #[.pointer (some ⟨p, 0, none⟩), .int .i64 0]) ∧ At w' p g 1 F N [(F, N)] ∧ Below w.heap.size w w' ∧ w.heap.size ≤ p ∧ w.heap.size ≤ g := by
  have H0 := Lib.hid (isBound_is F true (by simpa using h0) w)
  have H := Lib.hid (isBound_is N true (by simp; omega) w)
  obtain ⟨W, hW⟩ : ∃ W, W = (w.alloc (.cells #[.int .i64 F, .int .i64 N, .slice (some ⟨w.heap.size + 1, 0, none⟩) 1 1] 148)).alloc (.cells #[.int .i64 F, .int .i64 N] 145) := ⟨_, rfl⟩
  have hO : Own 145 W (w.heap.size + 1) 1 [(F, N)] := by
    have h := World.ownsRow_lit (base := 0) (size := 2) (e := 145) (w.alloc (.cells #[.int .i64 F, .int .i64 N, .slice (some ⟨w.heap.size + 1, 0, none⟩) 1 1] 148)) #[.int .i64 F, .int .i64 N] 1 (Nat.zero_le _) (by unfold maxLen; omega) rfl
    rw [← hW] at h
    simpa [Own, flat] using h
  have hE : At W w.heap.size (w.heap.size + 1) 1 F N [(F, N)] := by
    refine ⟨?_, ?_, ?_, ?_, hO, by omega, ?_⟩
    · rw [hW]; simp [go_sem]
    · rw [hW]; simp [go_sem]
    · rw [hW]; simp [go_sem]
    · rw [hW]; simp [go_sem]
    · rw [hW]; simp; omega
  have hB : Below w.heap.size w W := by
    rw [hW]
    exact ((Below.refl w.heap.size w).alloc (Nat.le_refl _) _).alloc (by simp) _
  have HE := Lib.hid hE
  have HB := Lib.hid hB
  clear h0 hE hB hO
  subst hW
  go_enter Try.func53, Try.ntmps53
  go_wp2_with fail
  refine H0.out.mono ?_
  rintro e w' ⟨rfl, rfl⟩
  go_wp2_with fail
  refine H.out.mono ?_
  rintro e w' ⟨rfl, rfl⟩
  go_wp2_with fail
  go_ret2
  exact ⟨_, _, rfl, HE.out, HB.out, Nat.le_refl _, by omega⟩

end Go.Proofs.Ytbjlpmjalidfkaa.Ex
