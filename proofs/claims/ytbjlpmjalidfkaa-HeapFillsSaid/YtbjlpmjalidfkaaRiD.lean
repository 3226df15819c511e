/- What stands at a row's beginning; a cell linked in, or out; a row that loses one, or gets one; a whole row that is another one's. -/
import Derived.Test.YtbjlpmjalidfkaaRiC
import Derived.Deep.RegionHeld3
import Derived.Deep.RegionWith
namespace Go.Proofs.Ytbjlpmjalidfkaa
open Go.RowKit


set_option maxHeartbeats 1000000 in
theorem start_0 (s : Spot) (C F D : Nat → Int) (w : World) (hL : Lies s C F D w) :
    Calls Try.prog 71 #[.pointer (some ⟨s.r, 0, none⟩), .int .i64 0] w fun e w' => e = .returned (.int .i64 (start0 C F)) ∧ w' = w := by
  have c0 : w.cell? ⟨s.r, 5, none⟩ = some (.int .i64 (C 0)) := hL.count 0 (by decide)
  have f0 : w.cell? ⟨s.r, 9, none⟩ = some (.int .i64 (F 0)) := hL.first 0 (by decide)
  have c1 : w.cell? ⟨s.r, 6, none⟩ = some (.int .i64 (C 1)) := hL.count 1 (by decide)
  have f1 : w.cell? ⟨s.r, 10, none⟩ = some (.int .i64 (F 1)) := hL.first 1 (by decide)
  have c2 : w.cell? ⟨s.r, 7, none⟩ = some (.int .i64 (C 2)) := hL.count 2 (by decide)
  have f2 : w.cell? ⟨s.r, 11, none⟩ = some (.int .i64 (F 2)) := hL.first 2 (by decide)
  have c3 : w.cell? ⟨s.r, 8, none⟩ = some (.int .i64 (C 3)) := hL.count 3 (by decide)
  have f3 : w.cell? ⟨s.r, 12, none⟩ = some (.int .i64 (F 3)) := hL.first 3 (by decide)
  clear hL
  unfold start0
  obtain ⟨X, hX⟩ : ∃ X, start0 C F = X := ⟨_, rfl⟩
  have hX' := hX
  unfold start0 at hX'
  rw [hX']
  have HX := Lib.hid hX'
  clear hX hX'
  go_enter Try.func71, Try.ntmps71
  go_wp2_with fail
  go_loopw [7] (fun s7 wr => ∃ i : Nat, i ≤ 4 ∧ s7 = .int .i64 i ∧ wr = w ∧ (0 < i → C 0 ≤ 0) ∧ (1 < i → C 1 ≤ 0) ∧ (2 < i → C 2 ≤ 0) ∧ (3 < i → C 3 ≤ 0)) (fun s7 _ => 4 - (intOf s7).toNat)
  case atStart => exact ⟨0, by decide, rfl, rfl, by simp, by simp, by simp, by simp⟩
  case round =>
    obtain ⟨i, hi, rfl, rfl, z0, z1, z2, z3⟩ := hrel
    have HZ := Lib.hid (And.intro z0 (And.intro z1 (And.intro z2 z3)))
    clear z0 z1 z2 z3
    obtain rfl | rfl | rfl | rfl | rfl : i = 0 ∨ i = 1 ∨ i = 2 ∨ i = 3 ∨ i = 4 := by omega
    · by_cases g : 0 < C 0
      · have g' : decide (0 < C 0) = true := decide_eq_true g
        go_wp2_with fail
        have h := HX.out
        
        rw [if_pos g] at h
        go_ret
        exact ⟨by simp [h], by first | rfl | trivial⟩
      · have g' : decide (0 < C 0) = false := decide_eq_false g
        go_wp2_with fail
        exact ⟨⟨1, by decide, by go_num, (by first | rfl | trivial), fun _ => Int.not_lt.1 g, by intro h; omega, by intro h; omega, by intro h; omega⟩, by simp [intOf]⟩
    · by_cases g : 0 < C 1
      · have g' : decide (0 < C 1) = true := decide_eq_true g
        go_wp2_with fail
        have h := HX.out
        have y0 := HZ.out.1 (by decide);
        rw [if_neg (Int.not_lt.2 y0), if_pos g] at h
        go_ret
        exact ⟨by simp [h], by first | rfl | trivial⟩
      · have g' : decide (0 < C 1) = false := decide_eq_false g
        go_wp2_with fail
        exact ⟨⟨2, by decide, by go_num, (by first | rfl | trivial), by intro h; exact HZ.out.1 (by decide), fun _ => Int.not_lt.1 g, by intro h; omega, by intro h; omega⟩, by simp [intOf]⟩
    · by_cases g : 0 < C 2
      · have g' : decide (0 < C 2) = true := decide_eq_true g
        go_wp2_with fail
        have h := HX.out
        have y0 := HZ.out.1 (by decide); have y1 := HZ.out.2.1 (by decide);
        rw [if_neg (Int.not_lt.2 y0), if_neg (Int.not_lt.2 y1), if_pos g] at h
        go_ret
        exact ⟨by simp [h], by first | rfl | trivial⟩
      · have g' : decide (0 < C 2) = false := decide_eq_false g
        go_wp2_with fail
        exact ⟨⟨3, by decide, by go_num, (by first | rfl | trivial), by intro h; exact HZ.out.1 (by decide), by intro h; exact HZ.out.2.1 (by decide), fun _ => Int.not_lt.1 g, by intro h; omega⟩, by simp [intOf]⟩
    · by_cases g : 0 < C 3
      · have g' : decide (0 < C 3) = true := decide_eq_true g
        go_wp2_with fail
        have h := HX.out
        have y0 := HZ.out.1 (by decide); have y1 := HZ.out.2.1 (by decide); have y2 := HZ.out.2.2.1 (by decide);
        rw [if_neg (Int.not_lt.2 y0), if_neg (Int.not_lt.2 y1), if_neg (Int.not_lt.2 y2), if_pos g] at h
        go_ret
        exact ⟨by simp [h], by first | rfl | trivial⟩
      · have g' : decide (0 < C 3) = false := decide_eq_false g
        go_wp2_with fail
        exact ⟨⟨4, by decide, by go_num, (by first | rfl | trivial), by intro h; exact HZ.out.1 (by decide), by intro h; exact HZ.out.2.1 (by decide), by intro h; exact HZ.out.2.2.1 (by decide), fun _ => Int.not_lt.1 g⟩, by simp [intOf]⟩
    · go_wp2_with fail
      have h := HX.out
      have y0 := HZ.out.1 (by decide); have y1 := HZ.out.2.1 (by decide); have y2 := HZ.out.2.2.1 (by decide); have y3 := HZ.out.2.2.2 (by decide);
      rw [if_neg (Int.not_lt.2 y0), if_neg (Int.not_lt.2 y1), if_neg (Int.not_lt.2 y2), if_neg (Int.not_lt.2 y3)] at h
      go_ret
      exact ⟨by simp [h], by first | rfl | trivial⟩

set_option maxHeartbeats 1000000 in
theorem start_3 (s : Spot) (C F D : Nat → Int) (w : World) (hL : Lies s C F D w) :
    Calls Try.prog 71 #[.pointer (some ⟨s.r, 0, none⟩), .int .i64 3] w fun e w' => e = .returned (.int .i64 (start3 C F)) ∧ w' = w := by
  have c0 : w.cell? ⟨s.r, 5, none⟩ = some (.int .i64 (C 0)) := hL.count 0 (by decide)
  have f0 : w.cell? ⟨s.r, 9, none⟩ = some (.int .i64 (F 0)) := hL.first 0 (by decide)
  have c1 : w.cell? ⟨s.r, 6, none⟩ = some (.int .i64 (C 1)) := hL.count 1 (by decide)
  have f1 : w.cell? ⟨s.r, 10, none⟩ = some (.int .i64 (F 1)) := hL.first 1 (by decide)
  have c2 : w.cell? ⟨s.r, 7, none⟩ = some (.int .i64 (C 2)) := hL.count 2 (by decide)
  have f2 : w.cell? ⟨s.r, 11, none⟩ = some (.int .i64 (F 2)) := hL.first 2 (by decide)
  have c3 : w.cell? ⟨s.r, 8, none⟩ = some (.int .i64 (C 3)) := hL.count 3 (by decide)
  have f3 : w.cell? ⟨s.r, 12, none⟩ = some (.int .i64 (F 3)) := hL.first 3 (by decide)
  clear hL
  unfold start3
  obtain ⟨X, hX⟩ : ∃ X, start3 C F = X := ⟨_, rfl⟩
  have hX' := hX
  unfold start3 at hX'
  rw [hX']
  have HX := Lib.hid hX'
  clear hX hX'
  go_enter Try.func71, Try.ntmps71
  go_wp2_with fail
  go_loopw [7] (fun s7 wr => ∃ i : Nat, i ≤ 4 ∧ s7 = .int .i64 i ∧ wr = w ∧ (0 < i → C 3 ≤ 0) ∧ (1 < i → C 0 ≤ 0) ∧ (2 < i → C 1 ≤ 0) ∧ (3 < i → C 2 ≤ 0)) (fun s7 _ => 4 - (intOf s7).toNat)
  case atStart => exact ⟨0, by decide, rfl, rfl, by simp, by simp, by simp, by simp⟩
  case round =>
    obtain ⟨i, hi, rfl, rfl, z0, z1, z2, z3⟩ := hrel
    have HZ := Lib.hid (And.intro z0 (And.intro z1 (And.intro z2 z3)))
    clear z0 z1 z2 z3
    obtain rfl | rfl | rfl | rfl | rfl : i = 0 ∨ i = 1 ∨ i = 2 ∨ i = 3 ∨ i = 4 := by omega
    · by_cases g : 0 < C 3
      · have g' : decide (0 < C 3) = true := decide_eq_true g
        go_wp2_with fail
        have h := HX.out
        
        rw [if_pos g] at h
        go_ret
        exact ⟨by simp [h], by first | rfl | trivial⟩
      · have g' : decide (0 < C 3) = false := decide_eq_false g
        go_wp2_with fail
        exact ⟨⟨1, by decide, by go_num, (by first | rfl | trivial), fun _ => Int.not_lt.1 g, by intro h; omega, by intro h; omega, by intro h; omega⟩, by simp [intOf]⟩
    · by_cases g : 0 < C 0
      · have g' : decide (0 < C 0) = true := decide_eq_true g
        go_wp2_with fail
        have h := HX.out
        have y0 := HZ.out.1 (by decide);
        rw [if_neg (Int.not_lt.2 y0), if_pos g] at h
        go_ret
        exact ⟨by simp [h], by first | rfl | trivial⟩
      · have g' : decide (0 < C 0) = false := decide_eq_false g
        go_wp2_with fail
        exact ⟨⟨2, by decide, by go_num, (by first | rfl | trivial), by intro h; exact HZ.out.1 (by decide), fun _ => Int.not_lt.1 g, by intro h; omega, by intro h; omega⟩, by simp [intOf]⟩
    · by_cases g : 0 < C 1
      · have g' : decide (0 < C 1) = true := decide_eq_true g
        go_wp2_with fail
        have h := HX.out
        have y0 := HZ.out.1 (by decide); have y1 := HZ.out.2.1 (by decide);
        rw [if_neg (Int.not_lt.2 y0), if_neg (Int.not_lt.2 y1), if_pos g] at h
        go_ret
        exact ⟨by simp [h], by first | rfl | trivial⟩
      · have g' : decide (0 < C 1) = false := decide_eq_false g
        go_wp2_with fail
        exact ⟨⟨3, by decide, by go_num, (by first | rfl | trivial), by intro h; exact HZ.out.1 (by decide), by intro h; exact HZ.out.2.1 (by decide), fun _ => Int.not_lt.1 g, by intro h; omega⟩, by simp [intOf]⟩
    · by_cases g : 0 < C 2
      · have g' : decide (0 < C 2) = true := decide_eq_true g
        go_wp2_with fail
        have h := HX.out
        have y0 := HZ.out.1 (by decide); have y1 := HZ.out.2.1 (by decide); have y2 := HZ.out.2.2.1 (by decide);
        rw [if_neg (Int.not_lt.2 y0), if_neg (Int.not_lt.2 y1), if_neg (Int.not_lt.2 y2), if_pos g] at h
        go_ret
        exact ⟨by simp [h], by first | rfl | trivial⟩
      · have g' : decide (0 < C 2) = false := decide_eq_false g
        go_wp2_with fail
        exact ⟨⟨4, by decide, by go_num, (by first | rfl | trivial), by intro h; exact HZ.out.1 (by decide), by intro h; exact HZ.out.2.1 (by decide), by intro h; exact HZ.out.2.2.1 (by decide), fun _ => Int.not_lt.1 g⟩, by simp [intOf]⟩
    · go_wp2_with fail
      have h := HX.out
      have y0 := HZ.out.1 (by decide); have y1 := HZ.out.2.1 (by decide); have y2 := HZ.out.2.2.1 (by decide); have y3 := HZ.out.2.2.2 (by decide);
      rw [if_neg (Int.not_lt.2 y0), if_neg (Int.not_lt.2 y1), if_neg (Int.not_lt.2 y2), if_neg (Int.not_lt.2 y3)] at h
      go_ret
      exact ⟨by simp [h], by first | rfl | trivial⟩

end Go.Proofs.Ytbjlpmjalidfkaa
