import Derived.Deep.RegionHeld3
import Derived.Deep.RegionWith
import Derived.Laws.EntriesVeiled
import Derived.RangeFuncNested
import Derived.RangeFuncBound
import Derived.RangeFuncCalls
import Derived.RangeFuncLeaves
import Derived.Shelf.Abstract
import Derived.Shelf.RegionOpen
import Derived.OwnWalkIn
import Derived.TacticsInMore
import Derived.LoopNIn
import Derived.LoopIn
import Derived.RangeFuncBox
import Derived.Maps.AppendAt
import Derived.Test.YthliahaopelooaaMg1
/- What stands at a row's beginning; a cell linked in, or out; a row that loses one, or gets one; a whole row that is another one's. -/
namespace Go.Proofs.Ythliahaopelooaa
open Go.RowKit
set_option maxHeartbeats 1000000 in
theorem start_0 (s : Spot) (C F D : Nat → Int) (w : World) (hL : Lies s C F D w) :
    Calls Try.prog 83 #[.pointer (some ⟨s.r, 0, none⟩), .int .i64 0] w fun e w' => e = .returned (.int .i64 (start0 C F)) ∧ w' = w := by
  have c0 : w.cell? ⟨s.r, 5, none⟩ = some (.int .i64 (C 0)) := hL.count 0 (by decide)
  have f0 : w.cell? ⟨s.r, 9, none⟩ = some (.int .i64 (F 0)) := hL.first 0 (by decide)
  have c1 : w.cell? ⟨s.r, 6, none⟩ = some (.int .i64 (C 1)) := hL.count 1 (by decide)
  have f1 : w.cell? ⟨s.r, 10, none⟩ = some (.int .i64 (F 1)) := hL.first 1 (by decide)
  have c2 : w.cell? ⟨s.r, 7, none⟩ = some (.int .i64 (C 2)) := hL.count 2 (by decide)
  have f2 : w.cell? ⟨s.r, 11, none⟩ = some (.int .i64 (F 2)) := hL.first 2 (by decide)
  have c3 : w.cell? ⟨s.r, 8, none⟩ = some (.int .i64 (C 3)) := hL.count 3 (by decide)
  have f3 : w.cell? ⟨s.r, 12, none⟩ = some (.int .i64 (F 3)) := hL.first 3 (by decide)
  clear hL
  unfold start0
  obtain ⟨X, hX⟩ : ∃ X, start0 C F = X := ⟨_, rfl⟩
  have hX' := hX
  unfold start0 at hX'
  rw [hX']
  have HX := Lib.hid hX'
  clear hX hX'
  go_enter Try.func83, Try.ntmps83
  go_wp2_with fail
  go_loopw [7] (fun s7 wr => ∃ i : Nat, i ≤ 4 ∧ s7 = .int .i64 i ∧ wr = w ∧ (0 < i → C 0 ≤ 0) ∧ (1 < i → C 1 ≤ 0) ∧ (2 < i → C 2 ≤ 0) ∧ (3 < i → C 3 ≤ 0)) (fun s7 _ => 4 - (intOf s7).toNat)
  case atStart => exact ⟨0, by decide, rfl, rfl, by simp, by simp, by simp, by simp⟩
  case round =>
    obtain ⟨i, hi, rfl, rfl, z0, z1, z2, z3⟩ := hrel
    have HZ := Lib.hid (And.intro z0 (And.intro z1 (And.intro z2 z3)))
    clear z0 z1 z2 z3
    obtain rfl | rfl | rfl | rfl | rfl : i = 0 ∨ i = 1 ∨ i = 2 ∨ i = 3 ∨ i = 4 := by omega
    · by_cases g : 0 < C 0
      · have g' : decide (0 < C 0) = true := decide_eq_true g
        go_wp2_with fail
        have h := HX.out
        
        rw [if_pos g] at h
        go_ret
        exact ⟨by simp [h], by first | rfl | trivial⟩
      · have g' : decide (0 < C 0) = false := decide_eq_false g
        go_wp2_with fail
        exact ⟨⟨1, by decide, by go_num, (by first | rfl | trivial), fun _ => Int.not_lt.1 g, by intro h; omega, by intro h; omega, by intro h; omega⟩, by simp [intOf]⟩
    · by_cases g : 0 < C 1
      · have g' : decide (0 < C 1) = true := decide_eq_true g
        go_wp2_with fail
        have h := HX.out
        have y0 := HZ.out.1 (by decide);
        rw [if_neg (Int.not_lt.2 y0), if_pos g] at h
        go_ret
        exact ⟨by simp [h], by first | rfl | trivial⟩
      · have g' : decide (0 < C 1) = false := decide_eq_false g
        go_wp2_with fail
        exact ⟨⟨2, by decide, by go_num, (by first | rfl | trivial), by intro h; exact HZ.out.1 (by decide), fun _ => Int.not_lt.1 g, by intro h; omega, by intro h; omega⟩, by simp [intOf]⟩
    · by_cases g : 0 < C 2
      · have g' : decide (0 < C 2) = true := decide_eq_true g
        go_wp2_with fail
        have h := HX.out
        have y0 := HZ.out.1 (by decide); have y1 := HZ.out.2.1 (by decide);
        rw [if_neg (Int.not_lt.2 y0), if_neg (Int.not_lt.2 y1), if_pos g] at h
        go_ret
        exact ⟨by simp [h], by first | rfl | trivial⟩
      · have g' : decide (0 < C 2) = false := decide_eq_false g
        go_wp2_with fail
        exact ⟨⟨3, by decide, by go_num, (by first | rfl | trivial), by intro h; exact HZ.out.1 (by decide), by intro h; exact HZ.out.2.1 (by decide), fun _ => Int.not_lt.1 g, by intro h; omega⟩, by simp [intOf]⟩
    · by_cases g : 0 < C 3
      · have g' : decide (0 < C 3) = true := decide_eq_true g
        go_wp2_with fail
        have h := HX.out
        have y0 := HZ.out.1 (by decide); have y1 := HZ.out.2.1 (by decide); have y2 := HZ.out.2.2.1 (by decide);
        rw [if_neg (Int.not_lt.2 y0), if_neg (Int.not_lt.2 y1), if_neg (Int.not_lt.2 y2), if_pos g] at h
        go_ret
        exact ⟨by simp [h], by first | rfl | trivial⟩
      · have g' : decide (0 < C 3) = false := decide_eq_false g
        go_wp2_with fail
        exact ⟨⟨4, by decide, by go_num, (by first | rfl | trivial), by intro h; exact HZ.out.1 (by decide), by intro h; exact HZ.out.2.1 (by decide), by intro h; exact HZ.out.2.2.1 (by decide), fun _ => Int.not_lt.1 g⟩, by simp [intOf]⟩
    · go_wp2_with fail
      have h := HX.out
      have y0 := HZ.out.1 (by decide); have y1 := HZ.out.2.1 (by decide); have y2 := HZ.out.2.2.1 (by decide); have y3 := HZ.out.2.2.2 (by decide);
      rw [if_neg (Int.not_lt.2 y0), if_neg (Int.not_lt.2 y1), if_neg (Int.not_lt.2 y2), if_neg (Int.not_lt.2 y3)] at h
      go_ret
      exact ⟨by simp [h], by first | rfl | trivial⟩
set_option maxHeartbeats 1000000 in
theorem start_3 (s : Spot) (C F D : Nat → Int) (w : World) (hL : Lies s C F D w) :
    Calls Try.prog 83 #[.pointer (some ⟨s.r, 0, none⟩), .int .i64 3] w fun e w' => e = .returned (.int .i64 (start3 C F)) ∧ w' = w := by
  have c0 : w.cell? ⟨s.r, 5, none⟩ = some (.int .i64 (C 0)) := hL.count 0 (by decide)
  have f0 : w.cell? ⟨s.r, 9, none⟩ = some (.int .i64 (F 0)) := hL.first 0 (by decide)
  have c1 : w.cell? ⟨s.r, 6, none⟩ = some (.int .i64 (C 1)) := hL.count 1 (by decide)
  have f1 : w.cell? ⟨s.r, 10, none⟩ = some (.int .i64 (F 1)) := hL.first 1 (by decide)
  have c2 : w.cell? ⟨s.r, 7, none⟩ = some (.int .i64 (C 2)) := hL.count 2 (by decide)
  have f2 : w.cell? ⟨s.r, 11, none⟩ = some (.int .i64 (F 2)) := hL.first 2 (by decide)
  have c3 : w.cell? ⟨s.r, 8, none⟩ = some (.int .i64 (C 3)) := hL.count 3 (by decide)
  have f3 : w.cell? ⟨s.r, 12, none⟩ = some (.int .i64 (F 3)) := hL.first 3 (by decide)
  clear hL
  unfold start3
  obtain ⟨X, hX⟩ : ∃ X, start3 C F = X := ⟨_, rfl⟩
  have hX' := hX
  unfold start3 at hX'
  rw [hX']
  have HX := Lib.hid hX'
  clear hX hX'
  go_enter Try.func83, Try.ntmps83
  go_wp2_with fail
  go_loopw [7] (fun s7 wr => ∃ i : Nat, i ≤ 4 ∧ s7 = .int .i64 i ∧ wr = w ∧ (0 < i → C 3 ≤ 0) ∧ (1 < i → C 0 ≤ 0) ∧ (2 < i → C 1 ≤ 0) ∧ (3 < i → C 2 ≤ 0)) (fun s7 _ => 4 - (intOf s7).toNat)
  case atStart => exact ⟨0, by decide, rfl, rfl, by simp, by simp, by simp, by simp⟩
  case round =>
    obtain ⟨i, hi, rfl, rfl, z0, z1, z2, z3⟩ := hrel
    have HZ := Lib.hid (And.intro z0 (And.intro z1 (And.intro z2 z3)))
    clear z0 z1 z2 z3
    obtain rfl | rfl | rfl | rfl | rfl : i = 0 ∨ i = 1 ∨ i = 2 ∨ i = 3 ∨ i = 4 := by omega
    · by_cases g : 0 < C 3
      · have g' : decide (0 < C 3) = true := decide_eq_true g
        go_wp2_with fail
        have h := HX.out
        
        rw [if_pos g] at h
        go_ret
        exact ⟨by simp [h], by first | rfl | trivial⟩
      · have g' : decide (0 < C 3) = false := decide_eq_false g
        go_wp2_with fail
        exact ⟨⟨1, by decide, by go_num, (by first | rfl | trivial), fun _ => Int.not_lt.1 g, by intro h; omega, by intro h; omega, by intro h; omega⟩, by simp [intOf]⟩
    · by_cases g : 0 < C 0
      · have g' : decide (0 < C 0) = true := decide_eq_true g
        go_wp2_with fail
        have h := HX.out
        have y0 := HZ.out.1 (by decide);
        rw [if_neg (Int.not_lt.2 y0), if_pos g] at h
        go_ret
        exact ⟨by simp [h], by first | rfl | trivial⟩
      · have g' : decide (0 < C 0) = false := decide_eq_false g
        go_wp2_with fail
        exact ⟨⟨2, by decide, by go_num, (by first | rfl | trivial), by intro h; exact HZ.out.1 (by decide), fun _ => Int.not_lt.1 g, by intro h; omega, by intro h; omega⟩, by simp [intOf]⟩
    · by_cases g : 0 < C 1
      · have g' : decide (0 < C 1) = true := decide_eq_true g
        go_wp2_with fail
        have h := HX.out
        have y0 := HZ.out.1 (by decide); have y1 := HZ.out.2.1 (by decide);
        rw [if_neg (Int.not_lt.2 y0), if_neg (Int.not_lt.2 y1), if_pos g] at h
        go_ret
        exact ⟨by simp [h], by first | rfl | trivial⟩
      · have g' : decide (0 < C 1) = false := decide_eq_false g
        go_wp2_with fail
        exact ⟨⟨3, by decide, by go_num, (by first | rfl | trivial), by intro h; exact HZ.out.1 (by decide), by intro h; exact HZ.out.2.1 (by decide), fun _ => Int.not_lt.1 g, by intro h; omega⟩, by simp [intOf]⟩
    · by_cases g : 0 < C 2
      · have g' : decide (0 < C 2) = true := decide_eq_true g
        go_wp2_with fail
        have h := HX.out
        have y0 := HZ.out.1 (by decide); have y1 := HZ.out.2.1 (by decide); have y2 := HZ.out.2.2.1 (by decide);
        rw [if_neg (Int.not_lt.2 y0), if_neg (Int.not_lt.2 y1), if_neg (Int.not_lt.2 y2), if_pos g] at h
        go_ret
        exact ⟨by simp [h], by first | rfl | trivial⟩
      · have g' : decide (0 < C 2) = false := decide_eq_false g
        go_wp2_with fail
        exact ⟨⟨4, by decide, by go_num, (by first | rfl | trivial), by intro h; exact HZ.out.1 (by decide), by intro h; exact HZ.out.2.1 (by decide), by intro h; exact HZ.out.2.2.1 (by decide), fun _ => Int.not_lt.1 g⟩, by simp [intOf]⟩
    · go_wp2_with fail
      have h := HX.out
      have y0 := HZ.out.1 (by decide); have y1 := HZ.out.2.1 (by decide); have y2 := HZ.out.2.2.1 (by decide); have y3 := HZ.out.2.2.2 (by decide);
      rw [if_neg (Int.not_lt.2 y0), if_neg (Int.not_lt.2 y1), if_neg (Int.not_lt.2 y2), if_neg (Int.not_lt.2 y3)] at h
      go_ret
      exact ⟨by simp [h], by first | rfl | trivial⟩
end Go.Proofs.Ythliahaopelooaa
/- A cell linked in, or out; a row that loses one, or gets one; a whole row that is another one's. -/
namespace Go.Proofs.Ythliahaopelooaa
open Go.RowKit
def Rng (n : Nat) (x : Int) : Prop := 1 ≤ x ∧ x + 3 ≤ n
set_option maxHeartbeats 1000000 in
theorem insert_any (s : Spot) (C F D : Nat → Int) (w : World) (hL : Lies s C F D w) (c x : Int) (hc : Rng s.n c) (hx : x = 0 ∨ (Rng s.n x ∧ Rng s.n (D (x + 2).toNat))) :
    Calls Try.prog 82 #[.pointer (some ⟨s.r, 0, none⟩), .int .i64 c, .int .i64 x] w fun e w' => e = .returned (.tuple #[]) ∧ Lies s C F (inserted D c x) w' ∧ Turn s w w' := by
  obtain ⟨D', hD⟩ : ∃ D', inserted D c x = D' := ⟨_, rfl⟩
  rw [hD]
  by_cases g : x = 0
  · subst g
    have hj := join_any s C F D w hL c c hc.1 hc.2 hc.1 hc.2
    rw [show join D c c = D' by rw [← hD]; rfl] at hj
    have HJ := Lib.hid hj
    clear hL hc hx hD hj
    go_enter Try.func82, Try.ntmps82
    go_wp2_with fail
    refine HJ.out.mono ?_
    rintro e w2 ⟨rfl, hE⟩
    have HE := Lib.hid hE
    clear hE HJ
    go_wp2_with fail
    exact bodyPost_ret (v := .tuple #[]) (by simp [results, Try.results82]) rfl ⟨rfl, HE.out⟩
  · have g' : (x == 0) = false := by simpa using g
    obtain ⟨hx1, hx2⟩ := hx.resolve_left g
    have hl := last_any s C F D w hL x hx1.1 hx1.2
    have c3 := hL.lof
    have h2 : ∀ w, Lies s C F D w → _ := fun w h => join_any s C F D w h (D (x + 2).toNat) c hx2.1 hx2.2 hc.1 hc.2
    have h3 : ∀ w, Lies s C F (join D (D (x + 2).toNat) c) w → _ := fun w h => join_any s C F _ w h c x hc.1 hc.2 hx1.1 hx1.2
    rw [show join (join D (D (x + 2).toNat) c) c x = D' by rw [← hD, inserted, if_neg g]] at h3
    have HL := Lib.hid hl
    have H2 := Lib.hid h2
    have H3 := Lib.hid h3
    generalize D (x + 2).toNat = z at HL H2 H3
    clear hL hc hx hD hx1 hx2 hl h2 h3 g
    go_enter Try.func82, Try.ntmps82
    go_wp2_with fail
    refine HL.out.mono ?_
    rintro e w2 ⟨rfl, hL2, hq2⟩
    have HL2 := Lib.hid hL2
    have HQ2 := Lib.hid hq2
    clear hL2 hq2 HL c3
    go_wp2_with fail
    refine (H2.out w2 HL2.out).mono ?_
    rintro e w3 ⟨rfl, hL3, hq3⟩
    have HL3 := Lib.hid hL3
    have HQ3 := Lib.hid (HQ2.out.trans hq3)
    clear hL3 hq3 HL2 HQ2
    go_wp2_with fail
    refine (H3.out w3 HL3.out).mono ?_
    rintro e w4 ⟨rfl, hL4, hq4⟩
    have HE := Lib.hid (And.intro hL4 (HQ3.out.trans hq4))
    clear hL4 hq4 HL3 HQ3
    go_wp2_with fail
    go_end0
    exact ⟨rfl, HE.out⟩
theorem keep_two {s : Spot} {C F D : Nat → Int} {w : World} (h : Lies s C F D w) : w.cell? ⟨s.r, 3, none⟩ = some (.func (.func 97) #[] #[.pointer (some ⟨s.a2, 0, none⟩), .pointer (some ⟨s.n2, 0, none⟩)]) ∧ w.cell? ⟨s.r, 1, none⟩ = some (.func (.func 97) #[] #[.pointer (some ⟨s.a1, 0, none⟩), .pointer (some ⟨s.n1, 0, none⟩)]) := ⟨h.lof, h.nof⟩
theorem keep_one {s : Spot} {C F D : Nat → Int} {w : World} (h : Lies s C F D w) : w.cell? ⟨s.r, 1, none⟩ = some (.func (.func 97) #[] #[.pointer (some ⟨s.a1, 0, none⟩), .pointer (some ⟨s.n1, 0, none⟩)]) := h.nof
set_option maxHeartbeats 4000000 in
theorem remove_any (s : Spot) (C F D : Nat → Int) (w : World) (hL : Lies s C F D w) (c : Int) (hc : Rng s.n c) (h1 : Rng s.n (D (c + 1).toNat)) (h2 : Rng s.n (D (c + 2).toNat)) :
    Calls Try.prog 81 #[.pointer (some ⟨s.r, 0, none⟩), .int .i64 c] w fun e w' => e = .returned (.tuple #[]) ∧ Lies s C F (removed D c) w' ∧ Turn s w w' := by
  obtain ⟨D', hD⟩ : ∃ D', removed D c = D' := ⟨_, rfl⟩
  rw [hD]
  have hn : ∀ w, Lies s C F D w → _ := fun w h => next_any s C F D w h c hc.1 hc.2
  have hl : ∀ w, Lies s C F D w → _ := fun w h => last_any s C F D w h c hc.1 hc.2
  have hj : ∀ w, Lies s C F D w → _ := fun w h => join_any s C F D w h (D (c + 2).toNat) (D (c + 1).toNat) h2.1 h2.2 h1.1 h1.2
  rw [show join D (D (c + 2).toNat) (D (c + 1).toNat) = D' from hD] at hj
  generalize D (c + 2).toNat = z at *
  generalize D (c + 1).toNat = y at *
  obtain ⟨c3, c1⟩ := keep_two hL
  have HN := Lib.hid hn
  have HL := Lib.hid hl
  have HJ := Lib.hid hj
  have H0 := Lib.hid (And.intro hL.drew (Turn.of_below (s := s) (Below.refl w.heap.size w).drew))
  clear hL hc hD h1 h2 hn hl hj
  go_enter Try.func81, Try.ntmps81
  go_wp2_with fail
  go_region_held3 (fun W' => W'.cell? ⟨s.r, 3, none⟩ = some (.func (.func 97) #[] #[.pointer (some ⟨s.a2, 0, none⟩), .pointer (some ⟨s.n2, 0, none⟩)]) ∧ W'.cell? ⟨s.r, 1, none⟩ = some (.func (.func 97) #[] #[.pointer (some ⟨s.a1, 0, none⟩), .pointer (some ⟨s.n1, 0, none⟩)]))
    (first
      | assumption
      | exact keep_two hk9
      | exact keep_two H0.out.1)
    (first
      | (go_at_call 97; refine (HL.out _ H0.out.1).mono ?_; rintro e w2 ⟨rfl, hk9, hq2⟩; have H2 := Lib.hid (And.intro hk9 (H0.out.2.trans hq2)); clear HL hq2)
      | (go_at_call 97; refine (HN.out _ H2.out.1).mono ?_; rintro e w3 ⟨rfl, hk9, hq3⟩; have H3 := Lib.hid (And.intro hk9 (H2.out.2.trans hq3)); clear HN hq3)
      | (go_at_call 96; refine (HJ.out _ H3.out.1).mono ?_; rintro e w4 ⟨rfl, hk9, hq4⟩; have H4 := Lib.hid (And.intro hk9 (H3.out.2.trans hq4)); clear hq4))
  go_wp2_with fail
  go_end0
  exact ⟨rfl, H4.out⟩
set_option maxHeartbeats 4000000 in
theorem leave_0 (s : Spot) (C F D : Nat → Int) (w : World) (hL : Lies s C F D w) (c : Int) (hc : Rng s.n c) (h0 : 0 ≤ C 0) (h1 : C 0 ≤ 1000) :
    Calls Try.prog 80 #[.pointer (some ⟨s.r, 0, none⟩), .int .i64 c, .int .i64 0] w fun e w' => e = .returned (.tuple #[]) ∧ Lies s (upd C 0 (C 0 - 1)) (leftF D F c 0) D w' ∧ Turn s w w' := by
  have c0 : w.cell? ⟨s.r, 5, none⟩ = some (.int .i64 (C 0)) := hL.count 0 (by decide)
  have f0 : w.cell? ⟨s.r, 9, none⟩ = some (.int .i64 (F 0)) := hL.first 0 (by decide)
  have z5 := hL.fz 5
  have z9 := hL.fz 9
  have c1' := hL.nof
  have hw : IntKind.i64.wrap (C 0 - 1) = C 0 - 1 := by rw [IntKind.wrap_i64]; omega
  have H1 := Lib.hid (And.intro (hL.setCount 0 (C 0 - 1) (by decide)).drew ((Turn.setR s 5 (.int .i64 (C 0 - 1)) w).then (c := (w.setCell ⟨s.r, 5, none⟩ (.int .i64 (C 0 - 1))).drew) (Below.refl _ _).drew))
  by_cases g : F 0 = c
  · have hF : leftF D F c 0 = upd F 0 (D (c + 1).toNat) := if_pos g
    rw [hF]
    subst g
    have hn : ∀ C w, Lies s C F D w → _ := fun C w h => next_any s C F D w h (F 0) hc.1 hc.2
    have HN := Lib.hid hn
    generalize hV : upd C 0 (C 0 - 1) = C' at H1
    generalize D (F 0 + 1).toNat = y at HN
    clear hL hF hc hn
    go_enter Try.func80, Try.ntmps80
    go_wp2_with fail
    go_region
    go_wp2_with fail
    have H2 := Lib.hid (And.intro H1.out.1.drew (H1.out.2.then (Below.refl _ _).drew))
    go_region_held3 (fun W' => W'.cell? ⟨s.r, 1, none⟩ = some (.func (.func 97) #[] #[.pointer (some ⟨s.a1, 0, none⟩), .pointer (some ⟨s.n1, 0, none⟩)]))
      (first
        | assumption
        | exact keep_one (H3.out.1.setFirst 0 y (by decide))
        | exact keep_one hk9
        | exact keep_one H1.out.1.drew)
      (first
        | (go_at_call 97; refine (HN.out C' _ H2.out.1).mono ?_; rintro e w2 ⟨rfl, hk9, hq2⟩; have H3 := Lib.hid (And.intro hk9 (H2.out.2.trans hq2)); have f9 : w2.cell? ⟨s.r, 9, none⟩ = some (.int .i64 (F 0)) := hk9.first 0 (by decide); have z9 := hk9.fz 9; clear HN hq2))
    have H4 := Lib.hid (And.intro (H3.out.1.setFirst 0 y (by decide)) (H3.out.2.trans (Turn.setR s 9 (.int .i64 y) _)))
    go_wp2_with fail
    go_end0
    exact ⟨rfl, H4.out⟩
  · have hF : leftF D F c 0 = F := if_neg g
    rw [hF]
    have g' : (F 0 == c) = false := by simpa using g
    generalize hV : upd C 0 (C 0 - 1) = C' at H1
    clear hL hF hc
    go_enter Try.func80, Try.ntmps80
    go_wp2_with fail
    go_region
    go_wp2_with fail
    go_end0
    exact ⟨rfl, H1.out⟩
set_option maxHeartbeats 4000000 in
theorem leave_1 (s : Spot) (C F D : Nat → Int) (w : World) (hL : Lies s C F D w) (c : Int) (hc : Rng s.n c) (h0 : 0 ≤ C 1) (h1 : C 1 ≤ 1000) :
    Calls Try.prog 80 #[.pointer (some ⟨s.r, 0, none⟩), .int .i64 c, .int .i64 1] w fun e w' => e = .returned (.tuple #[]) ∧ Lies s (upd C 1 (C 1 - 1)) (leftF D F c 1) D w' ∧ Turn s w w' := by
  have c1 : w.cell? ⟨s.r, 6, none⟩ = some (.int .i64 (C 1)) := hL.count 1 (by decide)
  have f1 : w.cell? ⟨s.r, 10, none⟩ = some (.int .i64 (F 1)) := hL.first 1 (by decide)
  have z6 := hL.fz 6
  have z10 := hL.fz 10
  have c1' := hL.nof
  have hw : IntKind.i64.wrap (C 1 - 1) = C 1 - 1 := by rw [IntKind.wrap_i64]; omega
  have H1 := Lib.hid (And.intro (hL.setCount 1 (C 1 - 1) (by decide)).drew ((Turn.setR s 6 (.int .i64 (C 1 - 1)) w).then (c := (w.setCell ⟨s.r, 6, none⟩ (.int .i64 (C 1 - 1))).drew) (Below.refl _ _).drew))
  by_cases g : F 1 = c
  · have hF : leftF D F c 1 = upd F 1 (D (c + 1).toNat) := if_pos g
    rw [hF]
    subst g
    have hn : ∀ C w, Lies s C F D w → _ := fun C w h => next_any s C F D w h (F 1) hc.1 hc.2
    have HN := Lib.hid hn
    generalize hV : upd C 1 (C 1 - 1) = C' at H1
    generalize D (F 1 + 1).toNat = y at HN
    clear hL hF hc hn
    go_enter Try.func80, Try.ntmps80
    go_wp2_with fail
    go_region
    go_wp2_with fail
    have H2 := Lib.hid (And.intro H1.out.1.drew (H1.out.2.then (Below.refl _ _).drew))
    go_region_held3 (fun W' => W'.cell? ⟨s.r, 1, none⟩ = some (.func (.func 97) #[] #[.pointer (some ⟨s.a1, 0, none⟩), .pointer (some ⟨s.n1, 0, none⟩)]))
      (first
        | assumption
        | exact keep_one (H3.out.1.setFirst 1 y (by decide))
        | exact keep_one hk9
        | exact keep_one H1.out.1.drew)
      (first
        | (go_at_call 97; refine (HN.out C' _ H2.out.1).mono ?_; rintro e w2 ⟨rfl, hk9, hq2⟩; have H3 := Lib.hid (And.intro hk9 (H2.out.2.trans hq2)); have f9 : w2.cell? ⟨s.r, 10, none⟩ = some (.int .i64 (F 1)) := hk9.first 1 (by decide); have z9 := hk9.fz 10; clear HN hq2))
    have H4 := Lib.hid (And.intro (H3.out.1.setFirst 1 y (by decide)) (H3.out.2.trans (Turn.setR s 10 (.int .i64 y) _)))
    go_wp2_with fail
    go_end0
    exact ⟨rfl, H4.out⟩
  · have hF : leftF D F c 1 = F := if_neg g
    rw [hF]
    have g' : (F 1 == c) = false := by simpa using g
    generalize hV : upd C 1 (C 1 - 1) = C' at H1
    clear hL hF hc
    go_enter Try.func80, Try.ntmps80
    go_wp2_with fail
    go_region
    go_wp2_with fail
    go_end0
    exact ⟨rfl, H1.out⟩
set_option maxHeartbeats 4000000 in
theorem enterFirst_0 (s : Spot) (C F D : Nat → Int) (w : World) (hL : Lies s C F D w) (c : Int) (h0 : 0 ≤ C 0) (h1 : C 0 ≤ 1000) :
    Calls Try.prog 102 #[.pointer (some ⟨s.r, 0, none⟩), .int .i64 c, .int .i64 0] w fun e w' => e = .returned (.tuple #[]) ∧ Lies s (upd C 0 (C 0 + 1)) (upd F 0 c) D w' ∧ Turn s w w' := by
  have c0 : w.cell? ⟨s.r, 5, none⟩ = some (.int .i64 (C 0)) := hL.count 0 (by decide)
  have f0 : w.cell? ⟨s.r, 9, none⟩ = some (.int .i64 (F 0)) := hL.first 0 (by decide)
  have z5 := hL.fz 5
  have z9 := hL.fz 9
  have hw : IntKind.i64.wrap (C 0 + 1) = C 0 + 1 := by rw [IntKind.wrap_i64]; omega
  have H1 := Lib.hid (And.intro ((hL.setFirst 0 c (by decide)).setCount 0 (C 0 + 1) (by decide)).drew (((Turn.setR s 9 (.int .i64 c) w).trans (Turn.setR s 5 (.int .i64 (C 0 + 1)) _)).then (c := ((w.setCell ⟨s.r, 9, none⟩ (.int .i64 c)).setCell ⟨s.r, 5, none⟩ (.int .i64 (C 0 + 1))).drew) (Below.refl _ _).drew))
  generalize hV : upd C 0 (C 0 + 1) = C' at H1
  generalize hG : upd F 0 c = F' at H1
  clear hL
  go_enter Try.func102, Try.ntmps102
  go_wp2_with fail
  go_region
  go_wp2_with fail
  go_end0
  exact ⟨rfl, H1.out⟩
set_option maxHeartbeats 4000000 in
theorem enterLast_2 (s : Spot) (C F D : Nat → Int) (w : World) (hL : Lies s C F D w) (c : Int) (h0 : 0 ≤ C 2) (h1 : C 2 ≤ 1000) :
    Calls Try.prog 84 #[.pointer (some ⟨s.r, 0, none⟩), .int .i64 c, .int .i64 2] w fun e w' => e = .returned (.tuple #[]) ∧ Lies s (upd C 2 (C 2 + 1)) (lastF C F c 2) D w' ∧ Turn s w w' := by
  have c2 : w.cell? ⟨s.r, 7, none⟩ = some (.int .i64 (C 2)) := hL.count 2 (by decide)
  have f2 : w.cell? ⟨s.r, 11, none⟩ = some (.int .i64 (F 2)) := hL.first 2 (by decide)
  have z7 := hL.fz 7
  have z11 := hL.fz 11
  have hw : IntKind.i64.wrap (C 2 + 1) = C 2 + 1 := by rw [IntKind.wrap_i64]; omega
  by_cases g : C 2 = 0
  · have hF : lastF C F c 2 = upd F 2 c := if_pos g
    rw [hF]
    have g' : (C 2 == 0) = true := by simpa using g
    have H1 := Lib.hid (And.intro ((hL.setFirst 2 c (by decide)).setCount 2 (C 2 + 1) (by decide)).drew (((Turn.setR s 11 (.int .i64 c) w).trans (Turn.setR s 7 (.int .i64 (C 2 + 1)) _)).then (c := ((w.setCell ⟨s.r, 11, none⟩ (.int .i64 c)).setCell ⟨s.r, 7, none⟩ (.int .i64 (C 2 + 1))).drew) (Below.refl _ _).drew))
    generalize hV : upd C 2 (C 2 + 1) = C' at H1
    generalize hG : upd F 2 c = F' at H1
    clear hL hF g
    go_enter Try.func84, Try.ntmps84
    go_wp2_with fail
    go_region
    go_wp2_with fail
    go_end0
    exact ⟨rfl, H1.out⟩
  · have hF : lastF C F c 2 = F := if_neg g
    rw [hF]
    have g' : (C 2 == 0) = false := by simpa using g
    have H1 := Lib.hid (And.intro (hL.setCount 2 (C 2 + 1) (by decide)).drew ((Turn.setR s 7 (.int .i64 (C 2 + 1)) w).then (c := (w.setCell ⟨s.r, 7, none⟩ (.int .i64 (C 2 + 1))).drew) (Below.refl _ _).drew))
    generalize hV : upd C 2 (C 2 + 1) = C' at H1
    clear hL hF g
    go_enter Try.func84, Try.ntmps84
    go_wp2_with fail
    go_region
    go_wp2_with fail
    go_end0
    exact ⟨rfl, H1.out⟩
set_option maxHeartbeats 4000000 in
theorem enterLast_3 (s : Spot) (C F D : Nat → Int) (w : World) (hL : Lies s C F D w) (c : Int) (h0 : 0 ≤ C 3) (h1 : C 3 ≤ 1000) :
    Calls Try.prog 84 #[.pointer (some ⟨s.r, 0, none⟩), .int .i64 c, .int .i64 3] w fun e w' => e = .returned (.tuple #[]) ∧ Lies s (upd C 3 (C 3 + 1)) (lastF C F c 3) D w' ∧ Turn s w w' := by
  have c3 : w.cell? ⟨s.r, 8, none⟩ = some (.int .i64 (C 3)) := hL.count 3 (by decide)
  have f3 : w.cell? ⟨s.r, 12, none⟩ = some (.int .i64 (F 3)) := hL.first 3 (by decide)
  have z8 := hL.fz 8
  have z12 := hL.fz 12
  have hw : IntKind.i64.wrap (C 3 + 1) = C 3 + 1 := by rw [IntKind.wrap_i64]; omega
  by_cases g : C 3 = 0
  · have hF : lastF C F c 3 = upd F 3 c := if_pos g
    rw [hF]
    have g' : (C 3 == 0) = true := by simpa using g
    have H1 := Lib.hid (And.intro ((hL.setFirst 3 c (by decide)).setCount 3 (C 3 + 1) (by decide)).drew (((Turn.setR s 12 (.int .i64 c) w).trans (Turn.setR s 8 (.int .i64 (C 3 + 1)) _)).then (c := ((w.setCell ⟨s.r, 12, none⟩ (.int .i64 c)).setCell ⟨s.r, 8, none⟩ (.int .i64 (C 3 + 1))).drew) (Below.refl _ _).drew))
    generalize hV : upd C 3 (C 3 + 1) = C' at H1
    generalize hG : upd F 3 c = F' at H1
    clear hL hF g
    go_enter Try.func84, Try.ntmps84
    go_wp2_with fail
    go_region
    go_wp2_with fail
    go_end0
    exact ⟨rfl, H1.out⟩
  · have hF : lastF C F c 3 = F := if_neg g
    rw [hF]
    have g' : (C 3 == 0) = false := by simpa using g
    have H1 := Lib.hid (And.intro (hL.setCount 3 (C 3 + 1) (by decide)).drew ((Turn.setR s 8 (.int .i64 (C 3 + 1)) w).then (c := (w.setCell ⟨s.r, 8, none⟩ (.int .i64 (C 3 + 1))).drew) (Below.refl _ _).drew))
    generalize hV : upd C 3 (C 3 + 1) = C' at H1
    clear hL hF g
    go_enter Try.func84, Try.ntmps84
    go_wp2_with fail
    go_region
    go_wp2_with fail
    go_end0
    exact ⟨rfl, H1.out⟩
set_option maxHeartbeats 4000000 in
theorem recolour_31 (s : Spot) (C F D : Nat → Int) (w : World) (hL : Lies s C F D w) (h0 : 0 ≤ C 3) (h1 : C 3 ≤ 1000) (h2 : 0 ≤ C 1) (h3 : C 1 ≤ 1000) :
    Calls Try.prog 66 #[.pointer (some ⟨s.r, 0, none⟩), .int .i64 3, .int .i64 1] w fun e w' => e = .returned (.tuple #[]) ∧ Lies s (upd (upd C 1 (C 1 + C 3)) 3 0) (lastF C F (F 3) 1) D w' ∧ Turn s w w' := by
  have c3 : w.cell? ⟨s.r, 8, none⟩ = some (.int .i64 (C 3)) := hL.count 3 (by decide)
  have c1 : w.cell? ⟨s.r, 6, none⟩ = some (.int .i64 (C 1)) := hL.count 1 (by decide)
  have f3 : w.cell? ⟨s.r, 12, none⟩ = some (.int .i64 (F 3)) := hL.first 3 (by decide)
  have f1 : w.cell? ⟨s.r, 10, none⟩ = some (.int .i64 (F 1)) := hL.first 1 (by decide)
  have z8 := hL.fz 8
  have z6 := hL.fz 6
  have z12 := hL.fz 12
  have z10 := hL.fz 10
  have hw : IntKind.i64.wrap (C 1 + C 3) = C 1 + C 3 := by rw [IntKind.wrap_i64]; omega
  by_cases g : C 1 = 0
  · have hF : lastF C F (F 3) 1 = upd F 1 (F 3) := if_pos g
    rw [hF]
    have g' : (C 1 == 0) = true := by simpa using g
    have H1 := Lib.hid (And.intro (((hL.setFirst 1 (F 3) (by decide)).setCount 1 (C 1 + C 3) (by decide)).setCount 3 0 (by decide)).drew.drew ((((Turn.setR s 10 (.int .i64 (F 3)) w).trans (Turn.setR s 6 (.int .i64 (C 1 + C 3)) _)).trans (Turn.setR s 8 (.int .i64 0) _)).then (c := (((w.setCell ⟨s.r, 10, none⟩ (.int .i64 (F 3))).setCell ⟨s.r, 6, none⟩ (.int .i64 (C 1 + C 3))).setCell ⟨s.r, 8, none⟩ (.int .i64 0)).drew.drew) (Below.refl _ _).drew.drew))
    generalize hV : upd (upd C 1 (C 1 + C 3)) 3 0 = C' at H1
    generalize hG : upd F 1 (F 3) = F' at H1
    clear hL hF g
    go_enter Try.func66, Try.ntmps66
    go_wp2_with fail
    go_region
    go_wp2_with fail
    go_region
    go_wp2_with fail
    go_end0
    exact ⟨rfl, H1.out⟩
  · have hF : lastF C F (F 3) 1 = F := if_neg g
    rw [hF]
    have g' : (C 1 == 0) = false := by simpa using g
    have H1 := Lib.hid (And.intro ((hL.setCount 1 (C 1 + C 3) (by decide)).setCount 3 0 (by decide)).drew (((Turn.setR s 6 (.int .i64 (C 1 + C 3)) w).trans (Turn.setR s 8 (.int .i64 0) _)).then (c := ((w.setCell ⟨s.r, 6, none⟩ (.int .i64 (C 1 + C 3))).setCell ⟨s.r, 8, none⟩ (.int .i64 0)).drew) (Below.refl _ _).drew))
    generalize hV : upd (upd C 1 (C 1 + C 3)) 3 0 = C' at H1
    clear hL hF g
    go_enter Try.func66, Try.ntmps66
    go_wp2_with fail
    go_region
    go_wp2_with fail
    go_end0
    exact ⟨rfl, H1.out⟩
end Go.Proofs.Ythliahaopelooaa
/- A ring by its rows: what each call tells, and which rows are there behind it. -/
namespace Go.Proofs.Ythliahaopelooaa
open Go.RowKit
/-- A RING, BY ITS ROWS. -/
def Ring (s : Spot) (R : Rows) (w : World) : Prop := ∃ C F D, Lies s C F D w ∧ Inv s.n D C F R
theorem Ring.later {s : Spot} {R : Rows} {w w' : World} (h : Ring s R w) (hb : Below w.heap.size w w') : Ring s R w' := by
  obtain ⟨C, F, D, h1, h2⟩ := h
  exact ⟨C, F, D, h1.later hb, h2⟩
section
variable {n : Nat} {D C F : Nat → Int} {R : Rows}
theorem Inv.b0 (h : Inv n D C F R) : 0 ≤ C 0 ∧ C 0 ≤ 1000 := by
  have := h.small
  have := h.c0
  simp [Rows.all] at *
  omega
theorem Inv.b1 (h : Inv n D C F R) : 0 ≤ C 1 ∧ C 1 ≤ 1000 := by
  have := h.small
  have := h.c1
  simp [Rows.all] at *
  omega
theorem Inv.b2 (h : Inv n D C F R) : 0 ≤ C 2 ∧ C 2 ≤ 1000 := by
  have := h.small
  have := h.c2
  simp [Rows.all] at *
  omega
theorem Inv.b3 (h : Inv n D C F R) : 0 ≤ C 3 ∧ C 3 ≤ 1000 := by
  have := h.small
  have := h.c3
  simp [Rows.all] at *
  omega
theorem Inv.rng (h : Inv n D C F R) {x : Int} (hx : x ∈ R.all) : Rng n x := h.fit.rng x hx
end
theorem rng_around {D : Nat → Int} {n : Nat} {c : Int} {l : List Int} (hc : Cyc D (c :: l)) (hf : Fit n (c :: l)) : Rng n (D (c + 1).toNat) ∧ Rng n (D (c + 2).toNat) := by
  cases l with
  | nil =>
    rw [(cyc_one hc).1, (cyc_one hc).2]
    exact ⟨hf.rng c (by simp), hf.rng c (by simp)⟩
  | cons y l =>
    obtain ⟨z, hz, e, _⟩ := cyc_remove hc hf
    rw [cyc_next hc, e]
    exact ⟨hf.rng y (by simp), hf.rng z (List.mem_cons_of_mem _ hz)⟩
theorem rng_head {D : Nat → Int} {n : Nat} {l : List Int} (hc : Cyc D l) (hf : Fit n l) : l.headD 0 = 0 ∨ (Rng n (l.headD 0) ∧ Rng n (D (l.headD 0 + 2).toNat)) := by
  cases l with
  | nil => exact Or.inl rfl
  | cons x l => exact Or.inr ⟨hf.rng x (by simp), (rng_around hc hf).2⟩
set_option maxHeartbeats 1000000 in
theorem ring_alloc_full (s : Spot) (R : Rows) (w : World) (hR : Ring s R w) (hW : R.white = []) :
    Calls Try.prog 91 #[.pointer (some ⟨s.r, 0, none⟩)] w fun e w' => e = .returned (.tuple #[.int .i64 0, .int .i64 2]) ∧ w' = w := by
  obtain ⟨C, F, D, hL, hI⟩ := hR
  have e0 : C 0 = 0 := by rw [hI.c0, hW]; rfl
  have c0 : w.cell? ⟨s.r, 5, none⟩ = some (.int .i64 (C 0)) := hL.count 0 (by decide)
  rw [e0] at c0
  clear hL hI
  go_enter Try.func91, Try.ntmps91
  go_wp2_with fail
  go_ret2
  exact ⟨rfl, rfl⟩
set_option maxHeartbeats 1000000 in
theorem ring_counts (s : Spot) (R : Rows) (w : World) (hR : Ring s R w) :
    Calls Try.prog 65 #[.pointer (some ⟨s.r, 0, none⟩)] w fun e w' => e = .returned (.agg #[.int .i64 R.white.length, .int .i64 R.frm.length, .int .i64 R.grey.length, .int .i64 R.black.length]) ∧ Below w.heap.size w w' := by
  obtain ⟨C, F, D, hL, hI⟩ := hR
  have c0 : w.cell? ⟨s.r, 5, none⟩ = some (.int .i64 (C 0)) := hL.count 0 (by decide)
  have c1 : w.cell? ⟨s.r, 6, none⟩ = some (.int .i64 (C 1)) := hL.count 1 (by decide)
  have c2 : w.cell? ⟨s.r, 7, none⟩ = some (.int .i64 (C 2)) := hL.count 2 (by decide)
  have c3 : w.cell? ⟨s.r, 8, none⟩ = some (.int .i64 (C 3)) := hL.count 3 (by decide)
  rw [hI.c0] at c0
  rw [hI.c1] at c1
  rw [hI.c2] at c2
  rw [hI.c3] at c3
  have lr := hL.lr
  have hne : s.r ≠ w.heap.size := by omega
  clear hL hI
  go_enter Try.func65, Try.ntmps65
  go_wp2_with fail
  refine bodyPost_ret (v := .agg #[.int .i64 R.white.length, .int .i64 R.frm.length, .int .i64 R.grey.length, .int .i64 R.black.length]) (by simp [results, Try.results65, go_sem]) rfl ⟨rfl, ?_⟩
  exact (Below.refl _ _).alloc (Nat.le_refl _) _
end Go.Proofs.Ythliahaopelooaa
/- A ring by its rows and its arena's words: which words a call leaves as they are. -/
namespace Go.Proofs.Ythliahaopelooaa
open Go.RowKit
/-- The words that are a ring's links. -/
def Links (R : Rows) (j : Nat) : Prop := ∃ x, x ∈ R.all ∧ ((j : Int) = x + 1 ∨ (j : Int) = x + 2)
/-- No other word has turned. -/
def SameBut (R : Rows) (D D' : Nat → Int) : Prop := ∀ j, ¬ Links R j → D' j = D j
theorem SameBut.refl (R : Rows) (D : Nat → Int) : SameBut R D D := fun _ _ => rfl
theorem SameBut.trans {R : Rows} {a b c : Nat → Int} (h : SameBut R a b) (k : SameBut R b c) : SameBut R a c := fun j hj => (k j hj).trans (h j hj)
theorem same_join {D : Nat → Int} {a b : Int} {j : Nat} (ha : 0 ≤ a) (hb : 0 ≤ b) (h1 : (j : Int) ≠ a + 1) (h2 : (j : Int) ≠ b + 2) : join D a b j = D j := by
  unfold join put
  rw [if_neg (by omega), if_neg (by omega)]
theorem same_inserted {D : Nat → Int} {n : Nat} {c : Int} {l : List Int} {R : Rows} (hc : Cyc D l) (hf : Fit n (c :: l)) (hR : ∀ x, x ∈ c :: l → x ∈ R.all) : SameBut R D (inserted D c (l.headD 0)) := by
  intro j hj
  have hn : ∀ x, x ∈ c :: l → (j : Int) ≠ x + 1 ∧ (j : Int) ≠ x + 2 := fun x hx => ⟨fun e => hj ⟨x, hR x hx, Or.inl e⟩, fun e => hj ⟨x, hR x hx, Or.inr e⟩⟩
  have hr : ∀ x, x ∈ c :: l → 0 ≤ x := fun x hx => by have := hf.rng x hx; omega
  have c1 := hn c (by simp)
  have c0 := hr c (by simp)
  cases l with
  | nil =>
    simp only [List.headD_nil, inserted]
    exact same_join c0 c0 c1.1 c1.2
  | cons x l =>
    obtain ⟨z, hz, e, -⟩ := cyc_insert hc hf
    have x0 := hf.rng x (by simp)
    have z0 := hr z (List.mem_cons_of_mem _ hz)
    have z1 := hn z (List.mem_cons_of_mem _ hz)
    have x1 := hn x (by simp)
    have hx : ¬ x = 0 := by omega
    have ei : inserted D c x = join (join D (D (x + 2).toNat) c) c x := if_neg hx
    rw [List.headD_cons, ei, e, same_join c0 (by omega) c1.1 x1.2, same_join z0 c0 z1.1 c1.2]
theorem same_removed {D : Nat → Int} {n : Nat} {c : Int} {l : List Int} {R : Rows} (hc : Cyc D (c :: l)) (hf : Fit n (c :: l)) (hR : ∀ x, x ∈ c :: l → x ∈ R.all) : SameBut R D (removed D c) := by
  intro j hj
  have hn : ∀ x, x ∈ c :: l → (j : Int) ≠ x + 1 ∧ (j : Int) ≠ x + 2 := fun x hx => ⟨fun e => hj ⟨x, hR x hx, Or.inl e⟩, fun e => hj ⟨x, hR x hx, Or.inr e⟩⟩
  have hr : ∀ x, x ∈ c :: l → 0 ≤ x := fun x hx => by have := hf.rng x hx; omega
  cases l with
  | nil =>
    have c1 := hn c (by simp)
    have c0 := hr c (by simp)
    unfold removed
    rw [(cyc_one hc).1, (cyc_one hc).2]
    exact same_join c0 c0 c1.1 c1.2
  | cons y l =>
    obtain ⟨z, hz, e, -⟩ := cyc_remove hc hf
    have z0 := hr z (List.mem_cons_of_mem _ hz)
    have z1 := hn z (List.mem_cons_of_mem _ hz)
    have y0 := hr y (by simp)
    have y1 := hn y (by simp)
    unfold removed
    rw [cyc_next hc, e]
    exact same_join z0 y0 z1.1 y1.2
/-- A RING, BY ITS ROWS AND ITS ARENA's WORDS. -/
def RingD (s : Spot) (R : Rows) (D : Nat → Int) (w : World) : Prop := ∃ C F, Lies s C F D w ∧ Inv s.n D C F R
theorem RingD.ring {s : Spot} {R : Rows} {D : Nat → Int} {w : World} (h : RingD s R D w) : Ring s R w := by
  obtain ⟨C, F, h1, h2⟩ := h
  exact ⟨C, F, D, h1, h2⟩
theorem RingD.later {s : Spot} {R : Rows} {D : Nat → Int} {w w' : World} (h : RingD s R D w) (hb : Below w.heap.size w w') : RingD s R D w' := by
  obtain ⟨C, F, h1, h2⟩ := h
  exact ⟨C, F, h1.later hb, h2⟩
theorem RingD.fit {s : Spot} {R : Rows} {D : Nat → Int} {w : World} (h : RingD s R D w) : Fit s.n R.all := by
  obtain ⟨C, F, h1, h2⟩ := h
  exact h2.fit
theorem RingD.at {s : Spot} {R : Rows} {D : Nat → Int} {w : World} (h : RingD s R D w) : ∃ u, At w s.p s.d s.n D u := by
  obtain ⟨C, F, h1, h2⟩ := h
  exact h1.words
/-- A ring's links alone tell of it: whatever else turns in the arena. -/
theorem cyc_same {D D' : Nat → Int} {l : List Int} (hr : ∀ x, x ∈ l → 0 ≤ x) (hD : ∀ x, x ∈ l → D' (x + 1).toNat = D (x + 1).toNat ∧ D' (x + 2).toNat = D (x + 2).toNat) (hc : Cyc D l) : Cyc D' l := by
  have key : ∀ m : List Int, (∀ x, x ∈ m → x ∈ l) → Chain D m → Chain D' m := by
    intro m
    induction m with
    | nil => exact fun _ h => h
    | cons x m ih =>
      intro hm hC
      cases m with
      | nil => trivial
      | cons y m =>
        refine ⟨⟨(hD x (hm x (by simp))).1.trans hC.1.1, (hD y (hm y (by simp))).2.trans hC.1.2⟩, ih (fun z hz => hm z (List.mem_cons_of_mem _ hz)) hC.2⟩
  cases l with
  | nil => trivial
  | cons x l => exact key _ (fun z hz => by simp only [List.mem_cons, List.mem_append, List.not_mem_nil, or_false] at hz ⊢; rcases hz with h | h | h <;> simp [h]) hc
/-- A ring's struct and its closures' boxes stand, its arena lies anew: so it lies on. -/
theorem Lies.anew {s : Spot} {C F D D' : Nat → Int} {w w' : World} (h : Lies s C F D w) (_ : w.heap.size ≤ w'.heap.size) (hk : ∀ b, b = s.r ∨ b = s.a1 ∨ b = s.n1 ∨ b = s.a2 ∨ b = s.n2 → w'.heap[b]? = w.heap[b]?) (hA : ∃ u, At w' s.p s.d s.n D' u) : Lies s C F D' w' := by
  have o : ∀ b j v, (b = s.r ∨ b = s.a1 ∨ b = s.n1 ∨ b = s.a2 ∨ b = s.n2) → w.cell? ⟨b, j, none⟩ = some v → w'.cell? ⟨b, j, none⟩ = some v := fun b j v hb hv => (World.cell?_of_block (w := w) (hk b hb)).trans hv
  exact ⟨o _ _ _ (by simp) h.arena, o _ _ _ (by simp) h.nof, o _ _ _ (by simp) h.nset, o _ _ _ (by simp) h.lof, o _ _ _ (by simp) h.lset, fun k g => o _ _ _ (by simp) (h.count k g), fun k g => o _ _ _ (by simp) (h.first k g),
    fun j => (World.frozen?_of_block (w := w) (hk _ (by simp))).trans (h.fz j), o _ _ _ (by simp) h.ba1, o _ _ _ (by simp) h.bn1, o _ _ _ (by simp) h.ba2, o _ _ _ (by simp) h.bn2, hA, h.nb, h.rp, h.rd, h.a1', h.n1', h.a2', h.n2'⟩
theorem RingD.anew {s : Spot} {R : Rows} {D D' : Nat → Int} {w w' : World} (h : RingD s R D w) (hs : w.heap.size ≤ w'.heap.size) (hk : ∀ b, b = s.r ∨ b = s.a1 ∨ b = s.n1 ∨ b = s.a2 ∨ b = s.n2 → w'.heap[b]? = w.heap[b]?) (hA : ∃ u, At w' s.p s.d s.n D' u)
    (hD : ∀ j, Links R j → D' j = D j) : RingD s R D' w' := by
  obtain ⟨C, F, h1, h2⟩ := h
  refine ⟨C, F, h1.anew hs hk hA, ⟨h2.c0, h2.c1, h2.c2, h2.c3, h2.f0, h2.f1, h2.f2, h2.f3, cyc_same (fun x hx => by have := h2.fit.rng x hx; omega) (fun x hx => ?_) h2.cyc, h2.fit, h2.small⟩⟩
  have := h2.fit.rng x hx
  exact ⟨hD _ ⟨x, hx, Or.inl (by omega)⟩, hD _ ⟨x, hx, Or.inr (by omega)⟩⟩
end Go.Proofs.Ythliahaopelooaa
/- A new ring. -/
namespace Go.Proofs.Ythliahaopelooaa
open Go.RowKit
theorem mkfunc2 (fn : Fn) (first cap : Array Value) (w : World) : (Instr.makeFunc fn first cap).run Try.prog w = .ok (.func fn first cap) w := rfl
def Linked (p k : Nat) (w : World) (e : Ending) (w' : World) : Prop :=
  ∃ a n : Nat, e = .returned (.agg #[.func (.func 97) #[] #[.pointer (some ⟨a, 0, none⟩), .pointer (some ⟨n, 0, none⟩)], .func (.func 98) #[] #[.pointer (some ⟨a, 0, none⟩), .pointer (some ⟨n, 0, none⟩)]]) ∧
    w'.cell? ⟨a, 0, none⟩ = some (.pointer (some ⟨p, 0, none⟩)) ∧ w'.cell? ⟨n, 0, none⟩ = some (.int .i64 k) ∧ w.heap.size ≤ a ∧ w.heap.size ≤ n ∧ Below w.heap.size w w'
set_option maxHeartbeats 1000000 in
theorem linkAt_any (p k : Nat) (w : World) :
    Calls Try.prog 86 #[.pointer (some ⟨p, 0, none⟩), .int .i64 k] w (Linked p k w) := by
  have hmf := mkfunc2
  go_enter Try.func86, Try.ntmps86
  go_wp2_with fail
  refine bodyPost_ret (v := .agg #[.func (.func 97) #[] #[.pointer (some ⟨w.heap.size, 0, none⟩), .pointer (some ⟨w.heap.size + 1, 0, none⟩)], .func (.func 98) #[] #[.pointer (some ⟨w.heap.size, 0, none⟩), .pointer (some ⟨w.heap.size + 1, 0, none⟩)]]) (by simp [results, Try.results86, go_sem]) rfl ?_
  exact ⟨w.heap.size, w.heap.size + 1, rfl, by simp [go_sem], by simp [go_sem], Nat.le_refl _, by omega, (((Below.refl _ _).alloc (Nat.le_refl _) _).alloc (by simp) _).alloc (by simp; omega) _⟩
theorem later' {W W' : World} {a : Addr} {v : Value} (hb : Below W.heap.size W W') (h : W.cell? a = some v) : W'.cell? a = some v :=
  (hb.cell (World.block_lt_of_cell? _ _ h)).trans h
theorem onB' {w W W' : World} (h : Below w.heap.size w W) (hb : Below W.heap.size W W') : Below w.heap.size w W' := h.trans (hb.mono h.size)
def none4 : Rows := ⟨[], [], [], []⟩
def Newly (p d n : Nat) (w : World) (e : Ending) (w' : World) : Prop :=
  ∃ s : Spot, e = .returned (.pointer (some ⟨s.r, 0, none⟩)) ∧ s.p = p ∧ s.d = d ∧ s.n = n ∧ Ring s none4 w' ∧ Below w.heap.size w w' ∧ w.heap.size ≤ s.r
end Go.Proofs.Ythliahaopelooaa
/- A loop over an iterator that turns cells of its own between two rounds: what its caller owes, and what it owes. -/
namespace Go.Proofs.Ythliahaopelooaa
open Go.RowKit Go.Shelf
/-- A body that goes on, whatever it did. -/
def goesOn (T : World → Prop) : Exit → Act → World → Prop
  | .normal, _, W => T W
  | _, _, _ => False
/-- What a round's book-keeping leans on: two blocks, which it has laid. -/
structure Book (b : Nat) (r : Obj) (W : World) : Prop where
  turns : W.heap[b + 1]? = some r
  late : W.heap[b]? = some (.deferred (some []))
theorem Book.kept {b : Nat} {r : Obj} {A A' : World} (h : Book b r A) (h0 : A'.heap[b]? = A.heap[b]?) (h1 : A'.heap[b + 1]? = A.heap[b + 1]?) : Book b r A' := ⟨h1.trans h.turns, h0.trans h.late⟩
theorem Book.lt {b : Nat} {r : Obj} {A : World} (h : Book b r A) : b + 1 < A.heap.size := (Array.getElem?_eq_some_iff.1 h.turns).1
section
variable {P : Program} {n : Nat}
set_option maxHeartbeats 1000000 in
theorem range_by {α : Type} {g : Operand} {ps : Array Tmp} {assign body : Code} {Q : Exit → Act → World → Prop} {a : Act} {w : World} {gf : Nat} {lb : Array Value}
    (hg : a.eval g = .func (.func gf) #[] lb) (eg : ∀ args w, (callFunc gf args).run P w = .ok (.enter gf args) w)
    (encs : α → Array Value) (hps : ∀ x, (encs x).size = ps.size) (xs : List α) (I : List α → World → Prop)
    (hput : ∀ pre W l o o', I pre W → w.heap.size ≤ l → W.heap[l]? = some o → o.isCells = false → I pre (W.putObj l o'))
    (h0 : ∀ o o', I [] ((w.alloc o).alloc o')) (a₁ : α → Act)
    (hassign : ∀ (l : Nat) (x : α) (W : World) (K : Act → World → Prop), K (a₁ x) W →
      assign.wpIn (Fence.wide.inRound l) (n - 1 - 1) P (Exit.then K (fun _ _ _ => False)) { tmps := (ps.zip (encs x)).foldl (fun t (p, v) => t.setIfInBounds p v) a.tmps, defers := [] } W)
    (hbody : ∀ (l : Nat) (pre : List α) (x : α) (W : World), I pre W → pre ++ [x] <+: xs → body.wpIn (Fence.wide.inRound l) (n - 1 - 1) P (goesOn fun W' => KeepsOthers W W' ∧ I (pre ++ [x]) W') (a₁ x) W)
    (hiter : ∀ (r : Obj) (W1 : World),
      (∀ pre x W, I pre W → Book w.heap.size r W → pre ++ [x] <+: xs → YieldAt Fence.wide (n - 1 - 1) P (w.heap.size + 1) (encs x) W fun e W' => e = .returned (.bool true) ∧ I (pre ++ [x]) W' ∧ Book w.heap.size r W') →
      I [] W1 → Book w.heap.size r W1 →
      CallsIn Fence.wide (n - 1) P gf (#[.func (.yield (w.heap.size + 1)) #[] #[]] ++ lb) W1 fun e W' => (∃ v, e = .returned v) ∧ I xs W' ∧ Book w.heap.size r W')
    (hdone : ∀ (D : Nat) (W : World), w.heap.size ≤ D → I xs W → W.heap[D]? = some (.deferred (some [])) → Q .normal { a with defers := { target := .collected D, args := #[] } :: a.defers } W) :
    (Code.rangeFunc g ps assign body).wpIn Fence.wide n P Q a w := by
  refine wpIn_rangeFunc ?_
  intro fn hfn
  let L : LoopState → Loop := fun st => { state := st, pending := none, fn, tmps := a.tmps, params := ps, assign, body, defers := w.heap.size }
  have hrec : ∀ o : Obj, ((w.alloc o).alloc (.loop (L .ready))).heap[w.heap.size + 1]? = some (.loop (L .ready)) := fun o => by
    have := World.alloc_heap_new (w.alloc o) (.loop (L .ready))
    rwa [World.size_alloc] at this
  have hdef : ((w.alloc (.deferred (some []))).alloc (.loop (L .ready))).heap[w.heap.size]? = some (.deferred (some [])) :=
    (Below.heap_alloc _ _ _ (by simp)).trans (World.alloc_heap_new w _)
  refine ⟨w.heap.size + 1, [{ target := .collected w.heap.size, args := #[] }], (w.alloc (.deferred (some []))).alloc (.loop (L .ready)), { target := .fn (.func gf) lb, args := #[.func (.yield (w.heap.size + 1)) #[] #[]] }, (w.alloc (.deferred (some []))).alloc (.loop (L .ready)), gf,
    #[.func (.yield (w.heap.size + 1)) #[] #[]] ++ lb, (w.alloc (.deferred (some []))).alloc (.loop (L .ready)), run_enterLoop_outer _ _ _ _ _, ?_, fun (_ : FuncId) _ => trivial, ?_, fun h => (by cases h), ?_⟩
  · simp only [resolve, hg]
    simp [go_sem]
  · simp [invoke, go_sem, eg, L]
  refine (hiter (.loop (L .ready)) _ ?_ (h0 _ _) ⟨hrec _, hdef⟩).mono ?_
  · intro pre x W hi hb hx
    have hy := run_yield (P := P) (args := encs x) hb.turns (hps x)
    refine ⟨fn, _, assign, body, hy, roundIn_of_wpIn hfn (hassign _ x W _ ⟨_, run_beginRound hb.turns rfl, ?_⟩)⟩
    have hb1 : (W.putObj (w.heap.size + 1) (.loop { L .ready with state := .busy })).heap[w.heap.size + 1]? = some (.loop (L .busy)) := World.putObj_heap_same hb.lt
    have hb2 : (W.putObj (w.heap.size + 1) (.loop { L .ready with state := .busy })).heap[w.heap.size]? = some (.deferred (some [])) := (World.putObj_heap_other (by omega)).trans hb.late
    refine wpIn_mono (hbody _ pre x _ (hput _ _ _ _ _ hi (by omega) hb.turns rfl) hx) ?_
    intro e a3 W3 hp
    cases e with
    | normal =>
      obtain ⟨hk, hi3⟩ := hp
      have h1 := hk.same _ _ hb1 rfl
      have h2 := hk.same _ _ hb2 rfl
      exact ⟨_, _, run_endRound (P := P) none h1, rfl, hput _ _ _ _ _ hi3 (by omega) h1 rfl, World.putObj_heap_same (Array.getElem?_eq_some_iff.1 h1).1, (World.putObj_heap_other (by omega)).trans h2⟩
    | ret => exact hp.elim
    | exit id => exact hp.elim
    | goto t => exact hp.elim
    | panic ch => exact hp.elim
    | outgrown => exact hp.elim
  · rintro e W2 ⟨⟨v, rfl⟩, hi, hb⟩
    exact ⟨none, _, run_endLoop (P := P) hb.turns (by simp [L]), hdone _ _ (Nat.le_refl _) (hput _ _ _ _ _ hi (by omega) hb.turns rfl) ((World.putObj_heap_other (by omega)).trans hb.late)⟩
end
end Go.Proofs.Ythliahaopelooaa
/- The ring's iterator: each cell, with its row's number, once around. -/
namespace Go.Proofs.Ythliahaopelooaa
open Go.RowKit Go.Shelf
attribute [local go_sem] Oper.semAt_some
def Rows.row (R : Rows) : Nat → List Int
  | 0 => R.white
  | 1 => R.frm
  | 2 => R.grey
  | _ => R.black
def tag (i : Int) (l : List Int) : List (Int × Int) := l.map fun c => (i, c)
/-- The cells of the rows from number i on, each with its row's number. -/
def Rows.on (R : Rows) : Nat → List (Int × Int)
  | 0 => tag 0 R.white ++ (tag 1 R.frm ++ (tag 2 R.grey ++ tag 3 R.black))
  | 1 => tag 1 R.frm ++ (tag 2 R.grey ++ tag 3 R.black)
  | 2 => tag 2 R.grey ++ tag 3 R.black
  | 3 => tag 3 R.black
  | _ => []
def Rows.pairs (R : Rows) : List (Int × Int) := R.on 0
theorem pick4 (a b c d : Int) (i : Nat) (h : i < 4) (W : World) :
    (Instr.index 124 (.agg #[.int .i64 a, .int .i64 b, .int .i64 c, .int .i64 d]) (.int .i64 i)).run Try.prog W = .ok (.int .i64 (if i = 0 then a else if i = 1 then b else if i = 2 then c else d)) W := by
  have h' : Try.prog.underlying 124 = some (.array 4 3) := by kernel_rfl
  obtain rfl | rfl | rfl | rfl : i = 0 ∨ i = 1 ∨ i = 2 ∨ i = 3 := by omega
  all_goals simp [Instr.index, run_underlying h', asIntOf, part, Try.isAgg3, Try.sizeOf3, go_sem]
/-- What stands next, when some are over. -/
def Nxt (x : Int) (l : List (Int × Int)) : Prop := ∀ p m, l = p :: m → x = p.2
end Go.Proofs.Ythliahaopelooaa
/- Rows that are gathered, one behind the other; the ring's List. -/
namespace Go.Proofs.Ythliahaopelooaa
open Go.RowKit Go.Shelf
attribute [local go_sem] Oper.semAt_some
/-- A SLICE OF ints, as it is read: its block lies between two bounds. -/
def Row (W : World) (lo hi : Nat) (v : Value) (l : List Int) : Prop :=
  ∃ ao cap, v = .slice ao l.length (l.length + cap) ∧ (0 < l.length → ∃ g, ao = some ⟨g, 0, none⟩ ∧ lo ≤ g ∧ g < hi ∧ ∀ i x, l[i]? = some x → W.cell? ⟨g, i, none⟩ = some (.int .i64 x))
theorem Row.same {W W' : World} {lo hi : Nat} {v : Value} {l : List Int} (h : Row W lo hi v l) (hk : ∀ b o, lo ≤ b → b < hi → W.heap[b]? = some o → o.isCells = true → W'.heap[b]? = some o) : Row W' lo hi v l := by
  obtain ⟨ao, cap, rfl, hc⟩ := h
  refine ⟨ao, cap, rfl, fun h0 => ?_⟩
  obtain ⟨g, e, h1, h2, h3⟩ := hc h0
  refine ⟨g, e, h1, h2, fun i x hx => ?_⟩
  obtain ⟨o, ho, hoc⟩ := cells_of_cell (h3 i x hx)
  exact (World.cell?_of_block (w := W) ((hk g o h1 h2 ho hoc).trans ho.symm)).trans (h3 i x hx)
theorem Row.below {W W' : World} {lo hi B : Nat} {v : Value} {l : List Int} (h : Row W lo hi v l) (hb : Below B W W') (hB : hi ≤ B) : Row W' lo hi v l :=
  h.same fun b o _ h2 ho _ => (hb.block b (by omega)).trans ho
theorem Row.mono {W : World} {lo hi lo' hi' : Nat} {v : Value} {l : List Int} (h : Row W lo hi v l) (h1 : lo' ≤ lo) (h2 : hi ≤ hi') : Row W lo' hi' v l := by
  obtain ⟨ao, cap, rfl, hc⟩ := h
  refine ⟨ao, cap, rfl, fun h0 => ?_⟩
  obtain ⟨g, e, a1, a2, a3⟩ := hc h0
  exact ⟨g, e, by omega, by omega, a3⟩
theorem Row.of_own {W : World} {lo : Nat} {v : Value} {l : List Int} {n : Nat} (h : W.ownsRow lo 3 1 v n (l.map (.int .i64))) : Row W lo W.heap.size v l := by
  have hn : l.length = n := by simpa using h.1
  rcases h.2 with ⟨rfl, h0⟩ | ⟨g, cap, cur, rfl, hg, hb, hcap, _⟩
  · exact ⟨none, 0, by rw [hn, h0], fun h => by omega⟩
  · refine ⟨some ⟨g, 0, none⟩, cap - n, by rw [hn, Nat.add_sub_cancel' hcap], fun _ => ⟨g, rfl, hg, (Array.getElem?_eq_some_iff.1 hb).1, fun i x hx => ?_⟩⟩
    have := h.cells rfl i (.int .i64 x) (by simp [hx])
    rw [Addr.add_lit] at this
    simpa using this
/-- Rows that are gathered: those up to one colour are whole; that one's grows; the others are nil. -/
structure Gath (lo B c M : Nat) (v : Nat → Value) (l : Nat → List Int) (W : World) : Prop where
  cell : ∀ k, k < 4 → W.cell? ⟨B, k, none⟩ = some (v k)
  fz : ∀ k, W.frozen? ⟨B, k, none⟩ = false
  old : ∀ k, k < c → Row W (B + 1) M (v k) (l k)
  cur : W.ownsRow M 3 1 (v c) (l c).length ((l c).map (.int .i64))
  new : ∀ k, c < k → v k = .slice none 0 0 ∧ l k = []
  lB : lo ≤ B
  BM : B < M
  MW : M ≤ W.heap.size
section
variable {lo B c M : Nat} {v : Nat → Value} {l : Nat → List Int} {W W' : World}
theorem Gath.same (h : Gath lo B c M v l W) (hs : W.heap.size ≤ W'.heap.size) (hk : ∀ b o, lo ≤ b → W.heap[b]? = some o → o.isCells = true → W'.heap[b]? = some o) : Gath lo B c M v l W' := by
  obtain ⟨o, ho, hoc⟩ := cells_of_cell (h.cell 0 (by decide))
  have hB : W'.heap[B]? = W.heap[B]? := (hk B o h.lB ho hoc).trans ho.symm
  refine ⟨fun k hk' => (World.cell?_of_block (w := W) hB).trans (h.cell k hk'), fun k => (World.frozen?_of_block (w := W) hB).trans (h.fz k), fun k hk' => (h.old k hk').same fun b o h1 _ h3 h4 => hk b o (by have := h.lB; omega) h3 h4, ?_, h.new, h.lB, h.BM, Nat.le_trans h.MW hs⟩
  refine ⟨h.cur.1, ?_⟩
  rcases h.cur.2 with h1 | ⟨g, cap, cur, e, hg, hb, hr⟩
  · exact Or.inl h1
  · exact Or.inr ⟨g, cap, cur, e, hg, hk g _ (by have := h.lB; have := h.BM; omega) hb rfl, hr⟩
/-- Another colour's turn. -/
theorem Gath.turn (h : Gath lo B c M v l W) {d : Nat} (hd : c < d) : Gath lo B d W.heap.size v l W := by
  refine ⟨h.cell, h.fz, fun k hk => ?_, ?_, fun k hk => h.new k (by omega), h.lB, Nat.lt_of_lt_of_le h.BM h.MW, Nat.le_refl _⟩
  · rcases Nat.lt_trichotomy k c with h1 | h1 | h1
    · exact (h.old k h1).mono (Nat.le_refl _) h.MW
    · subst h1
      exact (Row.of_own h.cur).mono (by have := h.BM; omega) (Nat.le_refl _)
    · obtain ⟨e1, e2⟩ := h.new k h1
      rw [e1, e2]
      exact ⟨none, 0, rfl, fun h => absurd h (by simp)⟩
  · obtain ⟨e1, e2⟩ := h.new d hd
    rw [e1, e2]
    exact World.ownsRow_nil _ _ _ _
theorem Gath.all (h : Gath lo B c M v l W) (k : Nat) : Row W (B + 1) W.heap.size (v k) (l k) := by
  rcases Nat.lt_trichotomy k c with h1 | h1 | h1
  · exact (h.old k h1).mono (Nat.le_refl _) h.MW
  · subst h1
    exact (Row.of_own h.cur).mono (by have := h.BM; omega) (Nat.le_refl _)
  · obtain ⟨e1, e2⟩ := h.new k h1
    rw [e1, e2]
    exact ⟨none, 0, rfl, fun h => absurd h (by simp)⟩
/-- One more of that colour, behind an append and a store. -/
theorem Gath.put (h : Gath lo B c M v l W) (hc : c < 4) {x : Int} {tmp : Obj} {v' : Value} {w1 : World} {n : Nat} (hown : w1.ownsRow M 3 1 v' n ((l c).map (.int .i64) ++ [.int .i64 x])) (hgr : (W.alloc tmp).grownBy w1 (v c).ownBlock) :
    Gath lo B c M (fun k => if k = c then v' else v k) (fun k => if k = c then l k ++ [x] else l k) (w1.setCell ⟨B, c, none⟩ v') ∧ KeepsOthers W (w1.setCell ⟨B, c, none⟩ v') ∧ Below lo W (w1.setCell ⟨B, c, none⟩ v') ∧ (∀ k, k < 4 → w1.cell? ⟨B, k, none⟩ = some (v k)) ∧ (∀ k, w1.frozen? ⟨B, k, none⟩ = false) ∧ (∀ b, b < M → b ≠ B → (w1.setCell ⟨B, c, none⟩ v').heap[b]? = W.heap[b]?) := by
  have hMW := h.MW
  have hBM := h.BM
  have hlB := h.lB
  have hs := hgr.size
  simp only [World.size_alloc] at hs
  have hrow : ∀ j, (v c).ownBlock = some j → M ≤ j := fun j e => (h.cur.lt j e).1
  have keep : ∀ b, b < M → w1.heap[b]? = W.heap[b]? := fun b hb => by
    refine (hgr.block b (by simp; omega) fun e => ?_).trans (Below.heap_alloc _ _ _ (by omega))
    have := hrow b e.symm
    omega
  have hB1 : w1.heap[B]? = W.heap[B]? := keep B hBM
  have hc1 : ∀ k, k < 4 → w1.cell? ⟨B, k, none⟩ = some (v k) := fun k hk => (World.cell?_of_block (w := W) hB1).trans (h.cell k hk)
  have hf1 : ∀ k, w1.frozen? ⟨B, k, none⟩ = false := fun k => (World.frozen?_of_block (w := W) hB1).trans (h.fz k)
  refine ⟨⟨fun k hk => ?_, fun k => (World.frozen?_setCell _ _ _ _).trans (hf1 k), fun k hk => ?_, ?_, fun k hk => ?_, h.lB, h.BM, by simp [World.setCell]; omega⟩, ?_, ?_, hc1, hf1, fun b h1 h2 => (Below.heap_setCell _ _ _ _ h2).trans (keep b h1)⟩
  · by_cases e : k = c
    · subst e
      simp only [if_true]
      exact World.cell?_setCell_same _ _ _ (hc1 k hk)
    · simp only [e, if_false]
      exact (World.cell?_setCell_other _ _ _ _ (by simp)).trans (hc1 k hk)
  · have e : ¬ k = c := by omega
    simp only [e, if_false]
    refine (h.old k hk).same fun b o h1 h2 h3 _ => ?_
    exact (Below.heap_setCell _ _ _ _ (by simp only; omega)).trans ((keep b h2).trans h3)
  · simp only [if_true]
    have hl : n = ((l c) ++ [x]).length := by
      have := hown.1
      simp at this ⊢
      omega
    have he : (l c ++ [x]).map (Value.int .i64) = (l c).map (.int .i64) ++ [.int .i64 x] := by simp
    rw [he, ← hl]
    refine ⟨hown.1, ?_⟩
    rcases hown.2 with h1 | ⟨g, cap, cur, e, hg, hb, hr⟩
    · exact Or.inl h1
    · exact Or.inr ⟨g, cap, cur, e, hg, (Below.heap_setCell _ _ _ _ (by simp only; omega)).trans hb, hr⟩
  · have e : ¬ k = c := by omega
    simp only [e, if_false]
    exact h.new k hk
  · refine ((KeepsOthers.alloc W tmp).trans (KeepsOthers.of_grownBy hgr fun j o ej hj => ?_)).trans (KeepsOthers.setCell _ _ _)
    rcases (h.cur.alloc tmp).2 with ⟨e, _⟩ | ⟨g, cap, cur, e, _, hgb, _⟩
    · rw [e] at ej
      simp [Value.ownBlock] at ej
    · rw [e] at ej
      obtain rfl : g = j := by simpa [Value.ownBlock] using ej
      rw [hgb] at hj
      cases hj
      rfl
  · refine (((Below.refl lo W).alloc (by omega) tmp).grown hgr (by simp; omega) fun j ej => ?_).setCell (by simp only; omega) v'
    have := hrow j ej
    omega
end
/-- Of pairs, the cells of one row. -/
def pick (k : Nat) (pre : List (Int × Int)) : List Int := (pre.filter fun x => decide (x.1 = (k : Int))).map Prod.snd
section
variable {s : Spot} {C F D : Nat → Int} {W W' : World}
/-- A ring lies on where its blocks do. -/
theorem Lies.same (h : Lies s C F D W) (hs : W.heap.size ≤ W'.heap.size) (hk : ∀ b, b = s.r ∨ b = s.p ∨ b = s.d ∨ b = s.a1 ∨ b = s.n1 ∨ b = s.a2 ∨ b = s.n2 → W'.heap[b]? = W.heap[b]?) : Lies s C F D W' := by
  have c : ∀ (b j : Nat) (x : Value), (b = s.r ∨ b = s.p ∨ b = s.d ∨ b = s.a1 ∨ b = s.n1 ∨ b = s.a2 ∨ b = s.n2) → W.cell? ⟨b, j, none⟩ = some x → W'.cell? ⟨b, j, none⟩ = some x := fun b j x hb hx => (World.cell?_of_block (w := W) (hk b hb)).trans hx
  obtain ⟨u, hu⟩ := h.words
  exact ⟨c _ _ _ (by simp) h.arena, c _ _ _ (by simp) h.nof, c _ _ _ (by simp) h.nset, c _ _ _ (by simp) h.lof, c _ _ _ (by simp) h.lset, fun k hk' => c _ _ _ (by simp) (h.count k hk'), fun k hk' => c _ _ _ (by simp) (h.first k hk'),
    fun j => (World.frozen?_of_block (w := W) (hk s.r (by simp))).trans (h.fz j), c _ _ _ (by simp) h.ba1, c _ _ _ (by simp) h.bn1, c _ _ _ (by simp) h.ba2, c _ _ _ (by simp) h.bn2,
    ⟨u, hu.move (hk s.p (by simp)) (hk s.d (by simp)) hs⟩, h.nb, h.rp, h.rd, h.a1', h.n1', h.a2', h.n2'⟩
/-- All that a ring leans on lies below. -/
def Spot.under (s : Spot) (B : Nat) : Prop := s.r < B ∧ s.p < B ∧ s.d < B ∧ s.a1 < B ∧ s.n1 < B ∧ s.a2 < B ∧ s.n2 < B
theorem Lies.under (h : Lies s C F D W) : s.under W.heap.size :=
  ⟨h.lr, h.lp, h.ld, World.block_lt_of_cell? _ _ h.ba1, World.block_lt_of_cell? _ _ h.bn1, World.block_lt_of_cell? _ _ h.ba2, World.block_lt_of_cell? _ _ h.bn2⟩
theorem Lies.below (h : Lies s C F D W) {B : Nat} (hu : s.under B) (hb : Below B W W') : Lies s C F D W' := by
  obtain ⟨h1, h2, h3, h4, h5, h6, h7⟩ := hu
  refine h.same hb.size fun b e => hb.block b ?_
  rcases e with rfl | rfl | rfl | rfl | rfl | rfl | rfl <;> assumption
end
end Go.Proofs.Ythliahaopelooaa
/- The ring's List. -/
namespace Go.Proofs.Ythliahaopelooaa
open Go.RowKit Go.Shelf
attribute [local go_sem] Oper.semAt_some
/-- What stands between two rounds of List's loop. -/
structure Mid (s : Spot) (C F D : Nat → Int) (w : World) (pre : List (Int × Int)) (W : World) : Prop where
  lies : Lies s C F D W
  box : W.cell? ⟨w.heap.size + 2, 0, none⟩ = some (.pointer (some ⟨s.r, 0, none⟩))
  seg : ∀ k, k < 4 → W.cell? ⟨w.heap.size, k, none⟩ = some (.slice none 0 0)
  sfz : ∀ k, W.frozen? ⟨w.heap.size, k, none⟩ = false
  turn : Turn s w W
  gath : ∃ (c M : Nat) (v : Nat → Value), c < 4 ∧ (c = 0 ∨ ∃ x, x ∈ pre ∧ x.1 = (c : Int)) ∧ w.heap.size + 3 ≤ M ∧ Gath (w.heap.size + 1) (w.heap.size + 1) c M v (fun k => pick k pre) W
theorem Mid.same {s : Spot} {C F D : Nat → Int} {w W W' : World} {pre : List (Int × Int)} (h : Mid s C F D w pre W) (hL : Lies s C F D W') (ht : Turn s w W') (hs : W.heap.size ≤ W'.heap.size)
    (hk : ∀ b o, w.heap.size ≤ b → W.heap[b]? = some o → o.isCells = true → W'.heap[b]? = some o) : Mid s C F D w pre W' := by
  have c : ∀ (b j : Nat) (x : Value), w.heap.size ≤ b → W.cell? ⟨b, j, none⟩ = some x → W'.heap[b]? = W.heap[b]? := fun b j x hb hx => by
    obtain ⟨o, ho, hoc⟩ := cells_of_cell hx
    exact (hk b o hb ho hoc).trans ho.symm
  refine ⟨hL, (World.cell?_of_block (w := W) (c _ _ _ (by simp only; omega) h.box)).trans h.box, fun k hk' => (World.cell?_of_block (w := W) (c _ _ _ (Nat.le_refl _) (h.seg k hk'))).trans (h.seg k hk'), fun k => (World.frozen?_of_block (w := W) (c _ _ _ (Nat.le_refl _) (h.seg 0 (by decide)))).trans (h.sfz k), ht, ?_⟩
  obtain ⟨d, M, v, h1, h2, h3, h4⟩ := h.gath
  exact ⟨d, M, v, h1, h2, h3, h4.same hs fun b o hb => hk b o (by omega)⟩
/-- What List leaves. -/
def Listed (s : Spot) (C F D : Nat → Int) (R : Rows) (w : World) (e : Ending) (w' : World) : Prop :=
  ∃ v0 v1 v2 v3, e = .returned (.agg #[v0, v1, v2, v3]) ∧ Row w' w.heap.size w'.heap.size v0 R.white ∧ Row w' w.heap.size w'.heap.size v1 R.frm ∧ Row w' w.heap.size w'.heap.size v2 R.grey ∧ Row w' w.heap.size w'.heap.size v3 R.black ∧ Lies s C F D w' ∧ Turn s w w'
end Go.Proofs.Ythliahaopelooaa
