/- A cell linked in, or out; a row that loses one, or gets one; a whole row that is another one's. -/
import Derived.Test.YtbjlpmjalidfkaaRiD
namespace Go.Proofs.Ytbjlpmjalidfkaa
open Go.RowKit

def Rng (n : Nat) (x : Int) : Prop := 1 ≤ x ∧ x + 3 ≤ n

set_option maxHeartbeats 1000000 in
theorem insert_any (s : Spot) (C F D : Nat → Int) (w : World) (hL : Lies s C F D w) (c x : Int) (hc : Rng s.n c) (hx : x = 0 ∨ (Rng s.n x ∧ Rng s.n (D (x + 2).toNat))) :
    Calls Try.prog 70 #[.pointer (some ⟨s.r, 0, none⟩), .int .i64 c, .int .i64 x] w fun e w' => e = .returned (.tuple #[]) ∧ Lies s C F (inserted D c x) w' ∧ Turn s w w' := by
  obtain ⟨D', hD⟩ : ∃ D', inserted D c x = D' := ⟨_, rfl⟩
  rw [hD]
  by_cases g : x = 0
  · subst g
    have hj := join_any s C F D w hL c c hc.1 hc.2 hc.1 hc.2
    rw [show join D c c = D' by rw [← hD]; rfl] at hj
    have HJ := Lib.hid hj
    clear hL hc hx hD hj
    go_enter Try.func70, Try.ntmps70
    go_wp2_with fail
    refine HJ.out.mono ?_
    rintro e w2 ⟨rfl, hE⟩
    have HE := Lib.hid hE
    clear hE HJ
    go_wp2_with fail
    exact bodyPost_ret (v := .tuple #[]) (by simp [results, Try.results70]) rfl ⟨rfl, HE.out⟩
  · have g' : (x == 0) = false := by simpa using g
    obtain ⟨hx1, hx2⟩ := hx.resolve_left g
    have hl := last_any s C F D w hL x hx1.1 hx1.2
    have c3 := hL.lof
    have h2 : ∀ w, Lies s C F D w → _ := fun w h => join_any s C F D w h (D (x + 2).toNat) c hx2.1 hx2.2 hc.1 hc.2
    have h3 : ∀ w, Lies s C F (join D (D (x + 2).toNat) c) w → _ := fun w h => join_any s C F _ w h c x hc.1 hc.2 hx1.1 hx1.2
    rw [show join (join D (D (x + 2).toNat) c) c x = D' by rw [← hD, inserted, if_neg g]] at h3
    have HL := Lib.hid hl
    have H2 := Lib.hid h2
    have H3 := Lib.hid h3
    generalize D (x + 2).toNat = z at HL H2 H3
    clear hL hc hx hD hx1 hx2 hl h2 h3 g
    go_enter Try.func70, Try.ntmps70
    go_wp2_with fail
    refine HL.out.mono ?_
    rintro e w2 ⟨rfl, hL2, hq2⟩
    have HL2 := Lib.hid hL2
    have HQ2 := Lib.hid hq2
    clear hL2 hq2 HL c3
    go_wp2_with fail
    refine (H2.out w2 HL2.out).mono ?_
    rintro e w3 ⟨rfl, hL3, hq3⟩
    have HL3 := Lib.hid hL3
    have HQ3 := Lib.hid (HQ2.out.trans hq3)
    clear hL3 hq3 HL2 HQ2
    go_wp2_with fail
    refine (H3.out w3 HL3.out).mono ?_
    rintro e w4 ⟨rfl, hL4, hq4⟩
    have HE := Lib.hid (And.intro hL4 (HQ3.out.trans hq4))
    clear hL4 hq4 HL3 HQ3
    go_wp2_with fail
    go_end0
    exact ⟨rfl, HE.out⟩

theorem keep_two {s : Spot} {C F D : Nat → Int} {w : World} (h : Lies s C F D w) : w.cell? ⟨s.r, 3, none⟩ = some (.func (.func 99) #[] #[.pointer (some ⟨s.a2, 0, none⟩), .pointer (some ⟨s.n2, 0, none⟩)]) ∧ w.cell? ⟨s.r, 1, none⟩ = some (.func (.func 99) #[] #[.pointer (some ⟨s.a1, 0, none⟩), .pointer (some ⟨s.n1, 0, none⟩)]) := ⟨h.lof, h.nof⟩
theorem keep_one {s : Spot} {C F D : Nat → Int} {w : World} (h : Lies s C F D w) : w.cell? ⟨s.r, 1, none⟩ = some (.func (.func 99) #[] #[.pointer (some ⟨s.a1, 0, none⟩), .pointer (some ⟨s.n1, 0, none⟩)]) := h.nof
theorem keep_last {s : Spot} {C F D : Nat → Int} {w : World} (h : Lies s C F D w) : w.cell? ⟨s.r, 3, none⟩ = some (.func (.func 99) #[] #[.pointer (some ⟨s.a2, 0, none⟩), .pointer (some ⟨s.n2, 0, none⟩)]) := h.lof

set_option maxHeartbeats 4000000 in
theorem remove_any (s : Spot) (C F D : Nat → Int) (w : World) (hL : Lies s C F D w) (c : Int) (hc : Rng s.n c) (h1 : Rng s.n (D (c + 1).toNat)) (h2 : Rng s.n (D (c + 2).toNat)) :
    Calls Try.prog 79 #[.pointer (some ⟨s.r, 0, none⟩), .int .i64 c] w fun e w' => e = .returned (.tuple #[]) ∧ Lies s C F (removed D c) w' ∧ Turn s w w' := by
  obtain ⟨D', hD⟩ : ∃ D', removed D c = D' := ⟨_, rfl⟩
  rw [hD]
  have hn : ∀ w, Lies s C F D w → _ := fun w h => next_any s C F D w h c hc.1 hc.2
  have hl : ∀ w, Lies s C F D w → _ := fun w h => last_any s C F D w h c hc.1 hc.2
  have hj : ∀ w, Lies s C F D w → _ := fun w h => join_any s C F D w h (D (c + 2).toNat) (D (c + 1).toNat) h2.1 h2.2 h1.1 h1.2
  rw [show join D (D (c + 2).toNat) (D (c + 1).toNat) = D' from hD] at hj
  generalize D (c + 2).toNat = z at *
  generalize D (c + 1).toNat = y at *
  obtain ⟨c3, c1⟩ := keep_two hL
  have HN := Lib.hid hn
  have HL := Lib.hid hl
  have HJ := Lib.hid hj
  have H0 := Lib.hid (And.intro hL.drew (Turn.of_below (s := s) (Below.refl w.heap.size w).drew))
  clear hL hc hD h1 h2 hn hl hj
  go_enter Try.func79, Try.ntmps79
  go_wp2_with fail
  go_region_held3 (fun W' => W'.cell? ⟨s.r, 3, none⟩ = some (.func (.func 99) #[] #[.pointer (some ⟨s.a2, 0, none⟩), .pointer (some ⟨s.n2, 0, none⟩)]) ∧ W'.cell? ⟨s.r, 1, none⟩ = some (.func (.func 99) #[] #[.pointer (some ⟨s.a1, 0, none⟩), .pointer (some ⟨s.n1, 0, none⟩)]))
    (first
      | assumption
      | exact keep_two hk9
      | exact keep_two H0.out.1)
    (first
      | (go_at_call 99; refine (HL.out _ H0.out.1).mono ?_; rintro e w2 ⟨rfl, hk9, hq2⟩; have H2 := Lib.hid (And.intro hk9 (H0.out.2.trans hq2)); clear HL hq2)
      | (go_at_call 99; refine (HN.out _ H2.out.1).mono ?_; rintro e w3 ⟨rfl, hk9, hq3⟩; have H3 := Lib.hid (And.intro hk9 (H2.out.2.trans hq3)); clear HN hq3)
      | (go_at_call 98; refine (HJ.out _ H3.out.1).mono ?_; rintro e w4 ⟨rfl, hk9, hq4⟩; have H4 := Lib.hid (And.intro hk9 (H3.out.2.trans hq4)); clear hq4))
  go_wp2_with fail
  go_end0
  exact ⟨rfl, H4.out⟩


set_option maxHeartbeats 4000000 in
theorem leave_0 (s : Spot) (C F D : Nat → Int) (w : World) (hL : Lies s C F D w) (c : Int) (hc : Rng s.n c) (h0 : 0 ≤ C 0) (h1 : C 0 ≤ 1000) :
    Calls Try.prog 73 #[.pointer (some ⟨s.r, 0, none⟩), .int .i64 c, .int .i64 0] w fun e w' => e = .returned (.tuple #[]) ∧ Lies s (upd C 0 (C 0 - 1)) (leftF D F c 0) D w' ∧ Turn s w w' := by
  have c0 : w.cell? ⟨s.r, 5, none⟩ = some (.int .i64 (C 0)) := hL.count 0 (by decide)
  have f0 : w.cell? ⟨s.r, 9, none⟩ = some (.int .i64 (F 0)) := hL.first 0 (by decide)
  have z5 := hL.fz 5
  have z9 := hL.fz 9
  have c1' := hL.nof
  have hw : IntKind.i64.wrap (C 0 - 1) = C 0 - 1 := by rw [IntKind.wrap_i64]; omega
  have H1 := Lib.hid (And.intro (hL.setCount 0 (C 0 - 1) (by decide)).drew ((Turn.setR s 5 (.int .i64 (C 0 - 1)) w).then (c := (w.setCell ⟨s.r, 5, none⟩ (.int .i64 (C 0 - 1))).drew) (Below.refl _ _).drew))
  by_cases g : F 0 = c
  · have hF : leftF D F c 0 = upd F 0 (D (c + 1).toNat) := if_pos g
    rw [hF]
    subst g
    have hn : ∀ C w, Lies s C F D w → _ := fun C w h => next_any s C F D w h (F 0) hc.1 hc.2
    have HN := Lib.hid hn
    generalize hV : upd C 0 (C 0 - 1) = C' at H1
    generalize D (F 0 + 1).toNat = y at HN
    clear hL hF hc hn
    go_enter Try.func73, Try.ntmps73
    go_wp2_with fail
    go_region
    go_wp2_with fail
    have H2 := Lib.hid (And.intro H1.out.1.drew (H1.out.2.then (Below.refl _ _).drew))
    go_region_held3 (fun W' => W'.cell? ⟨s.r, 1, none⟩ = some (.func (.func 99) #[] #[.pointer (some ⟨s.a1, 0, none⟩), .pointer (some ⟨s.n1, 0, none⟩)]))
      (first
        | assumption
        | exact keep_one (H3.out.1.setFirst 0 y (by decide))
        | exact keep_one hk9
        | exact keep_one H1.out.1.drew)
      (first
        | (go_at_call 99; refine (HN.out C' _ H2.out.1).mono ?_; rintro e w2 ⟨rfl, hk9, hq2⟩; have H3 := Lib.hid (And.intro hk9 (H2.out.2.trans hq2)); have f9 : w2.cell? ⟨s.r, 9, none⟩ = some (.int .i64 (F 0)) := hk9.first 0 (by decide); have z9 := hk9.fz 9; clear HN hq2))
    have H4 := Lib.hid (And.intro (H3.out.1.setFirst 0 y (by decide)) (H3.out.2.trans (Turn.setR s 9 (.int .i64 y) _)))
    go_wp2_with fail
    go_end0
    exact ⟨rfl, H4.out⟩
  · have hF : leftF D F c 0 = F := if_neg g
    rw [hF]
    have g' : (F 0 == c) = false := by simpa using g
    generalize hV : upd C 0 (C 0 - 1) = C' at H1
    clear hL hF hc
    go_enter Try.func73, Try.ntmps73
    go_wp2_with fail
    go_region
    go_wp2_with fail
    go_end0
    exact ⟨rfl, H1.out⟩

set_option maxHeartbeats 4000000 in
theorem leave_1 (s : Spot) (C F D : Nat → Int) (w : World) (hL : Lies s C F D w) (c : Int) (hc : Rng s.n c) (h0 : 0 ≤ C 1) (h1 : C 1 ≤ 1000) :
    Calls Try.prog 73 #[.pointer (some ⟨s.r, 0, none⟩), .int .i64 c, .int .i64 1] w fun e w' => e = .returned (.tuple #[]) ∧ Lies s (upd C 1 (C 1 - 1)) (leftF D F c 1) D w' ∧ Turn s w w' := by
  have c1 : w.cell? ⟨s.r, 6, none⟩ = some (.int .i64 (C 1)) := hL.count 1 (by decide)
  have f1 : w.cell? ⟨s.r, 10, none⟩ = some (.int .i64 (F 1)) := hL.first 1 (by decide)
  have z6 := hL.fz 6
  have z10 := hL.fz 10
  have c1' := hL.nof
  have hw : IntKind.i64.wrap (C 1 - 1) = C 1 - 1 := by rw [IntKind.wrap_i64]; omega
  have H1 := Lib.hid (And.intro (hL.setCount 1 (C 1 - 1) (by decide)).drew ((Turn.setR s 6 (.int .i64 (C 1 - 1)) w).then (c := (w.setCell ⟨s.r, 6, none⟩ (.int .i64 (C 1 - 1))).drew) (Below.refl _ _).drew))
  by_cases g : F 1 = c
  · have hF : leftF D F c 1 = upd F 1 (D (c + 1).toNat) := if_pos g
    rw [hF]
    subst g
    have hn : ∀ C w, Lies s C F D w → _ := fun C w h => next_any s C F D w h (F 1) hc.1 hc.2
    have HN := Lib.hid hn
    generalize hV : upd C 1 (C 1 - 1) = C' at H1
    generalize D (F 1 + 1).toNat = y at HN
    clear hL hF hc hn
    go_enter Try.func73, Try.ntmps73
    go_wp2_with fail
    go_region
    go_wp2_with fail
    have H2 := Lib.hid (And.intro H1.out.1.drew (H1.out.2.then (Below.refl _ _).drew))
    go_region_held3 (fun W' => W'.cell? ⟨s.r, 1, none⟩ = some (.func (.func 99) #[] #[.pointer (some ⟨s.a1, 0, none⟩), .pointer (some ⟨s.n1, 0, none⟩)]))
      (first
        | assumption
        | exact keep_one (H3.out.1.setFirst 1 y (by decide))
        | exact keep_one hk9
        | exact keep_one H1.out.1.drew)
      (first
        | (go_at_call 99; refine (HN.out C' _ H2.out.1).mono ?_; rintro e w2 ⟨rfl, hk9, hq2⟩; have H3 := Lib.hid (And.intro hk9 (H2.out.2.trans hq2)); have f9 : w2.cell? ⟨s.r, 10, none⟩ = some (.int .i64 (F 1)) := hk9.first 1 (by decide); have z9 := hk9.fz 10; clear HN hq2))
    have H4 := Lib.hid (And.intro (H3.out.1.setFirst 1 y (by decide)) (H3.out.2.trans (Turn.setR s 10 (.int .i64 y) _)))
    go_wp2_with fail
    go_end0
    exact ⟨rfl, H4.out⟩
  · have hF : leftF D F c 1 = F := if_neg g
    rw [hF]
    have g' : (F 1 == c) = false := by simpa using g
    generalize hV : upd C 1 (C 1 - 1) = C' at H1
    clear hL hF hc
    go_enter Try.func73, Try.ntmps73
    go_wp2_with fail
    go_region
    go_wp2_with fail
    go_end0
    exact ⟨rfl, H1.out⟩

set_option maxHeartbeats 4000000 in
theorem enterFirst_0 (s : Spot) (C F D : Nat → Int) (w : World) (hL : Lies s C F D w) (c : Int) (h0 : 0 ≤ C 0) (h1 : C 0 ≤ 1000) :
    Calls Try.prog 72 #[.pointer (some ⟨s.r, 0, none⟩), .int .i64 c, .int .i64 0] w fun e w' => e = .returned (.tuple #[]) ∧ Lies s (upd C 0 (C 0 + 1)) (upd F 0 c) D w' ∧ Turn s w w' := by
  have c0 : w.cell? ⟨s.r, 5, none⟩ = some (.int .i64 (C 0)) := hL.count 0 (by decide)
  have f0 : w.cell? ⟨s.r, 9, none⟩ = some (.int .i64 (F 0)) := hL.first 0 (by decide)
  have z5 := hL.fz 5
  have z9 := hL.fz 9
  have hw : IntKind.i64.wrap (C 0 + 1) = C 0 + 1 := by rw [IntKind.wrap_i64]; omega
  have H1 := Lib.hid (And.intro ((hL.setFirst 0 c (by decide)).setCount 0 (C 0 + 1) (by decide)).drew (((Turn.setR s 9 (.int .i64 c) w).trans (Turn.setR s 5 (.int .i64 (C 0 + 1)) _)).then (c := ((w.setCell ⟨s.r, 9, none⟩ (.int .i64 c)).setCell ⟨s.r, 5, none⟩ (.int .i64 (C 0 + 1))).drew) (Below.refl _ _).drew))
  generalize hV : upd C 0 (C 0 + 1) = C' at H1
  generalize hG : upd F 0 c = F' at H1
  clear hL
  go_enter Try.func72, Try.ntmps72
  go_wp2_with fail
  go_region
  go_wp2_with fail
  go_end0
  exact ⟨rfl, H1.out⟩

set_option maxHeartbeats 4000000 in
theorem enterFirst_3 (s : Spot) (C F D : Nat → Int) (w : World) (hL : Lies s C F D w) (c : Int) (h0 : 0 ≤ C 3) (h1 : C 3 ≤ 1000) :
    Calls Try.prog 72 #[.pointer (some ⟨s.r, 0, none⟩), .int .i64 c, .int .i64 3] w fun e w' => e = .returned (.tuple #[]) ∧ Lies s (upd C 3 (C 3 + 1)) (upd F 3 c) D w' ∧ Turn s w w' := by
  have c3 : w.cell? ⟨s.r, 8, none⟩ = some (.int .i64 (C 3)) := hL.count 3 (by decide)
  have f3 : w.cell? ⟨s.r, 12, none⟩ = some (.int .i64 (F 3)) := hL.first 3 (by decide)
  have z8 := hL.fz 8
  have z12 := hL.fz 12
  have hw : IntKind.i64.wrap (C 3 + 1) = C 3 + 1 := by rw [IntKind.wrap_i64]; omega
  have H1 := Lib.hid (And.intro ((hL.setFirst 3 c (by decide)).setCount 3 (C 3 + 1) (by decide)).drew (((Turn.setR s 12 (.int .i64 c) w).trans (Turn.setR s 8 (.int .i64 (C 3 + 1)) _)).then (c := ((w.setCell ⟨s.r, 12, none⟩ (.int .i64 c)).setCell ⟨s.r, 8, none⟩ (.int .i64 (C 3 + 1))).drew) (Below.refl _ _).drew))
  generalize hV : upd C 3 (C 3 + 1) = C' at H1
  generalize hG : upd F 3 c = F' at H1
  clear hL
  go_enter Try.func72, Try.ntmps72
  go_wp2_with fail
  go_region
  go_wp2_with fail
  go_end0
  exact ⟨rfl, H1.out⟩

set_option maxHeartbeats 4000000 in
theorem enterLast_2 (s : Spot) (C F D : Nat → Int) (w : World) (hL : Lies s C F D w) (c : Int) (h0 : 0 ≤ C 2) (h1 : C 2 ≤ 1000) :
    Calls Try.prog 74 #[.pointer (some ⟨s.r, 0, none⟩), .int .i64 c, .int .i64 2] w fun e w' => e = .returned (.tuple #[]) ∧ Lies s (upd C 2 (C 2 + 1)) (lastF C F c 2) D w' ∧ Turn s w w' := by
  have c2 : w.cell? ⟨s.r, 7, none⟩ = some (.int .i64 (C 2)) := hL.count 2 (by decide)
  have f2 : w.cell? ⟨s.r, 11, none⟩ = some (.int .i64 (F 2)) := hL.first 2 (by decide)
  have z7 := hL.fz 7
  have z11 := hL.fz 11
  have hw : IntKind.i64.wrap (C 2 + 1) = C 2 + 1 := by rw [IntKind.wrap_i64]; omega
  by_cases g : C 2 = 0
  · have hF : lastF C F c 2 = upd F 2 c := if_pos g
    rw [hF]
    have g' : (C 2 == 0) = true := by simpa using g
    have H1 := Lib.hid (And.intro ((hL.setFirst 2 c (by decide)).setCount 2 (C 2 + 1) (by decide)).drew (((Turn.setR s 11 (.int .i64 c) w).trans (Turn.setR s 7 (.int .i64 (C 2 + 1)) _)).then (c := ((w.setCell ⟨s.r, 11, none⟩ (.int .i64 c)).setCell ⟨s.r, 7, none⟩ (.int .i64 (C 2 + 1))).drew) (Below.refl _ _).drew))
    generalize hV : upd C 2 (C 2 + 1) = C' at H1
    generalize hG : upd F 2 c = F' at H1
    clear hL hF g
    go_enter Try.func74, Try.ntmps74
    go_wp2_with fail
    go_region
    go_wp2_with fail
    go_end0
    exact ⟨rfl, H1.out⟩
  · have hF : lastF C F c 2 = F := if_neg g
    rw [hF]
    have g' : (C 2 == 0) = false := by simpa using g
    have H1 := Lib.hid (And.intro (hL.setCount 2 (C 2 + 1) (by decide)).drew ((Turn.setR s 7 (.int .i64 (C 2 + 1)) w).then (c := (w.setCell ⟨s.r, 7, none⟩ (.int .i64 (C 2 + 1))).drew) (Below.refl _ _).drew))
    generalize hV : upd C 2 (C 2 + 1) = C' at H1
    clear hL hF g
    go_enter Try.func74, Try.ntmps74
    go_wp2_with fail
    go_region
    go_wp2_with fail
    go_end0
    exact ⟨rfl, H1.out⟩

set_option maxHeartbeats 4000000 in
theorem enterLast_3 (s : Spot) (C F D : Nat → Int) (w : World) (hL : Lies s C F D w) (c : Int) (h0 : 0 ≤ C 3) (h1 : C 3 ≤ 1000) :
    Calls Try.prog 74 #[.pointer (some ⟨s.r, 0, none⟩), .int .i64 c, .int .i64 3] w fun e w' => e = .returned (.tuple #[]) ∧ Lies s (upd C 3 (C 3 + 1)) (lastF C F c 3) D w' ∧ Turn s w w' := by
  have c3 : w.cell? ⟨s.r, 8, none⟩ = some (.int .i64 (C 3)) := hL.count 3 (by decide)
  have f3 : w.cell? ⟨s.r, 12, none⟩ = some (.int .i64 (F 3)) := hL.first 3 (by decide)
  have z8 := hL.fz 8
  have z12 := hL.fz 12
  have hw : IntKind.i64.wrap (C 3 + 1) = C 3 + 1 := by rw [IntKind.wrap_i64]; omega
  by_cases g : C 3 = 0
  · have hF : lastF C F c 3 = upd F 3 c := if_pos g
    rw [hF]
    have g' : (C 3 == 0) = true := by simpa using g
    have H1 := Lib.hid (And.intro ((hL.setFirst 3 c (by decide)).setCount 3 (C 3 + 1) (by decide)).drew (((Turn.setR s 12 (.int .i64 c) w).trans (Turn.setR s 8 (.int .i64 (C 3 + 1)) _)).then (c := ((w.setCell ⟨s.r, 12, none⟩ (.int .i64 c)).setCell ⟨s.r, 8, none⟩ (.int .i64 (C 3 + 1))).drew) (Below.refl _ _).drew))
    generalize hV : upd C 3 (C 3 + 1) = C' at H1
    generalize hG : upd F 3 c = F' at H1
    clear hL hF g
    go_enter Try.func74, Try.ntmps74
    go_wp2_with fail
    go_region
    go_wp2_with fail
    go_end0
    exact ⟨rfl, H1.out⟩
  · have hF : lastF C F c 3 = F := if_neg g
    rw [hF]
    have g' : (C 3 == 0) = false := by simpa using g
    have H1 := Lib.hid (And.intro (hL.setCount 3 (C 3 + 1) (by decide)).drew ((Turn.setR s 8 (.int .i64 (C 3 + 1)) w).then (c := (w.setCell ⟨s.r, 8, none⟩ (.int .i64 (C 3 + 1))).drew) (Below.refl _ _).drew))
    generalize hV : upd C 3 (C 3 + 1) = C' at H1
    clear hL hF g
    go_enter Try.func74, Try.ntmps74
    go_wp2_with fail
    go_region
    go_wp2_with fail
    go_end0
    exact ⟨rfl, H1.out⟩

set_option maxHeartbeats 4000000 in
theorem recolour_31 (s : Spot) (C F D : Nat → Int) (w : World) (hL : Lies s C F D w) (h0 : 0 ≤ C 3) (h1 : C 3 ≤ 1000) (h2 : 0 ≤ C 1) (h3 : C 1 ≤ 1000) :
    Calls Try.prog 75 #[.pointer (some ⟨s.r, 0, none⟩), .int .i64 3, .int .i64 1] w fun e w' => e = .returned (.tuple #[]) ∧ Lies s (upd (upd C 1 (C 1 + C 3)) 3 0) (lastF C F (F 3) 1) D w' ∧ Turn s w w' := by
  have c3 : w.cell? ⟨s.r, 8, none⟩ = some (.int .i64 (C 3)) := hL.count 3 (by decide)
  have c1 : w.cell? ⟨s.r, 6, none⟩ = some (.int .i64 (C 1)) := hL.count 1 (by decide)
  have f3 : w.cell? ⟨s.r, 12, none⟩ = some (.int .i64 (F 3)) := hL.first 3 (by decide)
  have f1 : w.cell? ⟨s.r, 10, none⟩ = some (.int .i64 (F 1)) := hL.first 1 (by decide)
  have z8 := hL.fz 8
  have z6 := hL.fz 6
  have z12 := hL.fz 12
  have z10 := hL.fz 10
  have hw : IntKind.i64.wrap (C 1 + C 3) = C 1 + C 3 := by rw [IntKind.wrap_i64]; omega
  by_cases g : C 1 = 0
  · have hF : lastF C F (F 3) 1 = upd F 1 (F 3) := if_pos g
    rw [hF]
    have g' : (C 1 == 0) = true := by simpa using g
    have H1 := Lib.hid (And.intro (((hL.setFirst 1 (F 3) (by decide)).setCount 1 (C 1 + C 3) (by decide)).setCount 3 0 (by decide)).drew.drew ((((Turn.setR s 10 (.int .i64 (F 3)) w).trans (Turn.setR s 6 (.int .i64 (C 1 + C 3)) _)).trans (Turn.setR s 8 (.int .i64 0) _)).then (c := (((w.setCell ⟨s.r, 10, none⟩ (.int .i64 (F 3))).setCell ⟨s.r, 6, none⟩ (.int .i64 (C 1 + C 3))).setCell ⟨s.r, 8, none⟩ (.int .i64 0)).drew.drew) (Below.refl _ _).drew.drew))
    generalize hV : upd (upd C 1 (C 1 + C 3)) 3 0 = C' at H1
    generalize hG : upd F 1 (F 3) = F' at H1
    clear hL hF g
    go_enter Try.func75, Try.ntmps75
    go_wp2_with fail
    go_region
    go_wp2_with fail
    go_region
    go_wp2_with fail
    go_end0
    exact ⟨rfl, H1.out⟩
  · have hF : lastF C F (F 3) 1 = F := if_neg g
    rw [hF]
    have g' : (C 1 == 0) = false := by simpa using g
    have H1 := Lib.hid (And.intro ((hL.setCount 1 (C 1 + C 3) (by decide)).setCount 3 0 (by decide)).drew (((Turn.setR s 6 (.int .i64 (C 1 + C 3)) w).trans (Turn.setR s 8 (.int .i64 0) _)).then (c := ((w.setCell ⟨s.r, 6, none⟩ (.int .i64 (C 1 + C 3))).setCell ⟨s.r, 8, none⟩ (.int .i64 0)).drew) (Below.refl _ _).drew))
    generalize hV : upd (upd C 1 (C 1 + C 3)) 3 0 = C' at H1
    clear hL hF g
    go_enter Try.func75, Try.ntmps75
    go_wp2_with fail
    go_region
    go_wp2_with fail
    go_end0
    exact ⟨rfl, H1.out⟩

set_option maxHeartbeats 4000000 in
theorem recolour_10 (s : Spot) (C F D : Nat → Int) (w : World) (hL : Lies s C F D w) (h0 : 0 ≤ C 1) (h1 : C 1 ≤ 1000) (h2 : 0 ≤ C 0) (h3 : C 0 ≤ 1000) :
    Calls Try.prog 75 #[.pointer (some ⟨s.r, 0, none⟩), .int .i64 1, .int .i64 0] w fun e w' => e = .returned (.tuple #[]) ∧ Lies s (upd (upd C 0 (C 0 + C 1)) 1 0) (lastF C F (F 1) 0) D w' ∧ Turn s w w' := by
  have c1 : w.cell? ⟨s.r, 6, none⟩ = some (.int .i64 (C 1)) := hL.count 1 (by decide)
  have c0 : w.cell? ⟨s.r, 5, none⟩ = some (.int .i64 (C 0)) := hL.count 0 (by decide)
  have f1 : w.cell? ⟨s.r, 10, none⟩ = some (.int .i64 (F 1)) := hL.first 1 (by decide)
  have f0 : w.cell? ⟨s.r, 9, none⟩ = some (.int .i64 (F 0)) := hL.first 0 (by decide)
  have z6 := hL.fz 6
  have z5 := hL.fz 5
  have z10 := hL.fz 10
  have z9 := hL.fz 9
  have hw : IntKind.i64.wrap (C 0 + C 1) = C 0 + C 1 := by rw [IntKind.wrap_i64]; omega
  by_cases g : C 0 = 0
  · have hF : lastF C F (F 1) 0 = upd F 0 (F 1) := if_pos g
    rw [hF]
    have g' : (C 0 == 0) = true := by simpa using g
    have H1 := Lib.hid (And.intro (((hL.setFirst 0 (F 1) (by decide)).setCount 0 (C 0 + C 1) (by decide)).setCount 1 0 (by decide)).drew.drew ((((Turn.setR s 9 (.int .i64 (F 1)) w).trans (Turn.setR s 5 (.int .i64 (C 0 + C 1)) _)).trans (Turn.setR s 6 (.int .i64 0) _)).then (c := (((w.setCell ⟨s.r, 9, none⟩ (.int .i64 (F 1))).setCell ⟨s.r, 5, none⟩ (.int .i64 (C 0 + C 1))).setCell ⟨s.r, 6, none⟩ (.int .i64 0)).drew.drew) (Below.refl _ _).drew.drew))
    generalize hV : upd (upd C 0 (C 0 + C 1)) 1 0 = C' at H1
    generalize hG : upd F 0 (F 1) = F' at H1
    clear hL hF g
    go_enter Try.func75, Try.ntmps75
    go_wp2_with fail
    go_region
    go_wp2_with fail
    go_region
    go_wp2_with fail
    go_end0
    exact ⟨rfl, H1.out⟩
  · have hF : lastF C F (F 1) 0 = F := if_neg g
    rw [hF]
    have g' : (C 0 == 0) = false := by simpa using g
    have H1 := Lib.hid (And.intro ((hL.setCount 0 (C 0 + C 1) (by decide)).setCount 1 0 (by decide)).drew (((Turn.setR s 5 (.int .i64 (C 0 + C 1)) w).trans (Turn.setR s 6 (.int .i64 0) _)).then (c := ((w.setCell ⟨s.r, 5, none⟩ (.int .i64 (C 0 + C 1))).setCell ⟨s.r, 6, none⟩ (.int .i64 0)).drew) (Below.refl _ _).drew))
    generalize hV : upd (upd C 0 (C 0 + C 1)) 1 0 = C' at H1
    clear hL hF g
    go_enter Try.func75, Try.ntmps75
    go_wp2_with fail
    go_region
    go_wp2_with fail
    go_end0
    exact ⟨rfl, H1.out⟩

end Go.Proofs.Ytbjlpmjalidfkaa
