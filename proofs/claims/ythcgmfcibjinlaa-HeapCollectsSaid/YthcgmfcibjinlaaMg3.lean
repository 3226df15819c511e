import Derived.Laws.EntriesVeiled
import Derived.RangeFuncNested
import Derived.RangeFuncBound
import Derived.RangeFuncCalls
import Derived.RangeFuncLeaves
import Derived.Shelf.Abstract
import Derived.Shelf.RegionOpen
import Derived.OwnWalkIn
import Derived.TacticsInMore
import Derived.LoopNIn
import Derived.LoopIn
import Derived.RangeFuncBox
import Derived.Maps.AppendAt
import Derived.Test.YthcgmfcibjinlaaMg2
/- A ring by its rows: what each call tells, and which rows are there behind it. -/
namespace Go.Proofs.Ythcgmfcibjinlaa
open Go.RowKit

/-- A RING, BY ITS ROWS. -/
def Ring (s : Spot) (R : Rows) (w : World) : Prop := ∃ C F D, Lies s C F D w ∧ Inv s.n D C F R

theorem Ring.later {s : Spot} {R : Rows} {w w' : World} (h : Ring s R w) (hb : Below w.heap.size w w') : Ring s R w' := by
  obtain ⟨C, F, D, h1, h2⟩ := h
  exact ⟨C, F, D, h1.later hb, h2⟩

section
variable {n : Nat} {D C F : Nat → Int} {R : Rows}
theorem Inv.b0 (h : Inv n D C F R) : 0 ≤ C 0 ∧ C 0 ≤ 1000 := by
  have := h.small
  have := h.c0
  simp [Rows.all] at *
  omega
theorem Inv.b1 (h : Inv n D C F R) : 0 ≤ C 1 ∧ C 1 ≤ 1000 := by
  have := h.small
  have := h.c1
  simp [Rows.all] at *
  omega
theorem Inv.b2 (h : Inv n D C F R) : 0 ≤ C 2 ∧ C 2 ≤ 1000 := by
  have := h.small
  have := h.c2
  simp [Rows.all] at *
  omega
theorem Inv.b3 (h : Inv n D C F R) : 0 ≤ C 3 ∧ C 3 ≤ 1000 := by
  have := h.small
  have := h.c3
  simp [Rows.all] at *
  omega
theorem Inv.rng (h : Inv n D C F R) {x : Int} (hx : x ∈ R.all) : Rng n x := h.fit.rng x hx
end

theorem rng_around {D : Nat → Int} {n : Nat} {c : Int} {l : List Int} (hc : Cyc D (c :: l)) (hf : Fit n (c :: l)) : Rng n (D (c + 1).toNat) ∧ Rng n (D (c + 2).toNat) := by
  cases l with
  | nil =>
    rw [(cyc_one hc).1, (cyc_one hc).2]
    exact ⟨hf.rng c (by simp), hf.rng c (by simp)⟩
  | cons y l =>
    obtain ⟨z, hz, e, _⟩ := cyc_remove hc hf
    rw [cyc_next hc, e]
    exact ⟨hf.rng y (by simp), hf.rng z (List.mem_cons_of_mem _ hz)⟩

theorem rng_head {D : Nat → Int} {n : Nat} {l : List Int} (hc : Cyc D l) (hf : Fit n l) : l.headD 0 = 0 ∨ (Rng n (l.headD 0) ∧ Rng n (D (l.headD 0 + 2).toNat)) := by
  cases l with
  | nil => exact Or.inl rfl
  | cons x l => exact Or.inr ⟨hf.rng x (by simp), (rng_around hc hf).2⟩

set_option maxHeartbeats 1000000 in
theorem grow_out (s : Spot) (C F D : Nat → Int) (w : World) (hL : Lies s C F D w) (c : Int) (ho : ¬ Rng s.n c) :
    Calls Try.prog 35 #[.pointer (some ⟨s.r, 0, none⟩), .int .i64 c] w fun e w' => e = .returned (.int .i64 1) ∧ w' = w := by
  unfold Rng at ho
  have hn := hL.nb
  by_cases g : c < 1
  · have g' : decide (c < 1) = true := decide_eq_true g
    clear hL
    go_enter Try.func35, Try.ntmps35
    go_wp2_with fail
    go_ret
    exact ⟨rfl, rfl⟩
  · have g' : decide (c < 1) = false := decide_eq_false g
    obtain ⟨u, hA⟩ := hL.words
    have ca := hL.arena
    have hw : IntKind.i64.wrap ((s.n : Int) - 3) = (s.n : Int) - 3 := by rw [IntKind.wrap_i64]; omega
    have g2 : (s.n : Int) - 3 < c := by omega
    have g3 : decide ((s.n : Int) - 3 < c) = true := decide_eq_true g2
    have HA := Lib.hid hA
    clear hL hA ho
    go_enter Try.func35, Try.ntmps35
    go_wp2_with fail
    refine (len_any s.p s.d s.n D u w HA.out).mono ?_
    rintro e w2 ⟨rfl, rfl⟩
    clear HA
    go_wp2_with fail
    go_ret
    exact ⟨rfl, rfl⟩

set_option maxHeartbeats 1000000 in
theorem ring_grow (s : Spot) (R : Rows) (w : World) (hR : Ring s R w) (c : Int) (hf : Fit s.n (c :: R.all)) (hl : R.all.length < 1000) :
    Calls Try.prog 35 #[.pointer (some ⟨s.r, 0, none⟩), .int .i64 c] w fun e w' => e = .returned (.int .i64 0) ∧ Ring s (R.grow c) w' ∧ Turn s w w' := by
  obtain ⟨C, F, D, hL, hI⟩ := hR
  have hc : Rng s.n c := hf.rng c (by simp)
  have hn := hL.nb
  unfold Rng at hc
  have g' : decide (c < 1) = false := decide_eq_false (by omega)
  obtain ⟨u, hA⟩ := hL.words
  have ca := hL.arena
  have hw : IntKind.i64.wrap ((s.n : Int) - 3) = (s.n : Int) - 3 := by rw [IntKind.wrap_i64]; omega
  have g3 : decide ((s.n : Int) - 3 < c) = false := decide_eq_false (by omega)
  have hx := rng_head hI.cyc (hf.tail)
  rw [← hI.start0] at hx
  have h1 := start_0 s C F D w hL
  have h2 := insert_any s C F D w hL c (start0 C F) hc hx
  have h3 : ∀ w, Lies s C F (inserted D c (start0 C F)) w → _ := fun w h => enterFirst_0 s C F _ w h c hI.b0.1 hI.b0.2
  have h4 : ∀ w, Lies s (upd C 0 (C 0 + 1)) (upd F 0 c) (inserted D c (start0 C F)) w → Ring s (R.grow c) w := fun w h => ⟨_, _, _, h, hI.grow hf hl⟩
  have HA := Lib.hid hA
  have H1 := Lib.hid h1
  have H2 := Lib.hid h2
  have H3 := Lib.hid h3
  have H4 := Lib.hid h4
  generalize start0 C F = x at H1 H2 H3 H4
  clear hL hI hA hc hf hl hx h1 h2 h3 h4
  go_enter Try.func35, Try.ntmps35
  go_wp2_with fail
  refine (len_any s.p s.d s.n D u w HA.out).mono ?_
  rintro e w2 ⟨rfl, rfl⟩
  clear HA
  go_wp2_with fail
  refine H1.out.mono ?_
  rintro e w3 ⟨rfl, rfl⟩
  clear H1
  go_wp2_with fail
  refine H2.out.mono ?_
  rintro e w4 ⟨rfl, hL4, hq4⟩
  have HL4 := Lib.hid hL4
  have HQ4 := Lib.hid hq4
  clear H2 hL4 hq4 ca
  go_wp2_with fail
  refine (H3.out _ HL4.out).mono ?_
  rintro e w5 ⟨rfl, hL5, hq5⟩
  have HE := Lib.hid (And.intro (H4.out _ hL5) (HQ4.out.trans hq5))
  clear H3 hL5 hq5 HL4 HQ4
  go_wp2_with fail
  go_ret
  exact ⟨rfl, HE.out⟩

set_option maxHeartbeats 1000000 in
theorem ring_alloc_full (s : Spot) (R : Rows) (w : World) (hR : Ring s R w) (hW : R.white = []) :
    Calls Try.prog 36 #[.pointer (some ⟨s.r, 0, none⟩)] w fun e w' => e = .returned (.tuple #[.int .i64 0, .int .i64 2]) ∧ w' = w := by
  obtain ⟨C, F, D, hL, hI⟩ := hR
  have e0 : C 0 = 0 := by rw [hI.c0, hW]; rfl
  have c0 : w.cell? ⟨s.r, 5, none⟩ = some (.int .i64 (C 0)) := hL.count 0 (by decide)
  rw [e0] at c0
  clear hL hI
  go_enter Try.func36, Try.ntmps36
  go_wp2_with fail
  go_ret2
  exact ⟨rfl, rfl⟩

set_option maxHeartbeats 1000000 in
theorem ring_alloc (s : Spot) (R : Rows) (w : World) (hR : Ring s R w) (c : Int) (l : List Int) (hW : R.white = c :: l) :
    Calls Try.prog 36 #[.pointer (some ⟨s.r, 0, none⟩)] w fun e w' => e = .returned (.tuple #[.int .i64 c, .int .i64 0]) ∧ Ring s R.alloc w' ∧ Turn s w w' := by
  obtain ⟨C, F, D, hL, hI⟩ := hR
  have hc : Rng s.n c := hI.rng (by simp [Rows.all, hW])
  have e0 : C 0 = l.length + 1 := by rw [hI.c0, hW]; simp
  have g0 : (C 0 == 0) = false := by simp; omega
  have ef : F 0 = c := hI.f0 c l hW
  have c0 : w.cell? ⟨s.r, 5, none⟩ = some (.int .i64 (C 0)) := hL.count 0 (by decide)
  have f0 : w.cell? ⟨s.r, 9, none⟩ = some (.int .i64 (F 0)) := hL.first 0 (by decide)
  rw [ef] at f0
  have h1 := leave_0 s C F D w hL c hc hI.b0.1 hI.b0.2
  have h2 : ∀ w, Lies s (upd C 0 (C 0 - 1)) (leftF D F c 0) D w → _ := fun w h => enterLast_3 s _ _ D w h c (show 0 ≤ C 3 from hI.b3.1) (show C 3 ≤ 1000 from hI.b3.2)
  have h3 : ∀ w, Lies s (upd (upd C 0 (C 0 - 1)) 3 (upd C 0 (C 0 - 1) 3 + 1)) (lastF (upd C 0 (C 0 - 1)) (leftF D F c 0) c 3) D w → Ring s R.alloc w := fun w h => ⟨_, _, _, h, hI.alloc hW⟩
  have H1 := Lib.hid h1
  have H2 := Lib.hid h2
  have H3 := Lib.hid h3
  generalize C 0 = x at c0 g0 H1 H2 H3
  clear hL hI hc hW ef h1 h2 h3 e0
  go_enter Try.func36, Try.ntmps36
  go_wp2_with fail
  refine H1.out.mono ?_
  rintro e w4 ⟨rfl, hL4, hq4⟩
  have HL4 := Lib.hid hL4
  have HQ4 := Lib.hid hq4
  clear H1 hL4 hq4 c0 f0
  go_wp2_with fail
  refine (H2.out _ HL4.out).mono ?_
  rintro e w5 ⟨rfl, hL5, hq5⟩
  have HE := Lib.hid (And.intro (H3.out _ hL5) (HQ4.out.trans hq5))
  clear H3 hL5 hq5 HL4 HQ4
  go_wp2_with fail
  go_ret2
  exact ⟨rfl, HE.out⟩

set_option maxHeartbeats 1000000 in
theorem ring_drop_full (s : Spot) (R : Rows) (w : World) (hR : Ring s R w) (hW : R.white = []) :
    Calls Try.prog 47 #[.pointer (some ⟨s.r, 0, none⟩)] w fun e w' => e = .returned (.tuple #[.int .i64 0, .int .i64 2]) ∧ w' = w := by
  obtain ⟨C, F, D, hL, hI⟩ := hR
  have e0 : C 0 = 0 := by rw [hI.c0, hW]; rfl
  have c0 : w.cell? ⟨s.r, 5, none⟩ = some (.int .i64 (C 0)) := hL.count 0 (by decide)
  rw [e0] at c0
  clear hL hI
  go_enter Try.func47, Try.ntmps47
  go_wp2_with fail
  go_ret2
  exact ⟨rfl, rfl⟩

set_option maxHeartbeats 1000000 in
theorem ring_drop (s : Spot) (R : Rows) (w : World) (hR : Ring s R w) (c : Int) (l : List Int) (hW : R.white = c :: l) :
    Calls Try.prog 47 #[.pointer (some ⟨s.r, 0, none⟩)] w fun e w' => e = .returned (.tuple #[.int .i64 c, .int .i64 0]) ∧ Ring s R.drop w' ∧ Turn s w w' := by
  obtain ⟨C, F, D, hL, hI⟩ := hR
  have hc : Rng s.n c := hI.rng (by simp [Rows.all, hW])
  have e0 : C 0 = l.length + 1 := by rw [hI.c0, hW]; simp
  have g0 : (C 0 == 0) = false := by simp; omega
  have ef : F 0 = c := hI.f0 c l hW
  have c0 : w.cell? ⟨s.r, 5, none⟩ = some (.int .i64 (C 0)) := hL.count 0 (by decide)
  have f0 : w.cell? ⟨s.r, 9, none⟩ = some (.int .i64 (F 0)) := hL.first 0 (by decide)
  rw [ef] at f0
  have ea : R.all = c :: (l ++ (R.frm ++ (R.grey ++ R.black))) := by simp [Rows.all, hW]
  have hr := rng_around (D := D) (by rw [← ea]; exact hI.cyc) (by rw [← ea]; exact hI.fit)
  have h1 := leave_0 s C F D w hL c hc hI.b0.1 hI.b0.2
  have h2 : ∀ w, Lies s (upd C 0 (C 0 - 1)) (leftF D F c 0) D w → _ := fun w h => remove_any s _ _ D w h c hc hr.1 hr.2
  have h3 : ∀ w, Lies s (upd C 0 (C 0 - 1)) (leftF D F c 0) (removed D c) w → Ring s R.drop w := fun w h => ⟨_, _, _, h, hI.drop hW⟩
  have H1 := Lib.hid h1
  have H2 := Lib.hid h2
  have H3 := Lib.hid h3
  generalize C 0 = x at c0 g0 H1 H2 H3
  clear hL hI hc hW ef h1 h2 h3 e0 ea hr
  go_enter Try.func47, Try.ntmps47
  go_wp2_with fail
  refine H1.out.mono ?_
  rintro e w4 ⟨rfl, hL4, hq4⟩
  have HL4 := Lib.hid hL4
  have HQ4 := Lib.hid hq4
  clear H1 hL4 hq4 c0 f0
  go_wp2_with fail
  refine (H2.out _ HL4.out).mono ?_
  rintro e w5 ⟨rfl, hL5, hq5⟩
  have HE := Lib.hid (And.intro (H3.out _ hL5) (HQ4.out.trans hq5))
  clear H3 hL5 hq5 HL4 HQ4
  go_wp2_with fail
  go_ret2
  exact ⟨rfl, HE.out⟩

set_option maxHeartbeats 1000000 in
theorem ring_shade_none (s : Spot) (R : Rows) (w : World) (hR : Ring s R w) (c : Int) (hW : R.frm = []) :
    Calls Try.prog 42 #[.pointer (some ⟨s.r, 0, none⟩), .int .i64 c] w fun e w' => e = .returned (.int .i64 20) ∧ w' = w := by
  obtain ⟨C, F, D, hL, hI⟩ := hR
  have e0 : C 1 = 0 := by rw [hI.c1, hW]; rfl
  have c0 : w.cell? ⟨s.r, 6, none⟩ = some (.int .i64 (C 1)) := hL.count 1 (by decide)
  rw [e0] at c0
  clear hL hI
  go_enter Try.func42, Try.ntmps42
  go_wp2_with fail
  go_ret
  exact ⟨rfl, rfl⟩

set_option maxHeartbeats 1000000 in
theorem ring_shade (s : Spot) (R : Rows) (w : World) (hR : Ring s R w) (c : Int) (hW : c ∈ R.frm) :
    Calls Try.prog 42 #[.pointer (some ⟨s.r, 0, none⟩), .int .i64 c] w fun e w' => e = .returned (.int .i64 0) ∧ Ring s (R.shade c) w' ∧ Turn s w w' := by
  obtain ⟨C, F, D, hL, hI⟩ := hR
  obtain ⟨l, m, _, hf, he⟩ := List.exists_erase_eq hW
  obtain ⟨hI2, hfit, hlen⟩ := hI.out hf
  have hs : R.shade c = { ({ R with frm := l ++ m } : Rows) with grey := R.grey ++ [c] } := by simp [Rows.shade, he]
  have hI3 := hI2.in hfit hlen
  have hc : Rng s.n c := hfit.rng c (by simp)
  have e0 : C 1 = l.length + m.length + 1 := by rw [hI.c1, hf]; simp; omega
  have g0 : (C 1 == 0) = false := by simp; omega
  have c0 : w.cell? ⟨s.r, 6, none⟩ = some (.int .i64 (C 1)) := hL.count 1 (by decide)
  have hcy : Cyc D (c :: (m ++ (R.grey ++ R.black) ++ (R.white ++ l))) := by
    have e : R.all = (R.white ++ l) ++ (c :: (m ++ (R.grey ++ R.black))) := by simp [Rows.all, hf]
    have := cyc_rot (D := D) (a := R.white ++ l) (b := c :: (m ++ (R.grey ++ R.black))) (by rw [← e]; exact hI.cyc)
    simpa using this
  have hfit2 : Fit s.n (c :: (m ++ (R.grey ++ R.black) ++ (R.white ++ l))) := by
    refine hfit.perm (List.Perm.cons c ?_)
    have e : (Rows.all { R with frm := l ++ m }) = (R.white ++ l) ++ (m ++ (R.grey ++ R.black)) := by simp [Rows.all]
    rw [e]
    exact List.perm_append_comm
  have hr := rng_around hcy hfit2
  have hx : start3 (upd C 1 (C 1 - 1)) (leftF D F c 1) = 0 ∨ (Rng s.n (start3 (upd C 1 (C 1 - 1)) (leftF D F c 1)) ∧ Rng s.n (removed D c (start3 (upd C 1 (C 1 - 1)) (leftF D F c 1) + 2).toNat)) := by
    rw [hI2.start3]
    have e : (Rows.all { R with frm := l ++ m }) = (R.white ++ (l ++ m ++ R.grey)) ++ R.black := by simp [Rows.all]
    refine rng_head (cyc_rot (by rw [← e]; exact hI2.cyc)) ((hI2.fit).perm ?_)
    rw [e]
    exact List.perm_append_comm
  have h1 := leave_1 s C F D w hL c hc hI.b1.1 hI.b1.2
  have h2 : ∀ w, Lies s (upd C 1 (C 1 - 1)) (leftF D F c 1) D w → _ := fun w h => remove_any s _ _ D w h c hc hr.1 hr.2
  have h3 : ∀ w, Lies s (upd C 1 (C 1 - 1)) (leftF D F c 1) (removed D c) w → _ := fun w h => start_3 s _ _ _ w h
  have h4 : ∀ w, Lies s (upd C 1 (C 1 - 1)) (leftF D F c 1) (removed D c) w → _ := fun w h => insert_any s _ _ _ w h c _ hc hx
  have h5 : ∀ w, Lies s (upd C 1 (C 1 - 1)) (leftF D F c 1) (inserted (removed D c) c (start3 (upd C 1 (C 1 - 1)) (leftF D F c 1))) w → _ := fun w h => enterLast_2 s _ _ _ w h c hI2.b2.1 hI2.b2.2
  have h6 : ∀ w, Lies s (upd (upd C 1 (C 1 - 1)) 2 (upd C 1 (C 1 - 1) 2 + 1)) (lastF (upd C 1 (C 1 - 1)) (leftF D F c 1) c 2) (inserted (removed D c) c (start3 (upd C 1 (C 1 - 1)) (leftF D F c 1))) w → Ring s (R.shade c) w := fun w h => ⟨_, _, _, h, by rw [hs]; exact hI3⟩
  have H1 := Lib.hid h1
  have H2 := Lib.hid h2
  have H3 := Lib.hid h3
  have H4 := Lib.hid h4
  have H5 := Lib.hid h5
  have H6 := Lib.hid h6
  generalize upd C 1 (C 1 - 1) = C' at H1 H2 H3 H4 H5 H6
  generalize leftF D F c 1 = F' at H1 H2 H3 H4 H5 H6
  generalize start3 C' F' = x at H3 H4 H5 H6
  generalize C 1 = c1 at c0 g0
  clear hL hI hc hW hf he hI2 hfit hlen hs hI3 e0 hcy hfit2 hr hx h1 h2 h3 h4 h5 h6
  go_enter Try.func42, Try.ntmps42
  go_wp2_with fail
  refine H1.out.mono ?_
  rintro e w2 ⟨rfl, hL2, hq2⟩
  have HL2 := Lib.hid hL2
  have HQ2 := Lib.hid hq2
  clear H1 hL2 hq2 c0
  go_wp2_with fail
  refine (H2.out _ HL2.out).mono ?_
  rintro e w3 ⟨rfl, hL3, hq3⟩
  have HL3 := Lib.hid hL3
  have HQ3 := Lib.hid (HQ2.out.trans hq3)
  clear H2 hL3 hq3 HL2 HQ2
  go_wp2_with fail
  refine (H3.out _ HL3.out).mono ?_
  rintro e w4 ⟨rfl, rfl⟩
  clear H3
  go_wp2_with fail
  refine (H4.out _ HL3.out).mono ?_
  rintro e w5 ⟨rfl, hL5, hq5⟩
  have HL5 := Lib.hid hL5
  have HQ5 := Lib.hid (HQ3.out.trans hq5)
  clear H4 hL5 hq5 HL3 HQ3
  go_wp2_with fail
  refine (H5.out _ HL5.out).mono ?_
  rintro e w6 ⟨rfl, hL6, hq6⟩
  have HE := Lib.hid (And.intro (H6.out _ hL6) (HQ5.out.trans hq6))
  clear H5 H6 hL6 hq6 HL5 HQ5
  go_wp2_with fail
  go_ret
  exact ⟨rfl, HE.out⟩

set_option maxHeartbeats 1000000 in
theorem ring_next_none (s : Spot) (R : Rows) (w : World) (hR : Ring s R w) (hW : R.grey = []) :
    Calls Try.prog 44 #[.pointer (some ⟨s.r, 0, none⟩)] w fun e w' => e = .returned (.tuple #[.int .i64 0, .bool false]) ∧ w' = w := by
  obtain ⟨C, F, D, hL, hI⟩ := hR
  have e0 : C 2 = 0 := by rw [hI.c2, hW]; rfl
  have c0 : w.cell? ⟨s.r, 7, none⟩ = some (.int .i64 (C 2)) := hL.count 2 (by decide)
  rw [e0] at c0
  clear hL hI
  go_enter Try.func44, Try.ntmps44
  go_wp2_with fail
  go_ret2
  exact ⟨rfl, rfl⟩

set_option maxHeartbeats 4000000 in
theorem lies_next (s : Spot) (C F D : Nat → Int) (R : Rows) (w : World) (hL : Lies s C F D w) (hI : Inv s.n D C F R) (c : Int) (l : List Int) (hW : R.grey = l ++ [c]) :
    Calls Try.prog 44 #[.pointer (some ⟨s.r, 0, none⟩)] w fun e w' => e = .returned (.tuple #[.int .i64 c, .bool true]) ∧ Lies s C F D w' ∧ Turn s w w' := by
  have e0 : C 2 = l.length + 1 := by rw [hI.c2, hW]; simp
  have g0 : (C 2 == 0) = false := by simp; omega
  have c0 : w.cell? ⟨s.r, 7, none⟩ = some (.int .i64 (C 2)) := hL.count 2 (by decide)
  obtain ⟨x, hx, hxa, hxc⟩ := hI.lastGrey hW
  have hxr := hI.rng hxa
  have h1 : ∀ w, Lies s C F D w → _ := fun w h => start_3 s C F D w h
  have h2 : ∀ w, Lies s C F D w → _ := fun w h => last_any s C F D w h x hxr.1 hxr.2
  rw [hx] at h1
  rw [hxc] at h2
  have H1 := Lib.hid h1
  have H2 := Lib.hid h2
  have H0 := Lib.hid (And.intro hL.drew (Turn.of_below (s := s) (Below.refl w.heap.size w).drew))
  have cl := keep_last hL
  generalize C 2 = c2 at c0 g0
  clear hL hI hW e0 hx hxa hxc hxr h1 h2
  go_enter Try.func44, Try.ntmps44
  go_wp2_with fail
  go_region_held3 (fun W' => W'.cell? ⟨s.r, 3, none⟩ = some (.func (.func 99) #[] #[.pointer (some ⟨s.a2, 0, none⟩), .pointer (some ⟨s.n2, 0, none⟩)]))
    (first
      | assumption
      | exact keep_last hk9
      | exact keep_last H0.out.1)
    (first
      | (go_at_call 71; refine (H1.out _ H0.out.1).mono ?_; rintro e w2 ⟨rfl, rfl⟩; have hk9 := H0.out.1; clear H1)
      | (go_at_call 99; refine (H2.out _ H0.out.1).mono ?_; rintro e w3 ⟨rfl, hk9, hq3⟩; have H3 := Lib.hid (And.intro hk9 (H0.out.2.trans hq3)); clear H2 hq3))
  go_wp2_with fail
  go_ret2
  exact ⟨rfl, H3.out⟩

theorem ring_next (s : Spot) (R : Rows) (w : World) (hR : Ring s R w) (c : Int) (l : List Int) (hW : R.grey = l ++ [c]) :
    Calls Try.prog 44 #[.pointer (some ⟨s.r, 0, none⟩)] w fun e w' => e = .returned (.tuple #[.int .i64 c, .bool true]) ∧ Ring s R w' ∧ Turn s w w' := by
  obtain ⟨C, F, D, hL, hI⟩ := hR
  refine (lies_next s C F D R w hL hI c l hW).mono ?_
  rintro e w' ⟨rfl, h1, h2⟩
  exact ⟨rfl, ⟨C, F, D, h1, hI⟩, h2⟩

set_option maxHeartbeats 1000000 in
theorem ring_done_none (s : Spot) (R : Rows) (w : World) (hR : Ring s R w) (hW : R.grey = []) :
    Calls Try.prog 45 #[.pointer (some ⟨s.r, 0, none⟩)] w fun e w' => e = .returned (.int .i64 18) ∧ w' = w := by
  have H1 := Lib.hid (ring_next_none s R w hR hW)
  clear hR hW
  go_enter Try.func45, Try.ntmps45
  go_wp2_with fail
  refine H1.out.mono ?_
  rintro e w2 ⟨rfl, rfl⟩
  clear H1
  go_wp2_with fail
  go_ret
  exact ⟨rfl, rfl⟩

set_option maxHeartbeats 4000000 in
theorem ring_done (s : Spot) (R : Rows) (w : World) (hR : Ring s R w) (c : Int) (l : List Int) (hW : R.grey = l ++ [c]) :
    Calls Try.prog 45 #[.pointer (some ⟨s.r, 0, none⟩)] w fun e w' => e = .returned (.int .i64 0) ∧ Ring s R.done w' ∧ Turn s w w' := by
  obtain ⟨C, F, D, hL, hI⟩ := hR
  have b2 := hI.b2
  have h1 := lies_next s C F D R w hL hI c l hW
  have hw : IntKind.i64.wrap (C 2 - 1) = C 2 - 1 := by rw [IntKind.wrap_i64]; omega
  have h2 : ∀ w, Lies s (upd C 2 (C 2 - 1)) F D w → _ := fun w h => enterFirst_3 s _ F D w h c (show 0 ≤ C 3 from hI.b3.1) (show C 3 ≤ 1000 from hI.b3.2)
  have h3 : ∀ w, Lies s (upd (upd C 2 (C 2 - 1)) 3 (upd C 2 (C 2 - 1) 3 + 1)) (upd F 3 c) D w → Ring s R.done w := fun w h => ⟨_, _, _, h, hI.done hW⟩
  have H1 := Lib.hid h1
  have H2 := Lib.hid h2
  have H3 := Lib.hid h3
  clear hL hI hW h1 h2 h3 b2
  go_enter Try.func45, Try.ntmps45
  go_wp2_with fail
  refine H1.out.mono ?_
  rintro e w2 ⟨rfl, hL2, hq2⟩
  have c0 : w2.cell? ⟨s.r, 7, none⟩ = some (.int .i64 (C 2)) := hL2.count 2 (by decide)
  have z0 := hL2.fz 7
  have H4 := Lib.hid (And.intro (hL2.setCount 2 (C 2 - 1) (by decide)).drew ((hq2.trans (Turn.setR s 7 (.int .i64 (C 2 - 1)) w2)).then (c := (w2.setCell ⟨s.r, 7, none⟩ (.int .i64 (C 2 - 1))).drew) (Below.refl _ _).drew))
  generalize upd C 2 (C 2 - 1) = C' at H2 H3 H4
  clear hL2 hq2 H1
  go_wp2_with fail
  go_region
  go_wp2_with fail
  refine (H2.out _ H4.out.1).mono ?_
  rintro e w5 ⟨rfl, hL5, hq5⟩
  have HE := Lib.hid (And.intro (H3.out _ hL5) (H4.out.2.trans hq5))
  clear H2 H3 hL5 hq5 H4 c0 z0
  go_wp2_with fail
  go_ret
  exact ⟨rfl, HE.out⟩

set_option maxHeartbeats 1000000 in
theorem ring_begin_not (s : Spot) (R : Rows) (w : World) (hR : Ring s R w) (hW : ¬ (R.frm = [] ∧ R.grey = [])) :
    Calls Try.prog 37 #[.pointer (some ⟨s.r, 0, none⟩)] w fun e w' => e = .returned (.int .i64 18) ∧ w' = w := by
  obtain ⟨C, F, D, hL, hI⟩ := hR
  have e1 := hI.c1
  have e2 := hI.c2
  have c1 : w.cell? ⟨s.r, 6, none⟩ = some (.int .i64 (C 1)) := hL.count 1 (by decide)
  have c2 : w.cell? ⟨s.r, 7, none⟩ = some (.int .i64 (C 2)) := hL.count 2 (by decide)
  by_cases g : R.frm = []
  · have g1 : decide (0 < C 1) = false := decide_eq_false (by rw [e1, g]; decide)
    have g2 : decide (0 < C 2) = true := decide_eq_true (by
      rw [e2]
      cases h : R.grey with
      | nil => exact absurd ⟨g, h⟩ hW
      | cons x l => simp)
    clear hL hI hW e1 e2 g
    go_enter Try.func37, Try.ntmps37
    go_wp2_with fail
    go_ret
    exact ⟨rfl, rfl⟩
  · have g1 : decide (0 < C 1) = true := decide_eq_true (by
      rw [e1]
      cases h : R.frm with
      | nil => exact absurd h g
      | cons x l => simp)
    clear hL hI hW e1 e2 g
    go_enter Try.func37, Try.ntmps37
    go_wp2_with fail
    go_ret
    exact ⟨rfl, rfl⟩

set_option maxHeartbeats 1000000 in
theorem ring_begin (s : Spot) (R : Rows) (w : World) (hR : Ring s R w) (g1 : R.frm = []) (g2 : R.grey = []) :
    Calls Try.prog 37 #[.pointer (some ⟨s.r, 0, none⟩)] w fun e w' => e = .returned (.int .i64 0) ∧ Ring s R.begin w' ∧ Turn s w w' := by
  obtain ⟨C, F, D, hL, hI⟩ := hR
  have e1 : C 1 = 0 := by rw [hI.c1, g1]; rfl
  have e2 : C 2 = 0 := by rw [hI.c2, g2]; rfl
  have c1 : w.cell? ⟨s.r, 6, none⟩ = some (.int .i64 (C 1)) := hL.count 1 (by decide)
  have c2 : w.cell? ⟨s.r, 7, none⟩ = some (.int .i64 (C 2)) := hL.count 2 (by decide)
  rw [e1] at c1
  rw [e2] at c2
  have h1 := recolour_31 s C F D w hL hI.b3.1 hI.b3.2 hI.b1.1 hI.b1.2
  have h3 : ∀ w, Lies s (upd (upd C 1 (C 1 + C 3)) 3 0) (lastF C F (F 3) 1) D w → Ring s R.begin w := fun w h => ⟨_, _, _, h, by rw [show lastF C F (F 3) 1 = upd F 1 (F 3) from if_pos e1]; exact hI.begin g1 g2⟩
  have H1 := Lib.hid h1
  have H3 := Lib.hid h3
  clear hL hI g1 g2 e1 e2 h1 h3
  go_enter Try.func37, Try.ntmps37
  go_wp2_with fail
  refine H1.out.mono ?_
  rintro e w2 ⟨rfl, hL2, hq2⟩
  have HE := Lib.hid (And.intro (H3.out _ hL2) hq2)
  clear H1 H3 hL2 hq2 c1 c2
  go_wp2_with fail
  go_ret
  exact ⟨rfl, HE.out⟩

set_option maxHeartbeats 1000000 in
theorem ring_end_not (s : Spot) (R : Rows) (w : World) (hR : Ring s R w) (hW : R.grey ≠ []) :
    Calls Try.prog 46 #[.pointer (some ⟨s.r, 0, none⟩)] w fun e w' => e = .returned (.int .i64 18) ∧ w' = w := by
  obtain ⟨C, F, D, hL, hI⟩ := hR
  have e2 := hI.c2
  have c2 : w.cell? ⟨s.r, 7, none⟩ = some (.int .i64 (C 2)) := hL.count 2 (by decide)
  have g2 : decide (0 < C 2) = true := decide_eq_true (by
    rw [e2]
    cases h : R.grey with
    | nil => exact absurd h hW
    | cons x l => simp)
  clear hL hI hW e2
  go_enter Try.func46, Try.ntmps46
  go_wp2_with fail
  go_ret
  exact ⟨rfl, rfl⟩

set_option maxHeartbeats 1000000 in
theorem ring_end (s : Spot) (R : Rows) (w : World) (hR : Ring s R w) (g2 : R.grey = []) :
    Calls Try.prog 46 #[.pointer (some ⟨s.r, 0, none⟩)] w fun e w' => e = .returned (.int .i64 0) ∧ Ring s R.fin w' ∧ Turn s w w' := by
  obtain ⟨C, F, D, hL, hI⟩ := hR
  have e2 : C 2 = 0 := by rw [hI.c2, g2]; rfl
  have c2 : w.cell? ⟨s.r, 7, none⟩ = some (.int .i64 (C 2)) := hL.count 2 (by decide)
  rw [e2] at c2
  have h1 := recolour_10 s C F D w hL hI.b1.1 hI.b1.2 hI.b0.1 hI.b0.2
  have h3 : ∀ w, Lies s (upd (upd C 0 (C 0 + C 1)) 1 0) (lastF C F (F 1) 0) D w → Ring s R.fin w := fun w h => ⟨_, _, _, h, hI.fin g2⟩
  have H1 := Lib.hid h1
  have H3 := Lib.hid h3
  clear hL hI g2 e2 h1 h3
  go_enter Try.func46, Try.ntmps46
  go_wp2_with fail
  refine H1.out.mono ?_
  rintro e w2 ⟨rfl, hL2, hq2⟩
  have HE := Lib.hid (And.intro (H3.out _ hL2) hq2)
  clear H1 H3 hL2 hq2 c2
  go_wp2_with fail
  go_ret
  exact ⟨rfl, HE.out⟩

set_option maxHeartbeats 1000000 in
theorem ring_counts (s : Spot) (R : Rows) (w : World) (hR : Ring s R w) :
    Calls Try.prog 89 #[.pointer (some ⟨s.r, 0, none⟩)] w fun e w' => e = .returned (.agg #[.int .i64 R.white.length, .int .i64 R.frm.length, .int .i64 R.grey.length, .int .i64 R.black.length]) ∧ Below w.heap.size w w' := by
  obtain ⟨C, F, D, hL, hI⟩ := hR
  have c0 : w.cell? ⟨s.r, 5, none⟩ = some (.int .i64 (C 0)) := hL.count 0 (by decide)
  have c1 : w.cell? ⟨s.r, 6, none⟩ = some (.int .i64 (C 1)) := hL.count 1 (by decide)
  have c2 : w.cell? ⟨s.r, 7, none⟩ = some (.int .i64 (C 2)) := hL.count 2 (by decide)
  have c3 : w.cell? ⟨s.r, 8, none⟩ = some (.int .i64 (C 3)) := hL.count 3 (by decide)
  rw [hI.c0] at c0
  rw [hI.c1] at c1
  rw [hI.c2] at c2
  rw [hI.c3] at c3
  have lr := hL.lr
  have hne : s.r ≠ w.heap.size := by omega
  clear hL hI
  go_enter Try.func89, Try.ntmps89
  go_wp2_with fail
  refine bodyPost_ret (v := .agg #[.int .i64 R.white.length, .int .i64 R.frm.length, .int .i64 R.grey.length, .int .i64 R.black.length]) (by simp [results, Try.results89, go_sem]) rfl ⟨rfl, ?_⟩
  exact (Below.refl _ _).alloc (Nat.le_refl _) _

end Go.Proofs.Ythcgmfcibjinlaa

/- A ring by its rows and its arena's words: which words a call leaves as they are. -/
namespace Go.Proofs.Ythcgmfcibjinlaa
open Go.RowKit

/-- The words that are a ring's links. -/
def Links (R : Rows) (j : Nat) : Prop := ∃ x, x ∈ R.all ∧ ((j : Int) = x + 1 ∨ (j : Int) = x + 2)
/-- No other word has turned. -/
def SameBut (R : Rows) (D D' : Nat → Int) : Prop := ∀ j, ¬ Links R j → D' j = D j
theorem SameBut.refl (R : Rows) (D : Nat → Int) : SameBut R D D := fun _ _ => rfl
theorem SameBut.trans {R : Rows} {a b c : Nat → Int} (h : SameBut R a b) (k : SameBut R b c) : SameBut R a c := fun j hj => (k j hj).trans (h j hj)

theorem same_join {D : Nat → Int} {a b : Int} {j : Nat} (ha : 0 ≤ a) (hb : 0 ≤ b) (h1 : (j : Int) ≠ a + 1) (h2 : (j : Int) ≠ b + 2) : join D a b j = D j := by
  unfold join put
  rw [if_neg (by omega), if_neg (by omega)]
theorem same_inserted {D : Nat → Int} {n : Nat} {c : Int} {l : List Int} {R : Rows} (hc : Cyc D l) (hf : Fit n (c :: l)) (hR : ∀ x, x ∈ c :: l → x ∈ R.all) : SameBut R D (inserted D c (l.headD 0)) := by
  intro j hj
  have hn : ∀ x, x ∈ c :: l → (j : Int) ≠ x + 1 ∧ (j : Int) ≠ x + 2 := fun x hx => ⟨fun e => hj ⟨x, hR x hx, Or.inl e⟩, fun e => hj ⟨x, hR x hx, Or.inr e⟩⟩
  have hr : ∀ x, x ∈ c :: l → 0 ≤ x := fun x hx => by have := hf.rng x hx; omega
  have c1 := hn c (by simp)
  have c0 := hr c (by simp)
  cases l with
  | nil =>
    simp only [List.headD_nil, inserted]
    exact same_join c0 c0 c1.1 c1.2
  | cons x l =>
    obtain ⟨z, hz, e, -⟩ := cyc_insert hc hf
    have x0 := hf.rng x (by simp)
    have z0 := hr z (List.mem_cons_of_mem _ hz)
    have z1 := hn z (List.mem_cons_of_mem _ hz)
    have x1 := hn x (by simp)
    have hx : ¬ x = 0 := by omega
    have ei : inserted D c x = join (join D (D (x + 2).toNat) c) c x := if_neg hx
    rw [List.headD_cons, ei, e, same_join c0 (by omega) c1.1 x1.2, same_join z0 c0 z1.1 c1.2]
theorem same_removed {D : Nat → Int} {n : Nat} {c : Int} {l : List Int} {R : Rows} (hc : Cyc D (c :: l)) (hf : Fit n (c :: l)) (hR : ∀ x, x ∈ c :: l → x ∈ R.all) : SameBut R D (removed D c) := by
  intro j hj
  have hn : ∀ x, x ∈ c :: l → (j : Int) ≠ x + 1 ∧ (j : Int) ≠ x + 2 := fun x hx => ⟨fun e => hj ⟨x, hR x hx, Or.inl e⟩, fun e => hj ⟨x, hR x hx, Or.inr e⟩⟩
  have hr : ∀ x, x ∈ c :: l → 0 ≤ x := fun x hx => by have := hf.rng x hx; omega
  cases l with
  | nil =>
    have c1 := hn c (by simp)
    have c0 := hr c (by simp)
    unfold removed
    rw [(cyc_one hc).1, (cyc_one hc).2]
    exact same_join c0 c0 c1.1 c1.2
  | cons y l =>
    obtain ⟨z, hz, e, -⟩ := cyc_remove hc hf
    have z0 := hr z (List.mem_cons_of_mem _ hz)
    have z1 := hn z (List.mem_cons_of_mem _ hz)
    have y0 := hr y (by simp)
    have y1 := hn y (by simp)
    unfold removed
    rw [cyc_next hc, e]
    exact same_join z0 y0 z1.1 y1.2

/-- A RING, BY ITS ROWS AND ITS ARENA's WORDS. -/
def RingD (s : Spot) (R : Rows) (D : Nat → Int) (w : World) : Prop := ∃ C F, Lies s C F D w ∧ Inv s.n D C F R
theorem RingD.ring {s : Spot} {R : Rows} {D : Nat → Int} {w : World} (h : RingD s R D w) : Ring s R w := by
  obtain ⟨C, F, h1, h2⟩ := h
  exact ⟨C, F, D, h1, h2⟩
theorem RingD.later {s : Spot} {R : Rows} {D : Nat → Int} {w w' : World} (h : RingD s R D w) (hb : Below w.heap.size w w') : RingD s R D w' := by
  obtain ⟨C, F, h1, h2⟩ := h
  exact ⟨C, F, h1.later hb, h2⟩
theorem RingD.fit {s : Spot} {R : Rows} {D : Nat → Int} {w : World} (h : RingD s R D w) : Fit s.n R.all := by
  obtain ⟨C, F, h1, h2⟩ := h
  exact h2.fit
theorem RingD.at {s : Spot} {R : Rows} {D : Nat → Int} {w : World} (h : RingD s R D w) : ∃ u, At w s.p s.d s.n D u := by
  obtain ⟨C, F, h1, h2⟩ := h
  exact h1.words
/-- A ring's links alone tell of it: whatever else turns in the arena. -/
theorem cyc_same {D D' : Nat → Int} {l : List Int} (hr : ∀ x, x ∈ l → 0 ≤ x) (hD : ∀ x, x ∈ l → D' (x + 1).toNat = D (x + 1).toNat ∧ D' (x + 2).toNat = D (x + 2).toNat) (hc : Cyc D l) : Cyc D' l := by
  have key : ∀ m : List Int, (∀ x, x ∈ m → x ∈ l) → Chain D m → Chain D' m := by
    intro m
    induction m with
    | nil => exact fun _ h => h
    | cons x m ih =>
      intro hm hC
      cases m with
      | nil => trivial
      | cons y m =>
        refine ⟨⟨(hD x (hm x (by simp))).1.trans hC.1.1, (hD y (hm y (by simp))).2.trans hC.1.2⟩, ih (fun z hz => hm z (List.mem_cons_of_mem _ hz)) hC.2⟩
  cases l with
  | nil => trivial
  | cons x l => exact key _ (fun z hz => by simp only [List.mem_cons, List.mem_append, List.not_mem_nil, or_false] at hz ⊢; rcases hz with h | h | h <;> simp [h]) hc

/-- A ring's struct and its closures' boxes stand, its arena lies anew: so it lies on. -/
theorem Lies.anew {s : Spot} {C F D D' : Nat → Int} {w w' : World} (h : Lies s C F D w) (_ : w.heap.size ≤ w'.heap.size) (hk : ∀ b, b = s.r ∨ b = s.a1 ∨ b = s.n1 ∨ b = s.a2 ∨ b = s.n2 → w'.heap[b]? = w.heap[b]?) (hA : ∃ u, At w' s.p s.d s.n D' u) : Lies s C F D' w' := by
  have o : ∀ b j v, (b = s.r ∨ b = s.a1 ∨ b = s.n1 ∨ b = s.a2 ∨ b = s.n2) → w.cell? ⟨b, j, none⟩ = some v → w'.cell? ⟨b, j, none⟩ = some v := fun b j v hb hv => (World.cell?_of_block (w := w) (hk b hb)).trans hv
  exact ⟨o _ _ _ (by simp) h.arena, o _ _ _ (by simp) h.nof, o _ _ _ (by simp) h.nset, o _ _ _ (by simp) h.lof, o _ _ _ (by simp) h.lset, fun k g => o _ _ _ (by simp) (h.count k g), fun k g => o _ _ _ (by simp) (h.first k g),
    fun j => (World.frozen?_of_block (w := w) (hk _ (by simp))).trans (h.fz j), o _ _ _ (by simp) h.ba1, o _ _ _ (by simp) h.bn1, o _ _ _ (by simp) h.ba2, o _ _ _ (by simp) h.bn2, hA, h.nb, h.rp, h.rd, h.a1', h.n1', h.a2', h.n2'⟩
theorem RingD.anew {s : Spot} {R : Rows} {D D' : Nat → Int} {w w' : World} (h : RingD s R D w) (hs : w.heap.size ≤ w'.heap.size) (hk : ∀ b, b = s.r ∨ b = s.a1 ∨ b = s.n1 ∨ b = s.a2 ∨ b = s.n2 → w'.heap[b]? = w.heap[b]?) (hA : ∃ u, At w' s.p s.d s.n D' u)
    (hD : ∀ j, Links R j → D' j = D j) : RingD s R D' w' := by
  obtain ⟨C, F, h1, h2⟩ := h
  refine ⟨C, F, h1.anew hs hk hA, ⟨h2.c0, h2.c1, h2.c2, h2.c3, h2.f0, h2.f1, h2.f2, h2.f3, cyc_same (fun x hx => by have := h2.fit.rng x hx; omega) (fun x hx => ?_) h2.cyc, h2.fit, h2.small⟩⟩
  have := h2.fit.rng x hx
  exact ⟨hD _ ⟨x, hx, Or.inl (by omega)⟩, hD _ ⟨x, hx, Or.inr (by omega)⟩⟩

end Go.Proofs.Ythcgmfcibjinlaa

/- A new ring. -/
namespace Go.Proofs.Ythcgmfcibjinlaa
open Go.RowKit

theorem mkfunc2 (fn : Fn) (first cap : Array Value) (w : World) : (Instr.makeFunc fn first cap).run Try.prog w = .ok (.func fn first cap) w := rfl

def Linked (p k : Nat) (w : World) (e : Ending) (w' : World) : Prop :=
  ∃ a n : Nat, e = .returned (.agg #[.func (.func 99) #[] #[.pointer (some ⟨a, 0, none⟩), .pointer (some ⟨n, 0, none⟩)], .func (.func 100) #[] #[.pointer (some ⟨a, 0, none⟩), .pointer (some ⟨n, 0, none⟩)]]) ∧
    w'.cell? ⟨a, 0, none⟩ = some (.pointer (some ⟨p, 0, none⟩)) ∧ w'.cell? ⟨n, 0, none⟩ = some (.int .i64 k) ∧ w.heap.size ≤ a ∧ w.heap.size ≤ n ∧ Below w.heap.size w w'

set_option maxHeartbeats 1000000 in
theorem linkAt_any (p k : Nat) (w : World) :
    Calls Try.prog 77 #[.pointer (some ⟨p, 0, none⟩), .int .i64 k] w (Linked p k w) := by
  have hmf := mkfunc2
  go_enter Try.func77, Try.ntmps77
  go_wp2_with fail
  refine bodyPost_ret (v := .agg #[.func (.func 99) #[] #[.pointer (some ⟨w.heap.size, 0, none⟩), .pointer (some ⟨w.heap.size + 1, 0, none⟩)], .func (.func 100) #[] #[.pointer (some ⟨w.heap.size, 0, none⟩), .pointer (some ⟨w.heap.size + 1, 0, none⟩)]]) (by simp [results, Try.results77, go_sem]) rfl ?_
  exact ⟨w.heap.size, w.heap.size + 1, rfl, by simp [go_sem], by simp [go_sem], Nat.le_refl _, by omega, (((Below.refl _ _).alloc (Nat.le_refl _) _).alloc (by simp) _).alloc (by simp; omega) _⟩

theorem later' {W W' : World} {a : Addr} {v : Value} (hb : Below W.heap.size W W') (h : W.cell? a = some v) : W'.cell? a = some v :=
  (hb.cell (World.block_lt_of_cell? _ _ h)).trans h

theorem onB' {w W W' : World} (h : Below w.heap.size w W) (hb : Below W.heap.size W W') : Below w.heap.size w W' := h.trans (hb.mono h.size)

def none4 : Rows := ⟨[], [], [], []⟩

def Newly (p d n : Nat) (w : World) (e : Ending) (w' : World) : Prop :=
  ∃ s : Spot, e = .returned (.pointer (some ⟨s.r, 0, none⟩)) ∧ s.p = p ∧ s.d = d ∧ s.n = n ∧ Ring s none4 w' ∧ Below w.heap.size w w' ∧ w.heap.size ≤ s.r

set_option maxHeartbeats 4000000 in
theorem ring_new (p d n : Nat) (D : Nat → Int) (u : Int) (w : World) (hA : At w p d n D u) (hn : n ≤ 65536) :
    Calls Try.prog 40 #[.pointer (some ⟨p, 0, none⟩)] w (Newly p d n w) := by
  have HA := Lib.hid hA
  clear hA
  go_enter Try.func40, Try.ntmps40
  go_wp2_with fail
  refine (linkAt_any p 1 w).mono ?_
  rintro e w2 ⟨a1, n1, rfl, x1, x2, x3, x4, hb2⟩
  have H2 := Lib.hid (And.intro x1 (And.intro x2 (And.intro x3 (And.intro x4 hb2))))
  clear x1 x2 x3 x4 hb2
  go_wp2_with fail
  refine (linkAt_any p 2 w2).mono ?_
  rintro e w3 ⟨a2, n2, rfl, x1, x2, x3, x4, hb3⟩
  have H3 := Lib.hid (And.intro x1 (And.intro x2 (And.intro x3 (And.intro x4 hb3))))
  clear x1 x2 x3 x4 hb3
  go_wp2_with fail
  obtain ⟨x1, x2, x3, x4, hb2⟩ := H2.out
  obtain ⟨y1, y2, y3, y4, hb3⟩ := H3.out
  have lp := HA.out.lp
  have ld := HA.out.ld
  have hs2 := hb2.size
  have hs3 := hb3.size
  have hb := onB' hb2 hb3
  refine bodyPost_ret (v := .pointer (some ⟨w3.heap.size, 0, none⟩)) (by simp [results, Try.results40, go_sem]) rfl ?_
  refine ⟨⟨w3.heap.size, p, d, n, a1, n1, a2, n2⟩, rfl, rfl, rfl, rfl, ⟨fun _ => 0, fun _ => 0, D, ?_, ?_⟩, hb.alloc (by omega) _, by simp; omega⟩
  · have hx := (Below.refl w3.heap.size w3).alloc (Nat.le_refl _) (.cells #[.pointer (some ⟨p, 0, none⟩), .func (.func 99) #[] #[.pointer (some ⟨a1, 0, none⟩), .pointer (some ⟨n1, 0, none⟩)], .func (.func 100) #[] #[.pointer (some ⟨a1, 0, none⟩), .pointer (some ⟨n1, 0, none⟩)], .func (.func 99) #[] #[.pointer (some ⟨a2, 0, none⟩), .pointer (some ⟨n2, 0, none⟩)], .func (.func 100) #[] #[.pointer (some ⟨a2, 0, none⟩), .pointer (some ⟨n2, 0, none⟩)], .int .i64 0, .int .i64 0, .int .i64 0, .int .i64 0, .int .i64 0, .int .i64 0, .int .i64 0, .int .i64 0] 130)
    have l1 := World.block_lt_of_cell? _ _ (later' hb3 x1)
    have l2 := World.block_lt_of_cell? _ _ (later' hb3 x2)
    have l3 := World.block_lt_of_cell? _ _ y1
    have l4 := World.block_lt_of_cell? _ _ y2
    simp only at l1 l2 l3 l4
    refine ⟨by simp [go_sem], by simp [go_sem], by simp [go_sem], by simp [go_sem], by simp [go_sem], ?_, ?_, fun j => by simp [go_sem], later' hx (later' hb3 x1), later' hx (later' hb3 x2), later' hx y1, later' hx y2, ⟨u, (HA.out.later hb).later hx⟩, hn, by simp; omega, by simp; omega, ?_, ?_, ?_, ?_⟩
    · intro k hk
      obtain rfl | rfl | rfl | rfl : k = 0 ∨ k = 1 ∨ k = 2 ∨ k = 3 := by omega
      all_goals simp [go_sem]
    · intro k hk
      obtain rfl | rfl | rfl | rfl : k = 0 ∨ k = 1 ∨ k = 2 ∨ k = 3 := by omega
      all_goals simp [go_sem]
    all_goals exact ⟨by simp only; omega, by simp only; omega, by simp only; omega⟩
  · exact ⟨rfl, rfl, rfl, rfl, (by simp [none4]), (by simp [none4]), (by simp [none4]), (by simp [none4]), trivial, ⟨by simp [none4, Rows.all], by simp [none4, Rows.all]⟩, by simp [none4, Rows.all]⟩

end Go.Proofs.Ythcgmfcibjinlaa

/- A loop over an iterator that turns cells of its own between two rounds: what its caller owes, and what it owes. -/
namespace Go.Proofs.Ythcgmfcibjinlaa
open Go.RowKit Go.Shelf

/-- A body that goes on, whatever it did. -/
def goesOn (T : World → Prop) : Exit → Act → World → Prop
  | .normal, _, W => T W
  | _, _, _ => False

/-- What a round's book-keeping leans on: two blocks, which it has laid. -/
structure Book (b : Nat) (r : Obj) (W : World) : Prop where
  turns : W.heap[b + 1]? = some r
  late : W.heap[b]? = some (.deferred (some []))

theorem Book.kept {b : Nat} {r : Obj} {A A' : World} (h : Book b r A) (h0 : A'.heap[b]? = A.heap[b]?) (h1 : A'.heap[b + 1]? = A.heap[b + 1]?) : Book b r A' := ⟨h1.trans h.turns, h0.trans h.late⟩
theorem Book.lt {b : Nat} {r : Obj} {A : World} (h : Book b r A) : b + 1 < A.heap.size := (Array.getElem?_eq_some_iff.1 h.turns).1

section
variable {P : Program} {n : Nat}

set_option maxHeartbeats 1000000 in
theorem range_by {α : Type} {g : Operand} {ps : Array Tmp} {assign body : Code} {Q : Exit → Act → World → Prop} {a : Act} {w : World} {gf : Nat} {lb : Array Value}
    (hg : a.eval g = .func (.func gf) #[] lb) (eg : ∀ args w, (callFunc gf args).run P w = .ok (.enter gf args) w)
    (encs : α → Array Value) (hps : ∀ x, (encs x).size = ps.size) (xs : List α) (I : List α → World → Prop)
    (hput : ∀ pre W l o o', I pre W → w.heap.size ≤ l → W.heap[l]? = some o → o.isCells = false → I pre (W.putObj l o'))
    (h0 : ∀ o o', I [] ((w.alloc o).alloc o')) (a₁ : α → Act)
    (hassign : ∀ (l : Nat) (x : α) (W : World) (K : Act → World → Prop), K (a₁ x) W →
      assign.wpIn (Fence.wide.inRound l) (n - 1 - 1) P (Exit.then K (fun _ _ _ => False)) { tmps := (ps.zip (encs x)).foldl (fun t (p, v) => t.setIfInBounds p v) a.tmps, defers := [] } W)
    (hbody : ∀ (l : Nat) (pre : List α) (x : α) (W : World), I pre W → pre ++ [x] <+: xs → body.wpIn (Fence.wide.inRound l) (n - 1 - 1) P (goesOn fun W' => KeepsOthers W W' ∧ I (pre ++ [x]) W') (a₁ x) W)
    (hiter : ∀ (r : Obj) (W1 : World),
      (∀ pre x W, I pre W → Book w.heap.size r W → pre ++ [x] <+: xs → YieldAt Fence.wide (n - 1 - 1) P (w.heap.size + 1) (encs x) W fun e W' => e = .returned (.bool true) ∧ I (pre ++ [x]) W' ∧ Book w.heap.size r W') →
      I [] W1 → Book w.heap.size r W1 →
      CallsIn Fence.wide (n - 1) P gf (#[.func (.yield (w.heap.size + 1)) #[] #[]] ++ lb) W1 fun e W' => (∃ v, e = .returned v) ∧ I xs W' ∧ Book w.heap.size r W')
    (hdone : ∀ (D : Nat) (W : World), w.heap.size ≤ D → I xs W → W.heap[D]? = some (.deferred (some [])) → Q .normal { a with defers := { target := .collected D, args := #[] } :: a.defers } W) :
    (Code.rangeFunc g ps assign body).wpIn Fence.wide n P Q a w := by
  refine wpIn_rangeFunc ?_
  intro fn hfn
  let L : LoopState → Loop := fun st => { state := st, pending := none, fn, tmps := a.tmps, params := ps, assign, body, defers := w.heap.size }
  have hrec : ∀ o : Obj, ((w.alloc o).alloc (.loop (L .ready))).heap[w.heap.size + 1]? = some (.loop (L .ready)) := fun o => by
    have := World.alloc_heap_new (w.alloc o) (.loop (L .ready))
    rwa [World.size_alloc] at this
  have hdef : ((w.alloc (.deferred (some []))).alloc (.loop (L .ready))).heap[w.heap.size]? = some (.deferred (some [])) :=
    (Below.heap_alloc _ _ _ (by simp)).trans (World.alloc_heap_new w _)
  refine ⟨w.heap.size + 1, [{ target := .collected w.heap.size, args := #[] }], (w.alloc (.deferred (some []))).alloc (.loop (L .ready)), { target := .fn (.func gf) lb, args := #[.func (.yield (w.heap.size + 1)) #[] #[]] }, (w.alloc (.deferred (some []))).alloc (.loop (L .ready)), gf,
    #[.func (.yield (w.heap.size + 1)) #[] #[]] ++ lb, (w.alloc (.deferred (some []))).alloc (.loop (L .ready)), run_enterLoop_outer _ _ _ _ _, ?_, fun (_ : FuncId) _ => trivial, ?_, fun h => (by cases h), ?_⟩
  · simp only [resolve, hg]
    simp [go_sem]
  · simp [invoke, go_sem, eg, L]
  refine (hiter (.loop (L .ready)) _ ?_ (h0 _ _) ⟨hrec _, hdef⟩).mono ?_
  · intro pre x W hi hb hx
    have hy := run_yield (P := P) (args := encs x) hb.turns (hps x)
    refine ⟨fn, _, assign, body, hy, roundIn_of_wpIn hfn (hassign _ x W _ ⟨_, run_beginRound hb.turns rfl, ?_⟩)⟩
    have hb1 : (W.putObj (w.heap.size + 1) (.loop { L .ready with state := .busy })).heap[w.heap.size + 1]? = some (.loop (L .busy)) := World.putObj_heap_same hb.lt
    have hb2 : (W.putObj (w.heap.size + 1) (.loop { L .ready with state := .busy })).heap[w.heap.size]? = some (.deferred (some [])) := (World.putObj_heap_other (by omega)).trans hb.late
    refine wpIn_mono (hbody _ pre x _ (hput _ _ _ _ _ hi (by omega) hb.turns rfl) hx) ?_
    intro e a3 W3 hp
    cases e with
    | normal =>
      obtain ⟨hk, hi3⟩ := hp
      have h1 := hk.same _ _ hb1 rfl
      have h2 := hk.same _ _ hb2 rfl
      exact ⟨_, _, run_endRound (P := P) none h1, rfl, hput _ _ _ _ _ hi3 (by omega) h1 rfl, World.putObj_heap_same (Array.getElem?_eq_some_iff.1 h1).1, (World.putObj_heap_other (by omega)).trans h2⟩
    | ret => exact hp.elim
    | exit id => exact hp.elim
    | goto t => exact hp.elim
    | panic ch => exact hp.elim
    | outgrown => exact hp.elim
  · rintro e W2 ⟨⟨v, rfl⟩, hi, hb⟩
    exact ⟨none, _, run_endLoop (P := P) hb.turns (by simp [L]), hdone _ _ (Nat.le_refl _) (hput _ _ _ _ _ hi (by omega) hb.turns rfl) ((World.putObj_heap_other (by omega)).trans hb.late)⟩
end

end Go.Proofs.Ythcgmfcibjinlaa

/- The ring's iterator: each cell, with its row's number, once around. -/
namespace Go.Proofs.Ythcgmfcibjinlaa
open Go.RowKit Go.Shelf

attribute [local go_sem] Oper.semAt_some

def Rows.row (R : Rows) : Nat → List Int
  | 0 => R.white
  | 1 => R.frm
  | 2 => R.grey
  | _ => R.black

def tag (i : Int) (l : List Int) : List (Int × Int) := l.map fun c => (i, c)
/-- The cells of the rows from number i on, each with its row's number. -/
def Rows.on (R : Rows) : Nat → List (Int × Int)
  | 0 => tag 0 R.white ++ (tag 1 R.frm ++ (tag 2 R.grey ++ tag 3 R.black))
  | 1 => tag 1 R.frm ++ (tag 2 R.grey ++ tag 3 R.black)
  | 2 => tag 2 R.grey ++ tag 3 R.black
  | 3 => tag 3 R.black
  | _ => []
def Rows.pairs (R : Rows) : List (Int × Int) := R.on 0

theorem on_step (R : Rows) (i : Nat) (h : i < 4) : R.on i = tag i (R.row i) ++ R.on (i + 1) := by
  obtain rfl | rfl | rfl | rfl : i = 0 ∨ i = 1 ∨ i = 2 ∨ i = 3 := by omega
  all_goals simp [Rows.on, Rows.row]
theorem pairs_snd (R : Rows) : R.pairs.map Prod.snd = R.all := by
  simp [Rows.pairs, Rows.on, Rows.all, tag, List.map_map, Function.comp_def]

theorem pick4 (a b c d : Int) (i : Nat) (h : i < 4) (W : World) :
    (Instr.index 128 (.agg #[.int .i64 a, .int .i64 b, .int .i64 c, .int .i64 d]) (.int .i64 i)).run Try.prog W = .ok (.int .i64 (if i = 0 then a else if i = 1 then b else if i = 2 then c else d)) W := by
  have h' : Try.prog.underlying 128 = some (.array 4 3) := by kernel_rfl
  obtain rfl | rfl | rfl | rfl : i = 0 ∨ i = 1 ∨ i = 2 ∨ i = 3 := by omega
  all_goals simp [Instr.index, run_underlying h', asIntOf, part, Try.isAgg3, Try.sizeOf3, go_sem]

theorem cyc_at {D : Nat → Int} {a b l : List Int} {x y : Int} (h : Cyc D l) (e : l = a ++ x :: y :: b) : D (x + 1).toNat = y := by
  subst e
  cases a with
  | nil => exact cyc_next h
  | cons z a =>
    have h' : Chain D ((z :: a) ++ x :: y :: (b ++ [z])) := by simpa [Cyc] using h
    exact (chain_at h').1

/-- What stands next, when some are over. -/
def Nxt (x : Int) (l : List (Int × Int)) : Prop := ∀ p m, l = p :: m → x = p.2

theorem nxt_start {n : Nat} {D C F : Nat → Int} {R : Rows} (h : Inv n D C F R) : Nxt (start0 C F) R.pairs := by
  intro p m e
  rw [h.start0, ← pairs_snd, e]
  rfl
theorem nxt_step {n : Nat} {D C F : Nat → Int} {R : Rows} (h : Inv n D C F R) {pre l : List (Int × Int)} {x : Int × Int} (e : R.pairs = pre ++ x :: l) : Nxt (D (x.2 + 1).toNat) l := by
  intro p m e'
  subst e'
  refine cyc_at (a := pre.map Prod.snd) (b := m.map Prod.snd) h.cyc ?_
  rw [← pairs_snd, e]
  simp

set_option maxRecDepth 100000 in
set_option maxHeartbeats 4000000 in
theorem around_each (n : Nat) (hn : 2 ≤ n) (l bx : Nat) (s : Spot) (C F D : Nat → Int) (R : Rows) (hI : Inv s.n D C F R) (J : List (Int × Int) → World → Prop)
    (hJ : ∀ pre W, J pre W → Lies s C F D W ∧ W.cell? ⟨bx, 0, none⟩ = some (.pointer (some ⟨s.r, 0, none⟩)))
    (hT : ∀ pre W W', J pre W → Lies s C F D W' → Turn s W W' → J pre W')
    (hY : ∀ pre x W, J pre W → pre ++ [x] <+: R.pairs → YieldAt Fence.wide (n - 1) Try.prog l #[.int .i64 (x : Int × Int).1, .int .i64 x.2] W fun e W' => e = .returned (.bool true) ∧ J (pre ++ [x]) W')
    (W : World) (h0 : J [] W) :
    CallsIn Fence.wide n Try.prog 80 #[.func (.yield l) #[] #[], .pointer (some ⟨bx, 0, none⟩)] W fun e W' => (∃ v, e = .returned v) ∧ J R.pairs W' := by
  obtain ⟨hL0, hbx0⟩ := hJ _ _ h0
  have h1n : 1 ≤ n := by omega
  have c0 : W.cell? ⟨s.r, 5, none⟩ = some (.int .i64 (C 0)) := hL0.count 0 (by decide)
  have c1 : W.cell? ⟨s.r, 6, none⟩ = some (.int .i64 (C 1)) := hL0.count 1 (by decide)
  have c2 : W.cell? ⟨s.r, 7, none⟩ = some (.int .i64 (C 2)) := hL0.count 2 (by decide)
  have c3 : W.cell? ⟨s.r, 8, none⟩ = some (.int .i64 (C 3)) := hL0.count 3 (by decide)
  have hs := start_0 s C F D W hL0
  have hx0 := nxt_start hI
  generalize start0 C F = x0 at hs hx0
  have hp := pick4 (C 0) (C 1) (C 2) (C 3)
  have hcnt : ∀ i : Nat, i < 4 → (if i = 0 then C 0 else if i = 1 then C 1 else if i = 2 then C 2 else C 3) = (R.row i).length := fun i hi => by
    obtain rfl | rfl | rfl | rfl : i = 0 ∨ i = 1 ∨ i = 2 ∨ i = 3 := by omega
    · exact hI.c0
    · exact hI.c1
    · exact hI.c2
    · exact hI.c3
  have HP := Lib.hid hp
  have HCNT := Lib.hid hcnt
  have HX0 := Lib.hid hx0
  have HJ := Lib.hid hJ
  have HT := Lib.hid hT
  have HY := Lib.hid hY
  have H0 := Lib.hid h0
  have HI := Lib.hid hI
  clear hp hcnt hx0 hJ hT hY h0 hI hL0
  refine callsIn_of_wp Try.func80 rfl trivial ?_ rfl
  simp only [Try.ntmps80, List.size_toArray, List.length_cons, List.length_nil, Nat.reduceAdd, Nat.reduceSub, Array.replicate_succ, Array.replicate_zero, List.push_toArray, List.append_toArray, List.nil_append, List.cons_append]
  gi_wp2_with fail
  refine ⟨trivial, ?_⟩
  refine (callsIn_wide.2 hs).mono ?_
  clear hs
  rintro e w' ⟨rfl, rfl⟩
  gi_wp2_with fail
  clear c0 c1 c2 c3 hbx0
  gi_loopw [3, 12] (fun s3 s12 wr => ∃ (i : Nat) (x : Int) (pre : List (Int × Int)), i ≤ 4 ∧ s12 = .int .i64 i ∧ s3 = .int .i64 x ∧ R.pairs = pre ++ R.on i ∧ Nxt x (R.on i) ∧ J pre wr) (fun _ s12 _ => 4 - (intOf s12).toNat)
  case atStart => exact ⟨0, x0, [], by decide, rfl, rfl, rfl, HX0.out, H0.out⟩
  case round =>
    obtain ⟨i, x, pre, hi, rfl, rfl, hpre, hx, hj⟩ := hrel
    have HR := Lib.hid (And.intro hpre (And.intro hx hj))
    clear hpre hx hj
    by_cases hlt : i < 4
    · have hlt' : (i : Int) < 4 := by omega
      have hpi := fun W => HP.out i hlt W
      rw [HCNT.out i hlt] at hpi
      have hst := on_step R i hlt
      obtain ⟨row, hrow⟩ : ∃ row, R.row i = row := ⟨_, rfl⟩
      rw [hrow] at hpi hst
      have hsm : row.length ≤ 1000 := by
        have h1 := congrArg List.length (pairs_snd R)
        have h2 := HI.out.small
        rw [HR.out.1, hst] at h1
        simp [tag] at h1
        omega
      have HST := Lib.hid hst
      clear hst
      gi_wp2_with fail
      gi_loopw [3, 17] (fun s3 s17 wr => ∃ (j : Nat) (x : Int) (a b : List Int), row = a ++ b ∧ a.length = j ∧ s17 = .int .i64 j ∧ s3 = .int .i64 x ∧ Nxt x (tag i b ++ R.on (i + 1)) ∧ J (pre ++ tag i a) wr) (fun _ s17 _ => row.length - (intOf s17).toNat)
      case atStart =>
        obtain ⟨_, h2, h3⟩ := HR.out
        exact ⟨0, x, [], row, rfl, rfl, rfl, rfl, by rw [← HST.out]; exact h2, by simpa [tag] using h3⟩
      case round =>
        obtain ⟨j, y, a, b, hab, haj, rfl, rfl, hy2, hj2⟩ := hrel
        cases b with
        | nil =>
          have hjl : row.length = j := by rw [hab]; simpa using haj
          have HE := Lib.hid (And.intro hab (And.intro hy2 hj2))
          clear hab haj hy2 hj2
          gi_wp2_with fail
          obtain ⟨e1, e2, e3⟩ := HE.out
          rw [List.append_nil] at e1
          subst e1
          exact ⟨⟨i + 1, y, pre ++ tag i row, by omega, by go_num, rfl, by rw [HR.out.1, HST.out, List.append_assoc], e2, e3⟩, by simp [intOf]; omega⟩
        | cons c b =>
          have hjl : (j : Int) < row.length := by rw [hab]; simp; omega
          obtain rfl : y = c := hy2 (i, c) _ rfl
          have hpx : (pre ++ tag i a) ++ [((i : Int), y)] <+: R.pairs := ⟨tag i b ++ R.on (i + 1), by rw [HR.out.1, HST.out, hab]; simp [tag]⟩
          have hnx := nxt_step HI.out (pre := pre ++ tag i a) (l := tag i b ++ R.on (i + 1)) (x := ((i : Int), y)) (by rw [HR.out.1, HST.out, hab]; simp [tag])
          obtain ⟨fn, tmps, assign, body, hyy, hRR⟩ := HY.out _ _ _ hj2 hpx
          dsimp only at hyy hnx
          have hrg : Rng s.n y := HI.out.rng (by rw [← pairs_snd, HR.out.1, HST.out, hab]; simp [tag])
          have HE := Lib.hid (And.intro hab (And.intro haj (And.intro hnx hrg)))
          clear hab haj hy2 hj2 hpx hnx hrg
          gi_wp2_with fail
          refine hRR.mono ?_
          rintro e W3 ⟨rfl, hj3⟩
          obtain ⟨hL3, hb3⟩ := HJ.out _ _ hj3
          have cn := keep_one hL3
          have hc := next_any s C F D W3 hL3 y HE.out.2.2.2.1 HE.out.2.2.2.2
          have HC := Lib.hid hc
          have HJ3 := Lib.hid hj3
          clear hL3 hj3 hc hRR hyy
          gi_wp2_with fail
          refine ⟨trivial, ?_⟩
          refine (callsIn_wide.2 HC.out).mono ?_
          rintro e W4 ⟨rfl, hL4, hq4⟩
          have HJ4 := Lib.hid (HT.out _ _ _ HJ3.out hL4 hq4)
          clear HC HJ3 hL4 hq4 cn hb3
          gi_wp2_with fail
          obtain ⟨e1, e2, e3, _⟩ := HE.out
          refine ⟨⟨j + 1, D (y + 1).toNat, a ++ [y], b, by simp [e1], by simp [e2], by go_num, rfl, e3, ?_⟩, ?_⟩
          · have := HJ4.out
            simpa [tag] using this
          · simp [intOf]
            omega
    · obtain rfl : i = 4 := by omega
      gi_wp2_with fail
      go_end0
      refine ⟨⟨_, rfl⟩, ?_⟩
      obtain ⟨h1, _, h3⟩ := HR.out
      have : pre = R.pairs := by simpa [Rows.on] using h1.symm
      rwa [this] at h3

end Go.Proofs.Ythcgmfcibjinlaa

/- Rows that are gathered, one behind the other; the ring's List. -/
namespace Go.Proofs.Ythcgmfcibjinlaa
open Go.RowKit Go.Shelf

attribute [local go_sem] Oper.semAt_some

/-- A SLICE OF ints, as it is read: its block lies between two bounds. -/
def Row (W : World) (lo hi : Nat) (v : Value) (l : List Int) : Prop :=
  ∃ ao cap, v = .slice ao l.length (l.length + cap) ∧ (0 < l.length → ∃ g, ao = some ⟨g, 0, none⟩ ∧ lo ≤ g ∧ g < hi ∧ ∀ i x, l[i]? = some x → W.cell? ⟨g, i, none⟩ = some (.int .i64 x))

theorem Row.same {W W' : World} {lo hi : Nat} {v : Value} {l : List Int} (h : Row W lo hi v l) (hk : ∀ b o, lo ≤ b → b < hi → W.heap[b]? = some o → o.isCells = true → W'.heap[b]? = some o) : Row W' lo hi v l := by
  obtain ⟨ao, cap, rfl, hc⟩ := h
  refine ⟨ao, cap, rfl, fun h0 => ?_⟩
  obtain ⟨g, e, h1, h2, h3⟩ := hc h0
  refine ⟨g, e, h1, h2, fun i x hx => ?_⟩
  obtain ⟨o, ho, hoc⟩ := cells_of_cell (h3 i x hx)
  exact (World.cell?_of_block (w := W) ((hk g o h1 h2 ho hoc).trans ho.symm)).trans (h3 i x hx)
theorem Row.below {W W' : World} {lo hi B : Nat} {v : Value} {l : List Int} (h : Row W lo hi v l) (hb : Below B W W') (hB : hi ≤ B) : Row W' lo hi v l :=
  h.same fun b o _ h2 ho _ => (hb.block b (by omega)).trans ho
theorem Row.mono {W : World} {lo hi lo' hi' : Nat} {v : Value} {l : List Int} (h : Row W lo hi v l) (h1 : lo' ≤ lo) (h2 : hi ≤ hi') : Row W lo' hi' v l := by
  obtain ⟨ao, cap, rfl, hc⟩ := h
  refine ⟨ao, cap, rfl, fun h0 => ?_⟩
  obtain ⟨g, e, a1, a2, a3⟩ := hc h0
  exact ⟨g, e, by omega, by omega, a3⟩
theorem Row.of_own {W : World} {lo : Nat} {v : Value} {l : List Int} {n : Nat} (h : W.ownsRow lo 3 1 v n (l.map (.int .i64))) : Row W lo W.heap.size v l := by
  have hn : l.length = n := by simpa using h.1
  rcases h.2 with ⟨rfl, h0⟩ | ⟨g, cap, cur, rfl, hg, hb, hcap, _⟩
  · exact ⟨none, 0, by rw [hn, h0], fun h => by omega⟩
  · refine ⟨some ⟨g, 0, none⟩, cap - n, by rw [hn, Nat.add_sub_cancel' hcap], fun _ => ⟨g, rfl, hg, (Array.getElem?_eq_some_iff.1 hb).1, fun i x hx => ?_⟩⟩
    have := h.cells rfl i (.int .i64 x) (by simp [hx])
    rw [Addr.add_lit] at this
    simpa using this

/-- Rows that are gathered: those up to one colour are whole; that one's grows; the others are nil. -/
structure Gath (lo B c M : Nat) (v : Nat → Value) (l : Nat → List Int) (W : World) : Prop where
  cell : ∀ k, k < 4 → W.cell? ⟨B, k, none⟩ = some (v k)
  fz : ∀ k, W.frozen? ⟨B, k, none⟩ = false
  old : ∀ k, k < c → Row W (B + 1) M (v k) (l k)
  cur : W.ownsRow M 3 1 (v c) (l c).length ((l c).map (.int .i64))
  new : ∀ k, c < k → v k = .slice none 0 0 ∧ l k = []
  lB : lo ≤ B
  BM : B < M
  MW : M ≤ W.heap.size

section
variable {lo B c M : Nat} {v : Nat → Value} {l : Nat → List Int} {W W' : World}

theorem Gath.same (h : Gath lo B c M v l W) (hs : W.heap.size ≤ W'.heap.size) (hk : ∀ b o, lo ≤ b → W.heap[b]? = some o → o.isCells = true → W'.heap[b]? = some o) : Gath lo B c M v l W' := by
  obtain ⟨o, ho, hoc⟩ := cells_of_cell (h.cell 0 (by decide))
  have hB : W'.heap[B]? = W.heap[B]? := (hk B o h.lB ho hoc).trans ho.symm
  refine ⟨fun k hk' => (World.cell?_of_block (w := W) hB).trans (h.cell k hk'), fun k => (World.frozen?_of_block (w := W) hB).trans (h.fz k), fun k hk' => (h.old k hk').same fun b o h1 _ h3 h4 => hk b o (by have := h.lB; omega) h3 h4, ?_, h.new, h.lB, h.BM, Nat.le_trans h.MW hs⟩
  refine ⟨h.cur.1, ?_⟩
  rcases h.cur.2 with h1 | ⟨g, cap, cur, e, hg, hb, hr⟩
  · exact Or.inl h1
  · exact Or.inr ⟨g, cap, cur, e, hg, hk g _ (by have := h.lB; have := h.BM; omega) hb rfl, hr⟩

/-- Another colour's turn. -/
theorem Gath.turn (h : Gath lo B c M v l W) {d : Nat} (hd : c < d) : Gath lo B d W.heap.size v l W := by
  refine ⟨h.cell, h.fz, fun k hk => ?_, ?_, fun k hk => h.new k (by omega), h.lB, Nat.lt_of_lt_of_le h.BM h.MW, Nat.le_refl _⟩
  · rcases Nat.lt_trichotomy k c with h1 | h1 | h1
    · exact (h.old k h1).mono (Nat.le_refl _) h.MW
    · subst h1
      exact (Row.of_own h.cur).mono (by have := h.BM; omega) (Nat.le_refl _)
    · obtain ⟨e1, e2⟩ := h.new k h1
      rw [e1, e2]
      exact ⟨none, 0, rfl, fun h => absurd h (by simp)⟩
  · obtain ⟨e1, e2⟩ := h.new d hd
    rw [e1, e2]
    exact World.ownsRow_nil _ _ _ _

theorem Gath.to (h : Gath lo B c M v l W) {d : Nat} (hd : c ≤ d) : ∃ M', M ≤ M' ∧ Gath lo B d M' v l W := by
  rcases Nat.lt_or_eq_of_le hd with h1 | h1
  · exact ⟨_, h.MW, h.turn h1⟩
  · subst h1
    exact ⟨M, Nat.le_refl _, h⟩

theorem Gath.all (h : Gath lo B c M v l W) (k : Nat) : Row W (B + 1) W.heap.size (v k) (l k) := by
  rcases Nat.lt_trichotomy k c with h1 | h1 | h1
  · exact (h.old k h1).mono (Nat.le_refl _) h.MW
  · subst h1
    exact (Row.of_own h.cur).mono (by have := h.BM; omega) (Nat.le_refl _)
  · obtain ⟨e1, e2⟩ := h.new k h1
    rw [e1, e2]
    exact ⟨none, 0, rfl, fun h => absurd h (by simp)⟩

/-- One more of that colour, behind an append and a store. -/
theorem Gath.put (h : Gath lo B c M v l W) (hc : c < 4) {x : Int} {tmp : Obj} {v' : Value} {w1 : World} {n : Nat} (hown : w1.ownsRow M 3 1 v' n ((l c).map (.int .i64) ++ [.int .i64 x])) (hgr : (W.alloc tmp).grownBy w1 (v c).ownBlock) :
    Gath lo B c M (fun k => if k = c then v' else v k) (fun k => if k = c then l k ++ [x] else l k) (w1.setCell ⟨B, c, none⟩ v') ∧ KeepsOthers W (w1.setCell ⟨B, c, none⟩ v') ∧ Below lo W (w1.setCell ⟨B, c, none⟩ v') ∧ (∀ k, k < 4 → w1.cell? ⟨B, k, none⟩ = some (v k)) ∧ (∀ k, w1.frozen? ⟨B, k, none⟩ = false) ∧ (∀ b, b < M → b ≠ B → (w1.setCell ⟨B, c, none⟩ v').heap[b]? = W.heap[b]?) := by
  have hMW := h.MW
  have hBM := h.BM
  have hlB := h.lB
  have hs := hgr.size
  simp only [World.size_alloc] at hs
  have hrow : ∀ j, (v c).ownBlock = some j → M ≤ j := fun j e => (h.cur.lt j e).1
  have keep : ∀ b, b < M → w1.heap[b]? = W.heap[b]? := fun b hb => by
    refine (hgr.block b (by simp; omega) fun e => ?_).trans (Below.heap_alloc _ _ _ (by omega))
    have := hrow b e.symm
    omega
  have hB1 : w1.heap[B]? = W.heap[B]? := keep B hBM
  have hc1 : ∀ k, k < 4 → w1.cell? ⟨B, k, none⟩ = some (v k) := fun k hk => (World.cell?_of_block (w := W) hB1).trans (h.cell k hk)
  have hf1 : ∀ k, w1.frozen? ⟨B, k, none⟩ = false := fun k => (World.frozen?_of_block (w := W) hB1).trans (h.fz k)
  refine ⟨⟨fun k hk => ?_, fun k => (World.frozen?_setCell _ _ _ _).trans (hf1 k), fun k hk => ?_, ?_, fun k hk => ?_, h.lB, h.BM, by simp [World.setCell]; omega⟩, ?_, ?_, hc1, hf1, fun b h1 h2 => (Below.heap_setCell _ _ _ _ h2).trans (keep b h1)⟩
  · by_cases e : k = c
    · subst e
      simp only [if_true]
      exact World.cell?_setCell_same _ _ _ (hc1 k hk)
    · simp only [e, if_false]
      exact (World.cell?_setCell_other _ _ _ _ (by simp)).trans (hc1 k hk)
  · have e : ¬ k = c := by omega
    simp only [e, if_false]
    refine (h.old k hk).same fun b o h1 h2 h3 _ => ?_
    exact (Below.heap_setCell _ _ _ _ (by simp only; omega)).trans ((keep b h2).trans h3)
  · simp only [if_true]
    have hl : n = ((l c) ++ [x]).length := by
      have := hown.1
      simp at this ⊢
      omega
    have he : (l c ++ [x]).map (Value.int .i64) = (l c).map (.int .i64) ++ [.int .i64 x] := by simp
    rw [he, ← hl]
    refine ⟨hown.1, ?_⟩
    rcases hown.2 with h1 | ⟨g, cap, cur, e, hg, hb, hr⟩
    · exact Or.inl h1
    · exact Or.inr ⟨g, cap, cur, e, hg, (Below.heap_setCell _ _ _ _ (by simp only; omega)).trans hb, hr⟩
  · have e : ¬ k = c := by omega
    simp only [e, if_false]
    exact h.new k hk
  · refine ((KeepsOthers.alloc W tmp).trans (KeepsOthers.of_grownBy hgr fun j o ej hj => ?_)).trans (KeepsOthers.setCell _ _ _)
    rcases (h.cur.alloc tmp).2 with ⟨e, _⟩ | ⟨g, cap, cur, e, _, hgb, _⟩
    · rw [e] at ej
      simp [Value.ownBlock] at ej
    · rw [e] at ej
      obtain rfl : g = j := by simpa [Value.ownBlock] using ej
      rw [hgb] at hj
      cases hj
      rfl
  · refine (((Below.refl lo W).alloc (by omega) tmp).grown hgr (by simp; omega) fun j ej => ?_).setCell (by simp only; omega) v'
    have := hrow j ej
    omega
end

theorem Try.info_int : (Try.prog.info? 3).map (fun i => (i.zero, i.size, i.bytes)) = some (some (.int .i64 0), 1, 8) := by kernel_rfl

/-- Of pairs, the cells of one row. -/
def pick (k : Nat) (pre : List (Int × Int)) : List Int := (pre.filter fun x => decide (x.1 = (k : Int))).map Prod.snd
theorem pick_hit {k : Nat} {pre : List (Int × Int)} {x : Int × Int} (h : x.1 = k) : pick k (pre ++ [x]) = pick k pre ++ [x.2] := by simp [pick, h]
theorem pick_miss {k : Nat} {pre : List (Int × Int)} {x : Int × Int} (h : ¬ x.1 = k) : pick k (pre ++ [x]) = pick k pre := by simp [pick, h]
theorem pick_tag (k : Nat) (i : Int) (l : List Int) : pick k (tag i l) = if i = (k : Int) then l else [] := by
  unfold pick tag
  rw [List.filter_map]
  by_cases e : i = (k : Int)
  · subst e
    simp [List.map_map, Function.comp_def]
  · simp [e]
theorem pick_append (k : Nat) (a b : List (Int × Int)) : pick k (a ++ b) = pick k a ++ pick k b := by simp [pick]
theorem pick_pairs (R : Rows) (k : Nat) (h : k < 4) : pick k R.pairs = R.row k := by
  show pick k (tag 0 R.white ++ (tag 1 R.frm ++ (tag 2 R.grey ++ tag 3 R.black))) = _
  rw [pick_append, pick_append, pick_append, pick_tag, pick_tag, pick_tag, pick_tag]
  obtain rfl | rfl | rfl | rfl : k = 0 ∨ k = 1 ∨ k = 2 ∨ k = 3 := by omega
  all_goals simp [Rows.row]

/-- The colours rise. -/
theorem pairs_rise (R : Rows) : R.pairs.Pairwise fun a b => a.1 ≤ b.1 := by
  have hl : ∀ (i : Int) (l : List Int), (tag i l).Pairwise fun a b => a.1 ≤ b.1 := fun i l => by
    unfold tag
    rw [List.pairwise_map]
    exact List.pairwise_of_forall (fun _ _ => Int.le_refl _)
  have hm : ∀ {i : Int} {l : List Int} {x : Int × Int}, x ∈ tag i l → x.1 = i := fun h => by
    obtain ⟨c, _, rfl⟩ := List.mem_map.1 h
    rfl
  show List.Pairwise _ (tag 0 R.white ++ (tag 1 R.frm ++ (tag 2 R.grey ++ tag 3 R.black)))
  rw [List.pairwise_append, List.pairwise_append, List.pairwise_append]
  refine ⟨hl _ _, ⟨hl _ _, ⟨hl _ _, hl _ _, ?_⟩, ?_⟩, ?_⟩
  · intro a ha b hb
    rw [hm ha, hm hb]
    decide
  · intro a ha b hb
    rcases List.mem_append.1 hb with hb | hb <;> rw [hm ha, hm hb] <;> decide
  · intro a ha b hb
    rcases List.mem_append.1 hb with hb | hb
    · rw [hm ha, hm hb]; decide
    · rcases List.mem_append.1 hb with hb | hb <;> rw [hm ha, hm hb] <;> decide
theorem pairs_colour (R : Rows) {x : Int × Int} (h : x ∈ R.pairs) : ∃ k : Nat, k < 4 ∧ x.1 = k := by
  have hm : ∀ {i : Int} {l : List Int}, x ∈ tag i l → x.1 = i := fun h => by
    obtain ⟨c, _, rfl⟩ := List.mem_map.1 h
    rfl
  unfold Rows.pairs Rows.on at h
  simp only [List.mem_append] at h
  rcases h with h | h | h | h
  · exact ⟨0, by decide, hm h⟩
  · exact ⟨1, by decide, hm h⟩
  · exact ⟨2, by decide, hm h⟩
  · exact ⟨3, by decide, hm h⟩

section
variable {s : Spot} {C F D : Nat → Int} {W W' : World}
/-- A ring lies on where its blocks do. -/
theorem Lies.same (h : Lies s C F D W) (hs : W.heap.size ≤ W'.heap.size) (hk : ∀ b, b = s.r ∨ b = s.p ∨ b = s.d ∨ b = s.a1 ∨ b = s.n1 ∨ b = s.a2 ∨ b = s.n2 → W'.heap[b]? = W.heap[b]?) : Lies s C F D W' := by
  have c : ∀ (b j : Nat) (x : Value), (b = s.r ∨ b = s.p ∨ b = s.d ∨ b = s.a1 ∨ b = s.n1 ∨ b = s.a2 ∨ b = s.n2) → W.cell? ⟨b, j, none⟩ = some x → W'.cell? ⟨b, j, none⟩ = some x := fun b j x hb hx => (World.cell?_of_block (w := W) (hk b hb)).trans hx
  obtain ⟨u, hu⟩ := h.words
  exact ⟨c _ _ _ (by simp) h.arena, c _ _ _ (by simp) h.nof, c _ _ _ (by simp) h.nset, c _ _ _ (by simp) h.lof, c _ _ _ (by simp) h.lset, fun k hk' => c _ _ _ (by simp) (h.count k hk'), fun k hk' => c _ _ _ (by simp) (h.first k hk'),
    fun j => (World.frozen?_of_block (w := W) (hk s.r (by simp))).trans (h.fz j), c _ _ _ (by simp) h.ba1, c _ _ _ (by simp) h.bn1, c _ _ _ (by simp) h.ba2, c _ _ _ (by simp) h.bn2,
    ⟨u, hu.move (hk s.p (by simp)) (hk s.d (by simp)) hs⟩, h.nb, h.rp, h.rd, h.a1', h.n1', h.a2', h.n2'⟩
/-- All that a ring leans on lies below. -/
def Spot.under (s : Spot) (B : Nat) : Prop := s.r < B ∧ s.p < B ∧ s.d < B ∧ s.a1 < B ∧ s.n1 < B ∧ s.a2 < B ∧ s.n2 < B
theorem Lies.under (h : Lies s C F D W) : s.under W.heap.size :=
  ⟨h.lr, h.lp, h.ld, World.block_lt_of_cell? _ _ h.ba1, World.block_lt_of_cell? _ _ h.bn1, World.block_lt_of_cell? _ _ h.ba2, World.block_lt_of_cell? _ _ h.bn2⟩
theorem Lies.below (h : Lies s C F D W) {B : Nat} (hu : s.under B) (hb : Below B W W') : Lies s C F D W' := by
  obtain ⟨h1, h2, h3, h4, h5, h6, h7⟩ := hu
  refine h.same hb.size fun b e => hb.block b ?_
  rcases e with rfl | rfl | rfl | rfl | rfl | rfl | rfl <;> assumption
end

end Go.Proofs.Ythcgmfcibjinlaa
