/- A ring by its rows: what each call tells, and which rows are there behind it. -/
import Derived.Test.YtbjlpmjalidfkaaRiE
namespace Go.Proofs.Ytbjlpmjalidfkaa
open Go.RowKit

/-- A RING, BY ITS ROWS. -/
def Ring (s : Spot) (R : Rows) (w : World) : Prop := ∃ C F D, Lies s C F D w ∧ Inv s.n D C F R

theorem Ring.later {s : Spot} {R : Rows} {w w' : World} (h : Ring s R w) (hb : Below w.heap.size w w') : Ring s R w' := by
  obtain ⟨C, F, D, h1, h2⟩ := h
  exact ⟨C, F, D, h1.later hb, h2⟩

section
variable {n : Nat} {D C F : Nat → Int} {R : Rows}
theorem Inv.b0 (h : Inv n D C F R) : 0 ≤ C 0 ∧ C 0 ≤ 1000 := by
  have := h.small
  have := h.c0
  simp [Rows.all] at *
  omega
theorem Inv.b1 (h : Inv n D C F R) : 0 ≤ C 1 ∧ C 1 ≤ 1000 := by
  have := h.small
  have := h.c1
  simp [Rows.all] at *
  omega
theorem Inv.b2 (h : Inv n D C F R) : 0 ≤ C 2 ∧ C 2 ≤ 1000 := by
  have := h.small
  have := h.c2
  simp [Rows.all] at *
  omega
theorem Inv.b3 (h : Inv n D C F R) : 0 ≤ C 3 ∧ C 3 ≤ 1000 := by
  have := h.small
  have := h.c3
  simp [Rows.all] at *
  omega
theorem Inv.rng (h : Inv n D C F R) {x : Int} (hx : x ∈ R.all) : Rng n x := h.fit.rng x hx
end

theorem rng_around {D : Nat → Int} {n : Nat} {c : Int} {l : List Int} (hc : Cyc D (c :: l)) (hf : Fit n (c :: l)) : Rng n (D (c + 1).toNat) ∧ Rng n (D (c + 2).toNat) := by
  cases l with
  | nil =>
    rw [(cyc_one hc).1, (cyc_one hc).2]
    exact ⟨hf.rng c (by simp), hf.rng c (by simp)⟩
  | cons y l =>
    obtain ⟨z, hz, e, _⟩ := cyc_remove hc hf
    rw [cyc_next hc, e]
    exact ⟨hf.rng y (by simp), hf.rng z (List.mem_cons_of_mem _ hz)⟩

theorem rng_head {D : Nat → Int} {n : Nat} {l : List Int} (hc : Cyc D l) (hf : Fit n l) : l.headD 0 = 0 ∨ (Rng n (l.headD 0) ∧ Rng n (D (l.headD 0 + 2).toNat)) := by
  cases l with
  | nil => exact Or.inl rfl
  | cons x l => exact Or.inr ⟨hf.rng x (by simp), (rng_around hc hf).2⟩

set_option maxHeartbeats 1000000 in
theorem grow_out (s : Spot) (C F D : Nat → Int) (w : World) (hL : Lies s C F D w) (c : Int) (ho : ¬ Rng s.n c) :
    Calls Try.prog 35 #[.pointer (some ⟨s.r, 0, none⟩), .int .i64 c] w fun e w' => e = .returned (.int .i64 1) ∧ w' = w := by
  unfold Rng at ho
  have hn := hL.nb
  by_cases g : c < 1
  · have g' : decide (c < 1) = true := decide_eq_true g
    clear hL
    go_enter Try.func35, Try.ntmps35
    go_wp2_with fail
    go_ret
    exact ⟨rfl, rfl⟩
  · have g' : decide (c < 1) = false := decide_eq_false g
    obtain ⟨u, hA⟩ := hL.words
    have ca := hL.arena
    have hw : IntKind.i64.wrap ((s.n : Int) - 3) = (s.n : Int) - 3 := by rw [IntKind.wrap_i64]; omega
    have g2 : (s.n : Int) - 3 < c := by omega
    have g3 : decide ((s.n : Int) - 3 < c) = true := decide_eq_true g2
    have HA := Lib.hid hA
    clear hL hA ho
    go_enter Try.func35, Try.ntmps35
    go_wp2_with fail
    refine (len_any s.p s.d s.n D u w HA.out).mono ?_
    rintro e w2 ⟨rfl, rfl⟩
    clear HA
    go_wp2_with fail
    go_ret
    exact ⟨rfl, rfl⟩

set_option maxHeartbeats 1000000 in
theorem ring_grow (s : Spot) (R : Rows) (w : World) (hR : Ring s R w) (c : Int) (hf : Fit s.n (c :: R.all)) (hl : R.all.length < 1000) :
    Calls Try.prog 35 #[.pointer (some ⟨s.r, 0, none⟩), .int .i64 c] w fun e w' => e = .returned (.int .i64 0) ∧ Ring s (R.grow c) w' ∧ Turn s w w' := by
  obtain ⟨C, F, D, hL, hI⟩ := hR
  have hc : Rng s.n c := hf.rng c (by simp)
  have hn := hL.nb
  unfold Rng at hc
  have g' : decide (c < 1) = false := decide_eq_false (by omega)
  obtain ⟨u, hA⟩ := hL.words
  have ca := hL.arena
  have hw : IntKind.i64.wrap ((s.n : Int) - 3) = (s.n : Int) - 3 := by rw [IntKind.wrap_i64]; omega
  have g3 : decide ((s.n : Int) - 3 < c) = false := decide_eq_false (by omega)
  have hx := rng_head hI.cyc (hf.tail)
  rw [← hI.start0] at hx
  have h1 := start_0 s C F D w hL
  have h2 := insert_any s C F D w hL c (start0 C F) hc hx
  have h3 : ∀ w, Lies s C F (inserted D c (start0 C F)) w → _ := fun w h => enterFirst_0 s C F _ w h c hI.b0.1 hI.b0.2
  have h4 : ∀ w, Lies s (upd C 0 (C 0 + 1)) (upd F 0 c) (inserted D c (start0 C F)) w → Ring s (R.grow c) w := fun w h => ⟨_, _, _, h, hI.grow hf hl⟩
  have HA := Lib.hid hA
  have H1 := Lib.hid h1
  have H2 := Lib.hid h2
  have H3 := Lib.hid h3
  have H4 := Lib.hid h4
  generalize start0 C F = x at H1 H2 H3 H4
  clear hL hI hA hc hf hl hx h1 h2 h3 h4
  go_enter Try.func35, Try.ntmps35
  go_wp2_with fail
  refine (len_any s.p s.d s.n D u w HA.out).mono ?_
  rintro e w2 ⟨rfl, rfl⟩
  clear HA
  go_wp2_with fail
  refine H1.out.mono ?_
  rintro e w3 ⟨rfl, rfl⟩
  clear H1
  go_wp2_with fail
  refine H2.out.mono ?_
  rintro e w4 ⟨rfl, hL4, hq4⟩
  have HL4 := Lib.hid hL4
  have HQ4 := Lib.hid hq4
  clear H2 hL4 hq4 ca
  go_wp2_with fail
  refine (H3.out _ HL4.out).mono ?_
  rintro e w5 ⟨rfl, hL5, hq5⟩
  have HE := Lib.hid (And.intro (H4.out _ hL5) (HQ4.out.trans hq5))
  clear H3 hL5 hq5 HL4 HQ4
  go_wp2_with fail
  go_ret
  exact ⟨rfl, HE.out⟩

set_option maxHeartbeats 1000000 in
theorem ring_alloc_full (s : Spot) (R : Rows) (w : World) (hR : Ring s R w) (hW : R.white = []) :
    Calls Try.prog 36 #[.pointer (some ⟨s.r, 0, none⟩)] w fun e w' => e = .returned (.tuple #[.int .i64 0, .int .i64 2]) ∧ w' = w := by
  obtain ⟨C, F, D, hL, hI⟩ := hR
  have e0 : C 0 = 0 := by rw [hI.c0, hW]; rfl
  have c0 : w.cell? ⟨s.r, 5, none⟩ = some (.int .i64 (C 0)) := hL.count 0 (by decide)
  rw [e0] at c0
  clear hL hI
  go_enter Try.func36, Try.ntmps36
  go_wp2_with fail
  go_ret2
  exact ⟨rfl, rfl⟩

set_option maxHeartbeats 1000000 in
theorem ring_alloc (s : Spot) (R : Rows) (w : World) (hR : Ring s R w) (c : Int) (l : List Int) (hW : R.white = c :: l) :
    Calls Try.prog 36 #[.pointer (some ⟨s.r, 0, none⟩)] w fun e w' => e = .returned (.tuple #[.int .i64 c, .int .i64 0]) ∧ Ring s R.alloc w' ∧ Turn s w w' := by
  obtain ⟨C, F, D, hL, hI⟩ := hR
  have hc : Rng s.n c := hI.rng (by simp [Rows.all, hW])
  have e0 : C 0 = l.length + 1 := by rw [hI.c0, hW]; simp
  have g0 : (C 0 == 0) = false := by simp; omega
  have ef : F 0 = c := hI.f0 c l hW
  have c0 : w.cell? ⟨s.r, 5, none⟩ = some (.int .i64 (C 0)) := hL.count 0 (by decide)
  have f0 : w.cell? ⟨s.r, 9, none⟩ = some (.int .i64 (F 0)) := hL.first 0 (by decide)
  rw [ef] at f0
  have h1 := leave_0 s C F D w hL c hc hI.b0.1 hI.b0.2
  have h2 : ∀ w, Lies s (upd C 0 (C 0 - 1)) (leftF D F c 0) D w → _ := fun w h => enterLast_3 s _ _ D w h c (show 0 ≤ C 3 from hI.b3.1) (show C 3 ≤ 1000 from hI.b3.2)
  have h3 : ∀ w, Lies s (upd (upd C 0 (C 0 - 1)) 3 (upd C 0 (C 0 - 1) 3 + 1)) (lastF (upd C 0 (C 0 - 1)) (leftF D F c 0) c 3) D w → Ring s R.alloc w := fun w h => ⟨_, _, _, h, hI.alloc hW⟩
  have H1 := Lib.hid h1
  have H2 := Lib.hid h2
  have H3 := Lib.hid h3
  generalize C 0 = x at c0 g0 H1 H2 H3
  clear hL hI hc hW ef h1 h2 h3 e0
  go_enter Try.func36, Try.ntmps36
  go_wp2_with fail
  refine H1.out.mono ?_
  rintro e w4 ⟨rfl, hL4, hq4⟩
  have HL4 := Lib.hid hL4
  have HQ4 := Lib.hid hq4
  clear H1 hL4 hq4 c0 f0
  go_wp2_with fail
  refine (H2.out _ HL4.out).mono ?_
  rintro e w5 ⟨rfl, hL5, hq5⟩
  have HE := Lib.hid (And.intro (H3.out _ hL5) (HQ4.out.trans hq5))
  clear H3 hL5 hq5 HL4 HQ4
  go_wp2_with fail
  go_ret2
  exact ⟨rfl, HE.out⟩

set_option maxHeartbeats 1000000 in
theorem ring_drop_full (s : Spot) (R : Rows) (w : World) (hR : Ring s R w) (hW : R.white = []) :
    Calls Try.prog 47 #[.pointer (some ⟨s.r, 0, none⟩)] w fun e w' => e = .returned (.tuple #[.int .i64 0, .int .i64 2]) ∧ w' = w := by
  obtain ⟨C, F, D, hL, hI⟩ := hR
  have e0 : C 0 = 0 := by rw [hI.c0, hW]; rfl
  have c0 : w.cell? ⟨s.r, 5, none⟩ = some (.int .i64 (C 0)) := hL.count 0 (by decide)
  rw [e0] at c0
  clear hL hI
  go_enter Try.func47, Try.ntmps47
  go_wp2_with fail
  go_ret2
  exact ⟨rfl, rfl⟩

set_option maxHeartbeats 1000000 in
theorem ring_drop (s : Spot) (R : Rows) (w : World) (hR : Ring s R w) (c : Int) (l : List Int) (hW : R.white = c :: l) :
    Calls Try.prog 47 #[.pointer (some ⟨s.r, 0, none⟩)] w fun e w' => e = .returned (.tuple #[.int .i64 c, .int .i64 0]) ∧ Ring s R.drop w' ∧ Turn s w w' := by
  obtain ⟨C, F, D, hL, hI⟩ := hR
  have hc : Rng s.n c := hI.rng (by simp [Rows.all, hW])
  have e0 : C 0 = l.length + 1 := by rw [hI.c0, hW]; simp
  have g0 : (C 0 == 0) = false := by simp; omega
  have ef : F 0 = c := hI.f0 c l hW
  have c0 : w.cell? ⟨s.r, 5, none⟩ = some (.int .i64 (C 0)) := hL.count 0 (by decide)
  have f0 : w.cell? ⟨s.r, 9, none⟩ = some (.int .i64 (F 0)) := hL.first 0 (by decide)
  rw [ef] at f0
  have ea : R.all = c :: (l ++ (R.frm ++ (R.grey ++ R.black))) := by simp [Rows.all, hW]
  have hr := rng_around (D := D) (by rw [← ea]; exact hI.cyc) (by rw [← ea]; exact hI.fit)
  have h1 := leave_0 s C F D w hL c hc hI.b0.1 hI.b0.2
  have h2 : ∀ w, Lies s (upd C 0 (C 0 - 1)) (leftF D F c 0) D w → _ := fun w h => remove_any s _ _ D w h c hc hr.1 hr.2
  have h3 : ∀ w, Lies s (upd C 0 (C 0 - 1)) (leftF D F c 0) (removed D c) w → Ring s R.drop w := fun w h => ⟨_, _, _, h, hI.drop hW⟩
  have H1 := Lib.hid h1
  have H2 := Lib.hid h2
  have H3 := Lib.hid h3
  generalize C 0 = x at c0 g0 H1 H2 H3
  clear hL hI hc hW ef h1 h2 h3 e0 ea hr
  go_enter Try.func47, Try.ntmps47
  go_wp2_with fail
  refine H1.out.mono ?_
  rintro e w4 ⟨rfl, hL4, hq4⟩
  have HL4 := Lib.hid hL4
  have HQ4 := Lib.hid hq4
  clear H1 hL4 hq4 c0 f0
  go_wp2_with fail
  refine (H2.out _ HL4.out).mono ?_
  rintro e w5 ⟨rfl, hL5, hq5⟩
  have HE := Lib.hid (And.intro (H3.out _ hL5) (HQ4.out.trans hq5))
  clear H3 hL5 hq5 HL4 HQ4
  go_wp2_with fail
  go_ret2
  exact ⟨rfl, HE.out⟩

set_option maxHeartbeats 1000000 in
theorem ring_shade_none (s : Spot) (R : Rows) (w : World) (hR : Ring s R w) (c : Int) (hW : R.frm = []) :
    Calls Try.prog 42 #[.pointer (some ⟨s.r, 0, none⟩), .int .i64 c] w fun e w' => e = .returned (.int .i64 20) ∧ w' = w := by
  obtain ⟨C, F, D, hL, hI⟩ := hR
  have e0 : C 1 = 0 := by rw [hI.c1, hW]; rfl
  have c0 : w.cell? ⟨s.r, 6, none⟩ = some (.int .i64 (C 1)) := hL.count 1 (by decide)
  rw [e0] at c0
  clear hL hI
  go_enter Try.func42, Try.ntmps42
  go_wp2_with fail
  go_ret
  exact ⟨rfl, rfl⟩

set_option maxHeartbeats 1000000 in
theorem ring_shade (s : Spot) (R : Rows) (w : World) (hR : Ring s R w) (c : Int) (hW : c ∈ R.frm) :
    Calls Try.prog 42 #[.pointer (some ⟨s.r, 0, none⟩), .int .i64 c] w fun e w' => e = .returned (.int .i64 0) ∧ Ring s (R.shade c) w' ∧ Turn s w w' := by
  obtain ⟨C, F, D, hL, hI⟩ := hR
  obtain ⟨l, m, _, hf, he⟩ := List.exists_erase_eq hW
  obtain ⟨hI2, hfit, hlen⟩ := hI.out hf
  have hs : R.shade c = { ({ R with frm := l ++ m } : Rows) with grey := R.grey ++ [c] } := by simp [Rows.shade, he]
  have hI3 := hI2.in hfit hlen
  have hc : Rng s.n c := hfit.rng c (by simp)
  have e0 : C 1 = l.length + m.length + 1 := by rw [hI.c1, hf]; simp; omega
  have g0 : (C 1 == 0) = false := by simp; omega
  have c0 : w.cell? ⟨s.r, 6, none⟩ = some (.int .i64 (C 1)) := hL.count 1 (by decide)
  have hcy : Cyc D (c :: (m ++ (R.grey ++ R.black) ++ (R.white ++ l))) := by
    have e : R.all = (R.white ++ l) ++ (c :: (m ++ (R.grey ++ R.black))) := by simp [Rows.all, hf]
    have := cyc_rot (D := D) (a := R.white ++ l) (b := c :: (m ++ (R.grey ++ R.black))) (by rw [← e]; exact hI.cyc)
    simpa using this
  have hfit2 : Fit s.n (c :: (m ++ (R.grey ++ R.black) ++ (R.white ++ l))) := by
    refine hfit.perm (List.Perm.cons c ?_)
    have e : (Rows.all { R with frm := l ++ m }) = (R.white ++ l) ++ (m ++ (R.grey ++ R.black)) := by simp [Rows.all]
    rw [e]
    exact List.perm_append_comm
  have hr := rng_around hcy hfit2
  have hx : start3 (upd C 1 (C 1 - 1)) (leftF D F c 1) = 0 ∨ (Rng s.n (start3 (upd C 1 (C 1 - 1)) (leftF D F c 1)) ∧ Rng s.n (removed D c (start3 (upd C 1 (C 1 - 1)) (leftF D F c 1) + 2).toNat)) := by
    rw [hI2.start3]
    have e : (Rows.all { R with frm := l ++ m }) = (R.white ++ (l ++ m ++ R.grey)) ++ R.black := by simp [Rows.all]
    refine rng_head (cyc_rot (by rw [← e]; exact hI2.cyc)) ((hI2.fit).perm ?_)
    rw [e]
    exact List.perm_append_comm
  have h1 := leave_1 s C F D w hL c hc hI.b1.1 hI.b1.2
  have h2 : ∀ w, Lies s (upd C 1 (C 1 - 1)) (leftF D F c 1) D w → _ := fun w h => remove_any s _ _ D w h c hc hr.1 hr.2
  have h3 : ∀ w, Lies s (upd C 1 (C 1 - 1)) (leftF D F c 1) (removed D c) w → _ := fun w h => start_3 s _ _ _ w h
  have h4 : ∀ w, Lies s (upd C 1 (C 1 - 1)) (leftF D F c 1) (removed D c) w → _ := fun w h => insert_any s _ _ _ w h c _ hc hx
  have h5 : ∀ w, Lies s (upd C 1 (C 1 - 1)) (leftF D F c 1) (inserted (removed D c) c (start3 (upd C 1 (C 1 - 1)) (leftF D F c 1))) w → _ := fun w h => enterLast_2 s _ _ _ w h c hI2.b2.1 hI2.b2.2
  have h6 : ∀ w, Lies s (upd (upd C 1 (C 1 - 1)) 2 (upd C 1 (C 1 - 1) 2 + 1)) (lastF (upd C 1 (C 1 - 1)) (leftF D F c 1) c 2) (inserted (removed D c) c (start3 (upd C 1 (C 1 - 1)) (leftF D F c 1))) w → Ring s (R.shade c) w := fun w h => ⟨_, _, _, h, by rw [hs]; exact hI3⟩
  have H1 := Lib.hid h1
  have H2 := Lib.hid h2
  have H3 := Lib.hid h3
  have H4 := Lib.hid h4
  have H5 := Lib.hid h5
  have H6 := Lib.hid h6
  generalize upd C 1 (C 1 - 1) = C' at H1 H2 H3 H4 H5 H6
  generalize leftF D F c 1 = F' at H1 H2 H3 H4 H5 H6
  generalize start3 C' F' = x at H3 H4 H5 H6
  generalize C 1 = c1 at c0 g0
  clear hL hI hc hW hf he hI2 hfit hlen hs hI3 e0 hcy hfit2 hr hx h1 h2 h3 h4 h5 h6
  go_enter Try.func42, Try.ntmps42
  go_wp2_with fail
  refine H1.out.mono ?_
  rintro e w2 ⟨rfl, hL2, hq2⟩
  have HL2 := Lib.hid hL2
  have HQ2 := Lib.hid hq2
  clear H1 hL2 hq2 c0
  go_wp2_with fail
  refine (H2.out _ HL2.out).mono ?_
  rintro e w3 ⟨rfl, hL3, hq3⟩
  have HL3 := Lib.hid hL3
  have HQ3 := Lib.hid (HQ2.out.trans hq3)
  clear H2 hL3 hq3 HL2 HQ2
  go_wp2_with fail
  refine (H3.out _ HL3.out).mono ?_
  rintro e w4 ⟨rfl, rfl⟩
  clear H3
  go_wp2_with fail
  refine (H4.out _ HL3.out).mono ?_
  rintro e w5 ⟨rfl, hL5, hq5⟩
  have HL5 := Lib.hid hL5
  have HQ5 := Lib.hid (HQ3.out.trans hq5)
  clear H4 hL5 hq5 HL3 HQ3
  go_wp2_with fail
  refine (H5.out _ HL5.out).mono ?_
  rintro e w6 ⟨rfl, hL6, hq6⟩
  have HE := Lib.hid (And.intro (H6.out _ hL6) (HQ5.out.trans hq6))
  clear H5 H6 hL6 hq6 HL5 HQ5
  go_wp2_with fail
  go_ret
  exact ⟨rfl, HE.out⟩

set_option maxHeartbeats 1000000 in
theorem ring_next_none (s : Spot) (R : Rows) (w : World) (hR : Ring s R w) (hW : R.grey = []) :
    Calls Try.prog 44 #[.pointer (some ⟨s.r, 0, none⟩)] w fun e w' => e = .returned (.tuple #[.int .i64 0, .bool false]) ∧ w' = w := by
  obtain ⟨C, F, D, hL, hI⟩ := hR
  have e0 : C 2 = 0 := by rw [hI.c2, hW]; rfl
  have c0 : w.cell? ⟨s.r, 7, none⟩ = some (.int .i64 (C 2)) := hL.count 2 (by decide)
  rw [e0] at c0
  clear hL hI
  go_enter Try.func44, Try.ntmps44
  go_wp2_with fail
  go_ret2
  exact ⟨rfl, rfl⟩

set_option maxHeartbeats 4000000 in
theorem lies_next (s : Spot) (C F D : Nat → Int) (R : Rows) (w : World) (hL : Lies s C F D w) (hI : Inv s.n D C F R) (c : Int) (l : List Int) (hW : R.grey = l ++ [c]) :
    Calls Try.prog 44 #[.pointer (some ⟨s.r, 0, none⟩)] w fun e w' => e = .returned (.tuple #[.int .i64 c, .bool true]) ∧ Lies s C F D w' ∧ Turn s w w' := by
  have e0 : C 2 = l.length + 1 := by rw [hI.c2, hW]; simp
  have g0 : (C 2 == 0) = false := by simp; omega
  have c0 : w.cell? ⟨s.r, 7, none⟩ = some (.int .i64 (C 2)) := hL.count 2 (by decide)
  obtain ⟨x, hx, hxa, hxc⟩ := hI.lastGrey hW
  have hxr := hI.rng hxa
  have h1 : ∀ w, Lies s C F D w → _ := fun w h => start_3 s C F D w h
  have h2 : ∀ w, Lies s C F D w → _ := fun w h => last_any s C F D w h x hxr.1 hxr.2
  rw [hx] at h1
  rw [hxc] at h2
  have H1 := Lib.hid h1
  have H2 := Lib.hid h2
  have H0 := Lib.hid (And.intro hL.drew (Turn.of_below (s := s) (Below.refl w.heap.size w).drew))
  have cl := keep_last hL
  generalize C 2 = c2 at c0 g0
  clear hL hI hW e0 hx hxa hxc hxr h1 h2
  go_enter Try.func44, Try.ntmps44
  go_wp2_with fail
  go_region_held3 (fun W' => W'.cell? ⟨s.r, 3, none⟩ = some (.func (.func 99) #[] #[.pointer (some ⟨s.a2, 0, none⟩), .pointer (some ⟨s.n2, 0, none⟩)]))
    (first
      | assumption
      | exact keep_last hk9
      | exact keep_last H0.out.1)
    (first
      | (go_at_call 71; refine (H1.out _ H0.out.1).mono ?_; rintro e w2 ⟨rfl, rfl⟩; have hk9 := H0.out.1; clear H1)
      | (go_at_call 99; refine (H2.out _ H0.out.1).mono ?_; rintro e w3 ⟨rfl, hk9, hq3⟩; have H3 := Lib.hid (And.intro hk9 (H0.out.2.trans hq3)); clear H2 hq3))
  go_wp2_with fail
  go_ret2
  exact ⟨rfl, H3.out⟩

theorem ring_next (s : Spot) (R : Rows) (w : World) (hR : Ring s R w) (c : Int) (l : List Int) (hW : R.grey = l ++ [c]) :
    Calls Try.prog 44 #[.pointer (some ⟨s.r, 0, none⟩)] w fun e w' => e = .returned (.tuple #[.int .i64 c, .bool true]) ∧ Ring s R w' ∧ Turn s w w' := by
  obtain ⟨C, F, D, hL, hI⟩ := hR
  refine (lies_next s C F D R w hL hI c l hW).mono ?_
  rintro e w' ⟨rfl, h1, h2⟩
  exact ⟨rfl, ⟨C, F, D, h1, hI⟩, h2⟩

set_option maxHeartbeats 1000000 in
theorem ring_done_none (s : Spot) (R : Rows) (w : World) (hR : Ring s R w) (hW : R.grey = []) :
    Calls Try.prog 45 #[.pointer (some ⟨s.r, 0, none⟩)] w fun e w' => e = .returned (.int .i64 18) ∧ w' = w := by
  have H1 := Lib.hid (ring_next_none s R w hR hW)
  clear hR hW
  go_enter Try.func45, Try.ntmps45
  go_wp2_with fail
  refine H1.out.mono ?_
  rintro e w2 ⟨rfl, rfl⟩
  clear H1
  go_wp2_with fail
  go_ret
  exact ⟨rfl, rfl⟩

set_option maxHeartbeats 4000000 in
theorem ring_done (s : Spot) (R : Rows) (w : World) (hR : Ring s R w) (c : Int) (l : List Int) (hW : R.grey = l ++ [c]) :
    Calls Try.prog 45 #[.pointer (some ⟨s.r, 0, none⟩)] w fun e w' => e = .returned (.int .i64 0) ∧ Ring s R.done w' ∧ Turn s w w' := by
  obtain ⟨C, F, D, hL, hI⟩ := hR
  have b2 := hI.b2
  have h1 := lies_next s C F D R w hL hI c l hW
  have hw : IntKind.i64.wrap (C 2 - 1) = C 2 - 1 := by rw [IntKind.wrap_i64]; omega
  have h2 : ∀ w, Lies s (upd C 2 (C 2 - 1)) F D w → _ := fun w h => enterFirst_3 s _ F D w h c (show 0 ≤ C 3 from hI.b3.1) (show C 3 ≤ 1000 from hI.b3.2)
  have h3 : ∀ w, Lies s (upd (upd C 2 (C 2 - 1)) 3 (upd C 2 (C 2 - 1) 3 + 1)) (upd F 3 c) D w → Ring s R.done w := fun w h => ⟨_, _, _, h, hI.done hW⟩
  have H1 := Lib.hid h1
  have H2 := Lib.hid h2
  have H3 := Lib.hid h3
  clear hL hI hW h1 h2 h3 b2
  go_enter Try.func45, Try.ntmps45
  go_wp2_with fail
  refine H1.out.mono ?_
  rintro e w2 ⟨rfl, hL2, hq2⟩
  have c0 : w2.cell? ⟨s.r, 7, none⟩ = some (.int .i64 (C 2)) := hL2.count 2 (by decide)
  have z0 := hL2.fz 7
  have H4 := Lib.hid (And.intro (hL2.setCount 2 (C 2 - 1) (by decide)).drew ((hq2.trans (Turn.setR s 7 (.int .i64 (C 2 - 1)) w2)).then (c := (w2.setCell ⟨s.r, 7, none⟩ (.int .i64 (C 2 - 1))).drew) (Below.refl _ _).drew))
  generalize upd C 2 (C 2 - 1) = C' at H2 H3 H4
  clear hL2 hq2 H1
  go_wp2_with fail
  go_region
  go_wp2_with fail
  refine (H2.out _ H4.out.1).mono ?_
  rintro e w5 ⟨rfl, hL5, hq5⟩
  have HE := Lib.hid (And.intro (H3.out _ hL5) (H4.out.2.trans hq5))
  clear H2 H3 hL5 hq5 H4 c0 z0
  go_wp2_with fail
  go_ret
  exact ⟨rfl, HE.out⟩

set_option maxHeartbeats 1000000 in
theorem ring_begin_not (s : Spot) (R : Rows) (w : World) (hR : Ring s R w) (hW : ¬ (R.frm = [] ∧ R.grey = [])) :
    Calls Try.prog 37 #[.pointer (some ⟨s.r, 0, none⟩)] w fun e w' => e = .returned (.int .i64 18) ∧ w' = w := by
  obtain ⟨C, F, D, hL, hI⟩ := hR
  have e1 := hI.c1
  have e2 := hI.c2
  have c1 : w.cell? ⟨s.r, 6, none⟩ = some (.int .i64 (C 1)) := hL.count 1 (by decide)
  have c2 : w.cell? ⟨s.r, 7, none⟩ = some (.int .i64 (C 2)) := hL.count 2 (by decide)
  by_cases g : R.frm = []
  · have g1 : decide (0 < C 1) = false := decide_eq_false (by rw [e1, g]; decide)
    have g2 : decide (0 < C 2) = true := decide_eq_true (by
      rw [e2]
      cases h : R.grey with
      | nil => exact absurd ⟨g, h⟩ hW
      | cons x l => simp)
    clear hL hI hW e1 e2 g
    go_enter Try.func37, Try.ntmps37
    go_wp2_with fail
    go_ret
    exact ⟨rfl, rfl⟩
  · have g1 : decide (0 < C 1) = true := decide_eq_true (by
      rw [e1]
      cases h : R.frm with
      | nil => exact absurd h g
      | cons x l => simp)
    clear hL hI hW e1 e2 g
    go_enter Try.func37, Try.ntmps37
    go_wp2_with fail
    go_ret
    exact ⟨rfl, rfl⟩

set_option maxHeartbeats 1000000 in
theorem ring_begin (s : Spot) (R : Rows) (w : World) (hR : Ring s R w) (g1 : R.frm = []) (g2 : R.grey = []) :
    Calls Try.prog 37 #[.pointer (some ⟨s.r, 0, none⟩)] w fun e w' => e = .returned (.int .i64 0) ∧ Ring s R.begin w' ∧ Turn s w w' := by
  obtain ⟨C, F, D, hL, hI⟩ := hR
  have e1 : C 1 = 0 := by rw [hI.c1, g1]; rfl
  have e2 : C 2 = 0 := by rw [hI.c2, g2]; rfl
  have c1 : w.cell? ⟨s.r, 6, none⟩ = some (.int .i64 (C 1)) := hL.count 1 (by decide)
  have c2 : w.cell? ⟨s.r, 7, none⟩ = some (.int .i64 (C 2)) := hL.count 2 (by decide)
  rw [e1] at c1
  rw [e2] at c2
  have h1 := recolour_31 s C F D w hL hI.b3.1 hI.b3.2 hI.b1.1 hI.b1.2
  have h3 : ∀ w, Lies s (upd (upd C 1 (C 1 + C 3)) 3 0) (lastF C F (F 3) 1) D w → Ring s R.begin w := fun w h => ⟨_, _, _, h, by rw [show lastF C F (F 3) 1 = upd F 1 (F 3) from if_pos e1]; exact hI.begin g1 g2⟩
  have H1 := Lib.hid h1
  have H3 := Lib.hid h3
  clear hL hI g1 g2 e1 e2 h1 h3
  go_enter Try.func37, Try.ntmps37
  go_wp2_with fail
  refine H1.out.mono ?_
  rintro e w2 ⟨rfl, hL2, hq2⟩
  have HE := Lib.hid (And.intro (H3.out _ hL2) hq2)
  clear H1 H3 hL2 hq2 c1 c2
  go_wp2_with fail
  go_ret
  exact ⟨rfl, HE.out⟩

set_option maxHeartbeats 1000000 in
theorem ring_end_not (s : Spot) (R : Rows) (w : World) (hR : Ring s R w) (hW : R.grey ≠ []) :
    Calls Try.prog 46 #[.pointer (some ⟨s.r, 0, none⟩)] w fun e w' => e = .returned (.int .i64 18) ∧ w' = w := by
  obtain ⟨C, F, D, hL, hI⟩ := hR
  have e2 := hI.c2
  have c2 : w.cell? ⟨s.r, 7, none⟩ = some (.int .i64 (C 2)) := hL.count 2 (by decide)
  have g2 : decide (0 < C 2) = true := decide_eq_true (by
    rw [e2]
    cases h : R.grey with
    | nil => exact absurd h hW
    | cons x l => simp)
  clear hL hI hW e2
  go_enter Try.func46, Try.ntmps46
  go_wp2_with fail
  go_ret
  exact ⟨rfl, rfl⟩

set_option maxHeartbeats 1000000 in
theorem ring_end (s : Spot) (R : Rows) (w : World) (hR : Ring s R w) (g2 : R.grey = []) :
    Calls Try.prog 46 #[.pointer (some ⟨s.r, 0, none⟩)] w fun e w' => e = .returned (.int .i64 0) ∧ Ring s R.fin w' ∧ Turn s w w' := by
  obtain ⟨C, F, D, hL, hI⟩ := hR
  have e2 : C 2 = 0 := by rw [hI.c2, g2]; rfl
  have c2 : w.cell? ⟨s.r, 7, none⟩ = some (.int .i64 (C 2)) := hL.count 2 (by decide)
  rw [e2] at c2
  have h1 := recolour_10 s C F D w hL hI.b1.1 hI.b1.2 hI.b0.1 hI.b0.2
  have h3 : ∀ w, Lies s (upd (upd C 0 (C 0 + C 1)) 1 0) (lastF C F (F 1) 0) D w → Ring s R.fin w := fun w h => ⟨_, _, _, h, hI.fin g2⟩
  have H1 := Lib.hid h1
  have H3 := Lib.hid h3
  clear hL hI g2 e2 h1 h3
  go_enter Try.func46, Try.ntmps46
  go_wp2_with fail
  refine H1.out.mono ?_
  rintro e w2 ⟨rfl, hL2, hq2⟩
  have HE := Lib.hid (And.intro (H3.out _ hL2) hq2)
  clear H1 H3 hL2 hq2 c2
  go_wp2_with fail
  go_ret
  exact ⟨rfl, HE.out⟩

set_option maxHeartbeats 1000000 in
theorem ring_counts (s : Spot) (R : Rows) (w : World) (hR : Ring s R w) :
    Calls Try.prog 89 #[.pointer (some ⟨s.r, 0, none⟩)] w fun e w' => e = .returned (.agg #[.int .i64 R.white.length, .int .i64 R.frm.length, .int .i64 R.grey.length, .int .i64 R.black.length]) ∧ Below w.heap.size w w' := by
  obtain ⟨C, F, D, hL, hI⟩ := hR
  have c0 : w.cell? ⟨s.r, 5, none⟩ = some (.int .i64 (C 0)) := hL.count 0 (by decide)
  have c1 : w.cell? ⟨s.r, 6, none⟩ = some (.int .i64 (C 1)) := hL.count 1 (by decide)
  have c2 : w.cell? ⟨s.r, 7, none⟩ = some (.int .i64 (C 2)) := hL.count 2 (by decide)
  have c3 : w.cell? ⟨s.r, 8, none⟩ = some (.int .i64 (C 3)) := hL.count 3 (by decide)
  rw [hI.c0] at c0
  rw [hI.c1] at c1
  rw [hI.c2] at c2
  rw [hI.c3] at c3
  have lr := hL.lr
  have hne : s.r ≠ w.heap.size := by omega
  clear hL hI
  go_enter Try.func89, Try.ntmps89
  go_wp2_with fail
  refine bodyPost_ret (v := .agg #[.int .i64 R.white.length, .int .i64 R.frm.length, .int .i64 R.grey.length, .int .i64 R.black.length]) (by simp [results, Try.results89, go_sem]) rfl ⟨rfl, ?_⟩
  exact (Below.refl _ _).alloc (Nat.le_refl _) _

end Go.Proofs.Ytbjlpmjalidfkaa
