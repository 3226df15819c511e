/- The ring's calls, with its arena's words told. (Written by gen/genRdB.py out of RiF.) -/
import Derived.Test.YtbjlpmjalidfkaaRdA
import Derived.Test.YtbjlpmjalidfkaaRiK
namespace Go.Proofs.Ytbjlpmjalidfkaa
open Go.RowKit

theorem ringd_grow (s : Spot) (R : Rows) (w : World) (D : Nat → Int) (hR : RingD s R D w) (c : Int) (hf : Fit s.n (c :: R.all)) (hl : R.all.length < 1000) :
    Calls Try.prog 35 #[.pointer (some ⟨s.r, 0, none⟩), .int .i64 c] w fun e w' => e = .returned (.int .i64 0) ∧ (∃ D', RingD s (R.grow c) D' w' ∧ SameBut (R.grow c) D D') ∧ Turn s w w' := by
  obtain ⟨C, F, hL, hI⟩ := hR
  have hc : Rng s.n c := hf.rng c (by simp)
  have hn := hL.nb
  unfold Rng at hc
  have g' : decide (c < 1) = false := decide_eq_false (by omega)
  obtain ⟨u, hA⟩ := hL.words
  have ca := hL.arena
  have hw : IntKind.i64.wrap ((s.n : Int) - 3) = (s.n : Int) - 3 := by rw [IntKind.wrap_i64]; omega
  have g3 : decide ((s.n : Int) - 3 < c) = false := decide_eq_false (by omega)
  have hx := rng_head hI.cyc (hf.tail)
  rw [← hI.start0] at hx
  have h1 := start_0 s C F D w hL
  have h2 := insert_any s C F D w hL c (start0 C F) hc hx
  have h3 : ∀ w, Lies s C F (inserted D c (start0 C F)) w → _ := fun w h => enterFirst_0 s C F _ w h c hI.b0.1 hI.b0.2
  have h4 : ∀ w, Lies s (upd C 0 (C 0 + 1)) (upd F 0 c) (inserted D c (start0 C F)) w → ∃ D', RingD s (R.grow c) D' w ∧ SameBut (R.grow c) D D' := fun w h => ⟨_, ⟨_, _, h, hI.grow hf hl⟩, by rw [hI.start0]; exact same_inserted hI.cyc hf (fun x hx => hx)⟩
  have HA := Lib.hid hA
  have H1 := Lib.hid h1
  have H2 := Lib.hid h2
  have H3 := Lib.hid h3
  have H4 := Lib.hid h4
  generalize start0 C F = x at H1 H2 H3 H4
  clear hL hI hA hc hf hl hx h1 h2 h3 h4
  go_enter Try.func35, Try.ntmps35
  go_wp2_with fail
  refine (len_any s.p s.d s.n D u w HA.out).mono ?_
  rintro e w2 ⟨rfl, rfl⟩
  clear HA
  go_wp2_with fail
  refine H1.out.mono ?_
  rintro e w3 ⟨rfl, rfl⟩
  clear H1
  go_wp2_with fail
  refine H2.out.mono ?_
  rintro e w4 ⟨rfl, hL4, hq4⟩
  have HL4 := Lib.hid hL4
  have HQ4 := Lib.hid hq4
  clear H2 hL4 hq4 ca
  go_wp2_with fail
  refine (H3.out _ HL4.out).mono ?_
  rintro e w5 ⟨rfl, hL5, hq5⟩
  have HE := Lib.hid (And.intro (H4.out _ hL5) (HQ4.out.trans hq5))
  clear H3 hL5 hq5 HL4 HQ4
  go_wp2_with fail
  go_ret
  exact ⟨rfl, HE.out⟩

theorem ringd_alloc (s : Spot) (R : Rows) (w : World) (D : Nat → Int) (hR : RingD s R D w) (c : Int) (l : List Int) (hW : R.white = c :: l) :
    Calls Try.prog 36 #[.pointer (some ⟨s.r, 0, none⟩)] w fun e w' => e = .returned (.tuple #[.int .i64 c, .int .i64 0]) ∧ (∃ D', RingD s R.alloc D' w' ∧ D' = D) ∧ Turn s w w' := by
  obtain ⟨C, F, hL, hI⟩ := hR
  have hc : Rng s.n c := hI.rng (by simp [Rows.all, hW])
  have e0 : C 0 = l.length + 1 := by rw [hI.c0, hW]; simp
  have g0 : (C 0 == 0) = false := by simp; omega
  have ef : F 0 = c := hI.f0 c l hW
  have c0 : w.cell? ⟨s.r, 5, none⟩ = some (.int .i64 (C 0)) := hL.count 0 (by decide)
  have f0 : w.cell? ⟨s.r, 9, none⟩ = some (.int .i64 (F 0)) := hL.first 0 (by decide)
  rw [ef] at f0
  have h1 := leave_0 s C F D w hL c hc hI.b0.1 hI.b0.2
  have h2 : ∀ w, Lies s (upd C 0 (C 0 - 1)) (leftF D F c 0) D w → _ := fun w h => enterLast_3 s _ _ D w h c (show 0 ≤ C 3 from hI.b3.1) (show C 3 ≤ 1000 from hI.b3.2)
  have h3 : ∀ w, Lies s (upd (upd C 0 (C 0 - 1)) 3 (upd C 0 (C 0 - 1) 3 + 1)) (lastF (upd C 0 (C 0 - 1)) (leftF D F c 0) c 3) D w → ∃ D', RingD s R.alloc D' w ∧ D' = D := fun w h => ⟨_, ⟨_, _, h, hI.alloc hW⟩, rfl⟩
  have H1 := Lib.hid h1
  have H2 := Lib.hid h2
  have H3 := Lib.hid h3
  generalize C 0 = x at c0 g0 H1 H2 H3
  clear hL hI hc hW ef h1 h2 h3 e0
  go_enter Try.func36, Try.ntmps36
  go_wp2_with fail
  refine H1.out.mono ?_
  rintro e w4 ⟨rfl, hL4, hq4⟩
  have HL4 := Lib.hid hL4
  have HQ4 := Lib.hid hq4
  clear H1 hL4 hq4 c0 f0
  go_wp2_with fail
  refine (H2.out _ HL4.out).mono ?_
  rintro e w5 ⟨rfl, hL5, hq5⟩
  have HE := Lib.hid (And.intro (H3.out _ hL5) (HQ4.out.trans hq5))
  clear H3 hL5 hq5 HL4 HQ4
  go_wp2_with fail
  go_ret2
  exact ⟨rfl, HE.out⟩

theorem ringd_drop (s : Spot) (R : Rows) (w : World) (D : Nat → Int) (hR : RingD s R D w) (c : Int) (l : List Int) (hW : R.white = c :: l) :
    Calls Try.prog 47 #[.pointer (some ⟨s.r, 0, none⟩)] w fun e w' => e = .returned (.tuple #[.int .i64 c, .int .i64 0]) ∧ (∃ D', RingD s R.drop D' w' ∧ SameBut R D D') ∧ Turn s w w' := by
  obtain ⟨C, F, hL, hI⟩ := hR
  have hc : Rng s.n c := hI.rng (by simp [Rows.all, hW])
  have e0 : C 0 = l.length + 1 := by rw [hI.c0, hW]; simp
  have g0 : (C 0 == 0) = false := by simp; omega
  have ef : F 0 = c := hI.f0 c l hW
  have c0 : w.cell? ⟨s.r, 5, none⟩ = some (.int .i64 (C 0)) := hL.count 0 (by decide)
  have f0 : w.cell? ⟨s.r, 9, none⟩ = some (.int .i64 (F 0)) := hL.first 0 (by decide)
  rw [ef] at f0
  have ea : R.all = c :: (l ++ (R.frm ++ (R.grey ++ R.black))) := by simp [Rows.all, hW]
  have hr := rng_around (D := D) (by rw [← ea]; exact hI.cyc) (by rw [← ea]; exact hI.fit)
  have hsame : SameBut R D (removed D c) := same_removed (by rw [← ea]; exact hI.cyc) (by rw [← ea]; exact hI.fit) (fun x hx => by rw [ea]; exact hx)
  have h1 := leave_0 s C F D w hL c hc hI.b0.1 hI.b0.2
  have h2 : ∀ w, Lies s (upd C 0 (C 0 - 1)) (leftF D F c 0) D w → _ := fun w h => remove_any s _ _ D w h c hc hr.1 hr.2
  have h3 : ∀ w, Lies s (upd C 0 (C 0 - 1)) (leftF D F c 0) (removed D c) w → ∃ D', RingD s R.drop D' w ∧ SameBut R D D' := fun w h => ⟨_, ⟨_, _, h, hI.drop hW⟩, hsame⟩
  have H1 := Lib.hid h1
  have H2 := Lib.hid h2
  have H3 := Lib.hid h3
  generalize C 0 = x at c0 g0 H1 H2 H3
  clear hL hI hc hW ef h1 h2 h3 e0 ea hr hsame
  go_enter Try.func47, Try.ntmps47
  go_wp2_with fail
  refine H1.out.mono ?_
  rintro e w4 ⟨rfl, hL4, hq4⟩
  have HL4 := Lib.hid hL4
  have HQ4 := Lib.hid hq4
  clear H1 hL4 hq4 c0 f0
  go_wp2_with fail
  refine (H2.out _ HL4.out).mono ?_
  rintro e w5 ⟨rfl, hL5, hq5⟩
  have HE := Lib.hid (And.intro (H3.out _ hL5) (HQ4.out.trans hq5))
  clear H3 hL5 hq5 HL4 HQ4
  go_wp2_with fail
  go_ret2
  exact ⟨rfl, HE.out⟩

theorem ringd_shade (s : Spot) (R : Rows) (w : World) (D : Nat → Int) (hR : RingD s R D w) (c : Int) (hW : c ∈ R.frm) :
    Calls Try.prog 42 #[.pointer (some ⟨s.r, 0, none⟩), .int .i64 c] w fun e w' => e = .returned (.int .i64 0) ∧ (∃ D', RingD s (R.shade c) D' w' ∧ SameBut R D D') ∧ Turn s w w' := by
  obtain ⟨C, F, hL, hI⟩ := hR
  obtain ⟨l, m, _, hf, he⟩ := List.exists_erase_eq hW
  obtain ⟨hI2, hfit, hlen⟩ := hI.out hf
  have hs : R.shade c = { ({ R with frm := l ++ m } : Rows) with grey := R.grey ++ [c] } := by simp [Rows.shade, he]
  have hI3 := hI2.in hfit hlen
  have hc : Rng s.n c := hfit.rng c (by simp)
  have e0 : C 1 = l.length + m.length + 1 := by rw [hI.c1, hf]; simp; omega
  have g0 : (C 1 == 0) = false := by simp; omega
  have c0 : w.cell? ⟨s.r, 6, none⟩ = some (.int .i64 (C 1)) := hL.count 1 (by decide)
  have hcy : Cyc D (c :: (m ++ (R.grey ++ R.black) ++ (R.white ++ l))) := by
    have e : R.all = (R.white ++ l) ++ (c :: (m ++ (R.grey ++ R.black))) := by simp [Rows.all, hf]
    have := cyc_rot (D := D) (a := R.white ++ l) (b := c :: (m ++ (R.grey ++ R.black))) (by rw [← e]; exact hI.cyc)
    simpa using this
  have hfit2 : Fit s.n (c :: (m ++ (R.grey ++ R.black) ++ (R.white ++ l))) := by
    refine hfit.perm (List.Perm.cons c ?_)
    have e : (Rows.all { R with frm := l ++ m }) = (R.white ++ l) ++ (m ++ (R.grey ++ R.black)) := by simp [Rows.all]
    rw [e]
    exact List.perm_append_comm
  have hr := rng_around hcy hfit2
  have hx : start3 (upd C 1 (C 1 - 1)) (leftF D F c 1) = 0 ∨ (Rng s.n (start3 (upd C 1 (C 1 - 1)) (leftF D F c 1)) ∧ Rng s.n (removed D c (start3 (upd C 1 (C 1 - 1)) (leftF D F c 1) + 2).toNat)) := by
    rw [hI2.start3]
    have e : (Rows.all { R with frm := l ++ m }) = (R.white ++ (l ++ m ++ R.grey)) ++ R.black := by simp [Rows.all]
    refine rng_head (cyc_rot (by rw [← e]; exact hI2.cyc)) ((hI2.fit).perm ?_)
    rw [e]
    exact List.perm_append_comm
  have hsame : SameBut R D (inserted (removed D c) c (start3 (upd C 1 (C 1 - 1)) (leftF D F c 1))) := by
    have hin : ∀ x, x ∈ c :: (m ++ (R.grey ++ R.black) ++ (R.white ++ l)) → x ∈ R.all := fun x hx => by
      unfold Rows.all
      rw [hf]
      simp only [List.mem_cons, List.mem_append] at hx ⊢
      rcases hx with h | (h | h | h) | h | h <;> simp [h]
    refine (same_removed hcy hfit2 hin).trans ?_
    rw [hI2.start3]
    have e : (Rows.all { R with frm := l ++ m }) = (R.white ++ (l ++ m ++ R.grey)) ++ R.black := by simp [Rows.all]
    refine same_inserted (n := s.n) (cyc_rot (by rw [← e]; exact hI2.cyc)) (hfit.perm (List.Perm.cons c (by rw [e]; exact List.perm_append_comm))) (fun x hx => ?_)
    refine hin x ?_
    simp only [List.mem_cons, List.mem_append] at hx ⊢
    rcases hx with h | h | h | (h | h) | h <;> simp [h]
  have h1 := leave_1 s C F D w hL c hc hI.b1.1 hI.b1.2
  have h2 : ∀ w, Lies s (upd C 1 (C 1 - 1)) (leftF D F c 1) D w → _ := fun w h => remove_any s _ _ D w h c hc hr.1 hr.2
  have h3 : ∀ w, Lies s (upd C 1 (C 1 - 1)) (leftF D F c 1) (removed D c) w → _ := fun w h => start_3 s _ _ _ w h
  have h4 : ∀ w, Lies s (upd C 1 (C 1 - 1)) (leftF D F c 1) (removed D c) w → _ := fun w h => insert_any s _ _ _ w h c _ hc hx
  have h5 : ∀ w, Lies s (upd C 1 (C 1 - 1)) (leftF D F c 1) (inserted (removed D c) c (start3 (upd C 1 (C 1 - 1)) (leftF D F c 1))) w → _ := fun w h => enterLast_2 s _ _ _ w h c hI2.b2.1 hI2.b2.2
  have h6 : ∀ w, Lies s (upd (upd C 1 (C 1 - 1)) 2 (upd C 1 (C 1 - 1) 2 + 1)) (lastF (upd C 1 (C 1 - 1)) (leftF D F c 1) c 2) (inserted (removed D c) c (start3 (upd C 1 (C 1 - 1)) (leftF D F c 1))) w → ∃ D', RingD s (R.shade c) D' w ∧ SameBut R D D' := fun w h => ⟨_, ⟨_, _, h, by rw [hs]; exact hI3⟩, hsame⟩
  have H1 := Lib.hid h1
  have H2 := Lib.hid h2
  have H3 := Lib.hid h3
  have H4 := Lib.hid h4
  have H5 := Lib.hid h5
  have H6 := Lib.hid h6
  generalize upd C 1 (C 1 - 1) = C' at H1 H2 H3 H4 H5 H6
  generalize leftF D F c 1 = F' at H1 H2 H3 H4 H5 H6
  generalize start3 C' F' = x at H3 H4 H5 H6
  generalize C 1 = c1 at c0 g0
  clear hL hI hc hW hf he hI2 hfit hlen hs hI3 e0 hcy hfit2 hr hx h1 h2 h3 h4 h5 h6 hsame
  go_enter Try.func42, Try.ntmps42
  go_wp2_with fail
  refine H1.out.mono ?_
  rintro e w2 ⟨rfl, hL2, hq2⟩
  have HL2 := Lib.hid hL2
  have HQ2 := Lib.hid hq2
  clear H1 hL2 hq2 c0
  go_wp2_with fail
  refine (H2.out _ HL2.out).mono ?_
  rintro e w3 ⟨rfl, hL3, hq3⟩
  have HL3 := Lib.hid hL3
  have HQ3 := Lib.hid (HQ2.out.trans hq3)
  clear H2 hL3 hq3 HL2 HQ2
  go_wp2_with fail
  refine (H3.out _ HL3.out).mono ?_
  rintro e w4 ⟨rfl, rfl⟩
  clear H3
  go_wp2_with fail
  refine (H4.out _ HL3.out).mono ?_
  rintro e w5 ⟨rfl, hL5, hq5⟩
  have HL5 := Lib.hid hL5
  have HQ5 := Lib.hid (HQ3.out.trans hq5)
  clear H4 hL5 hq5 HL3 HQ3
  go_wp2_with fail
  refine (H5.out _ HL5.out).mono ?_
  rintro e w6 ⟨rfl, hL6, hq6⟩
  have HE := Lib.hid (And.intro (H6.out _ hL6) (HQ5.out.trans hq6))
  clear H5 H6 hL6 hq6 HL5 HQ5
  go_wp2_with fail
  go_ret
  exact ⟨rfl, HE.out⟩

theorem ringd_done (s : Spot) (R : Rows) (w : World) (D : Nat → Int) (hR : RingD s R D w) (c : Int) (l : List Int) (hW : R.grey = l ++ [c]) :
    Calls Try.prog 45 #[.pointer (some ⟨s.r, 0, none⟩)] w fun e w' => e = .returned (.int .i64 0) ∧ (∃ D', RingD s R.done D' w' ∧ D' = D) ∧ Turn s w w' := by
  obtain ⟨C, F, hL, hI⟩ := hR
  have b2 := hI.b2
  have h1 := lies_next s C F D R w hL hI c l hW
  have hw : IntKind.i64.wrap (C 2 - 1) = C 2 - 1 := by rw [IntKind.wrap_i64]; omega
  have h2 : ∀ w, Lies s (upd C 2 (C 2 - 1)) F D w → _ := fun w h => enterFirst_3 s _ F D w h c (show 0 ≤ C 3 from hI.b3.1) (show C 3 ≤ 1000 from hI.b3.2)
  have h3 : ∀ w, Lies s (upd (upd C 2 (C 2 - 1)) 3 (upd C 2 (C 2 - 1) 3 + 1)) (upd F 3 c) D w → ∃ D', RingD s R.done D' w ∧ D' = D := fun w h => ⟨_, ⟨_, _, h, hI.done hW⟩, rfl⟩
  have H1 := Lib.hid h1
  have H2 := Lib.hid h2
  have H3 := Lib.hid h3
  clear hL hI hW h1 h2 h3 b2
  go_enter Try.func45, Try.ntmps45
  go_wp2_with fail
  refine H1.out.mono ?_
  rintro e w2 ⟨rfl, hL2, hq2⟩
  have c0 : w2.cell? ⟨s.r, 7, none⟩ = some (.int .i64 (C 2)) := hL2.count 2 (by decide)
  have z0 := hL2.fz 7
  have H4 := Lib.hid (And.intro (hL2.setCount 2 (C 2 - 1) (by decide)).drew ((hq2.trans (Turn.setR s 7 (.int .i64 (C 2 - 1)) w2)).then (c := (w2.setCell ⟨s.r, 7, none⟩ (.int .i64 (C 2 - 1))).drew) (Below.refl _ _).drew))
  generalize upd C 2 (C 2 - 1) = C' at H2 H3 H4
  clear hL2 hq2 H1
  go_wp2_with fail
  go_region
  go_wp2_with fail
  refine (H2.out _ H4.out.1).mono ?_
  rintro e w5 ⟨rfl, hL5, hq5⟩
  have HE := Lib.hid (And.intro (H3.out _ hL5) (H4.out.2.trans hq5))
  clear H2 H3 hL5 hq5 H4 c0 z0
  go_wp2_with fail
  go_ret
  exact ⟨rfl, HE.out⟩

theorem ringd_begin (s : Spot) (R : Rows) (w : World) (D : Nat → Int) (hR : RingD s R D w) (g1 : R.frm = []) (g2 : R.grey = []) :
    Calls Try.prog 37 #[.pointer (some ⟨s.r, 0, none⟩)] w fun e w' => e = .returned (.int .i64 0) ∧ (∃ D', RingD s R.begin D' w' ∧ D' = D) ∧ Turn s w w' := by
  obtain ⟨C, F, hL, hI⟩ := hR
  have e1 : C 1 = 0 := by rw [hI.c1, g1]; rfl
  have e2 : C 2 = 0 := by rw [hI.c2, g2]; rfl
  have c1 : w.cell? ⟨s.r, 6, none⟩ = some (.int .i64 (C 1)) := hL.count 1 (by decide)
  have c2 : w.cell? ⟨s.r, 7, none⟩ = some (.int .i64 (C 2)) := hL.count 2 (by decide)
  rw [e1] at c1
  rw [e2] at c2
  have h1 := recolour_31 s C F D w hL hI.b3.1 hI.b3.2 hI.b1.1 hI.b1.2
  have h3 : ∀ w, Lies s (upd (upd C 1 (C 1 + C 3)) 3 0) (lastF C F (F 3) 1) D w → ∃ D', RingD s R.begin D' w ∧ D' = D := fun w h => ⟨_, ⟨_, _, h, by rw [show lastF C F (F 3) 1 = upd F 1 (F 3) from if_pos e1]; exact hI.begin g1 g2⟩, rfl⟩
  have H1 := Lib.hid h1
  have H3 := Lib.hid h3
  clear hL hI g1 g2 e1 e2 h1 h3
  go_enter Try.func37, Try.ntmps37
  go_wp2_with fail
  refine H1.out.mono ?_
  rintro e w2 ⟨rfl, hL2, hq2⟩
  have HE := Lib.hid (And.intro (H3.out _ hL2) hq2)
  clear H1 H3 hL2 hq2 c1 c2
  go_wp2_with fail
  go_ret
  exact ⟨rfl, HE.out⟩

theorem ringd_end (s : Spot) (R : Rows) (w : World) (D : Nat → Int) (hR : RingD s R D w) (g2 : R.grey = []) :
    Calls Try.prog 46 #[.pointer (some ⟨s.r, 0, none⟩)] w fun e w' => e = .returned (.int .i64 0) ∧ (∃ D', RingD s R.fin D' w' ∧ D' = D) ∧ Turn s w w' := by
  obtain ⟨C, F, hL, hI⟩ := hR
  have e2 : C 2 = 0 := by rw [hI.c2, g2]; rfl
  have c2 : w.cell? ⟨s.r, 7, none⟩ = some (.int .i64 (C 2)) := hL.count 2 (by decide)
  rw [e2] at c2
  have h1 := recolour_10 s C F D w hL hI.b1.1 hI.b1.2 hI.b0.1 hI.b0.2
  have h3 : ∀ w, Lies s (upd (upd C 0 (C 0 + C 1)) 1 0) (lastF C F (F 1) 0) D w → ∃ D', RingD s R.fin D' w ∧ D' = D := fun w h => ⟨_, ⟨_, _, h, hI.fin g2⟩, rfl⟩
  have H1 := Lib.hid h1
  have H3 := Lib.hid h3
  clear hL hI g2 e2 h1 h3
  go_enter Try.func46, Try.ntmps46
  go_wp2_with fail
  refine H1.out.mono ?_
  rintro e w2 ⟨rfl, hL2, hq2⟩
  have HE := Lib.hid (And.intro (H3.out _ hL2) hq2)
  clear H1 H3 hL2 hq2 c2
  go_wp2_with fail
  go_ret
  exact ⟨rfl, HE.out⟩

theorem ringd_next (s : Spot) (R : Rows) (w : World) (D : Nat → Int) (hR : RingD s R D w) (c : Int) (l : List Int) (hW : R.grey = l ++ [c]) :
    Calls Try.prog 44 #[.pointer (some ⟨s.r, 0, none⟩)] w fun e w' => e = .returned (.tuple #[.int .i64 c, .bool true]) ∧ RingD s R D w' ∧ Turn s w w' := by
  obtain ⟨C, F, hL, hI⟩ := hR
  refine (lies_next s C F D R w hL hI c l hW).mono ?_
  rintro e w' ⟨rfl, h1, h2⟩
  exact ⟨rfl, ⟨C, F, h1, hI⟩, h2⟩

theorem ringd_list (s : Spot) (R : Rows) (w : World) (D : Nat → Int) (hR : RingD s R D w) :
    Calls Try.prog 14 #[.pointer (some ⟨s.r, 0, none⟩)] w fun e w' => ∃ v0 v1 v2 v3, e = .returned (.agg #[v0, v1, v2, v3]) ∧ Row w' w.heap.size w'.heap.size v0 R.white ∧ Row w' w.heap.size w'.heap.size v1 R.frm ∧ Row w' w.heap.size w'.heap.size v2 R.grey ∧ Row w' w.heap.size w'.heap.size v3 R.black ∧ RingD s R D w' ∧ Turn s w w' := by
  obtain ⟨C, F, hL, hI⟩ := hR
  refine (list_lies s C F D R w hL hI).mono ?_
  rintro e w' ⟨v0, v1, v2, v3, h1, h2, h3, h4, h5, h6, h7⟩
  exact ⟨v0, v1, v2, v3, h1, h2, h3, h4, h5, ⟨C, F, h6, hI⟩, h7⟩

end Go.Proofs.Ytbjlpmjalidfkaa
