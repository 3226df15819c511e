import Derived.Deep.DeepCutAuto
import Derived.Test.YthliahaopelooaaChecked
import Derived.WalkKit
import Derived.BigQuiet
import Derived.Deep.QuietTactic
import Derived.Below
import Derived.Laws.StructEq
import Derived.Lib.QuietBelow
import Derived.Lib.Hide
import Derived.Laws.OwnMore
import Derived.Laws.CopyRow
import Derived.Lib.SliceRun
import Derived.Lib.AppendZerosOnto
import Derived.Lib.Overlaps
import Derived.Laws.Externs
import Derived.Laws.IdiomCopy
import Derived.Deep.RegionLaw
import Derived.Deep.AppendLies
import Derived.Deep.RegionHeld3
import Derived.Shelf.Abstract
import Derived.Deep.RegionWith
import Derived.Test.YthliahaopelooaaMg2
/- The ring's calls, with its arena's words told. (Written by gen/genRdB.py out of RiF.) -/
namespace Go.Proofs.Ythliahaopelooaa
open Go.RowKit
theorem ringd_grow (s : Spot) (R : Rows) (w : World) (D : Nat → Int) (hR : RingD s R D w) (c : Int) (hf : Fit s.n (c :: R.all)) (hl : R.all.length < 1000) :
    Calls Try.prog 95 #[.pointer (some ⟨s.r, 0, none⟩), .int .i64 c] w fun e w' => e = .returned (.int .i64 0) ∧ (∃ D', RingD s (R.grow c) D' w' ∧ SameBut (R.grow c) D D') ∧ Turn s w w' := by
  obtain ⟨C, F, hL, hI⟩ := hR
  have hc : Rng s.n c := hf.rng c (by simp)
  have hn := hL.nb
  unfold Rng at hc
  have g' : decide (c < 1) = false := decide_eq_false (by omega)
  obtain ⟨u, hA⟩ := hL.words
  have ca := hL.arena
  have hw : IntKind.i64.wrap ((s.n : Int) - 3) = (s.n : Int) - 3 := by rw [IntKind.wrap_i64]; omega
  have g3 : decide ((s.n : Int) - 3 < c) = false := decide_eq_false (by omega)
  have hx := rng_head hI.cyc (hf.tail)
  rw [← hI.start0] at hx
  have h1 := start_0 s C F D w hL
  have h2 := insert_any s C F D w hL c (start0 C F) hc hx
  have h3 : ∀ w, Lies s C F (inserted D c (start0 C F)) w → _ := fun w h => enterFirst_0 s C F _ w h c hI.b0.1 hI.b0.2
  have h4 : ∀ w, Lies s (upd C 0 (C 0 + 1)) (upd F 0 c) (inserted D c (start0 C F)) w → ∃ D', RingD s (R.grow c) D' w ∧ SameBut (R.grow c) D D' := fun w h => ⟨_, ⟨_, _, h, hI.grow hf hl⟩, by rw [hI.start0]; exact same_inserted hI.cyc hf (fun x hx => hx)⟩
  have HA := Lib.hid hA
  have H1 := Lib.hid h1
  have H2 := Lib.hid h2
  have H3 := Lib.hid h3
  have H4 := Lib.hid h4
  generalize start0 C F = x at H1 H2 H3 H4
  clear hL hI hA hc hf hl hx h1 h2 h3 h4
  go_enter Try.func95, Try.ntmps95
  go_wp2_with fail
  refine (len_any s.p s.d s.n D u w HA.out).mono ?_
  rintro e w2 ⟨rfl, rfl⟩
  clear HA
  go_wp2_with fail
  refine H1.out.mono ?_
  rintro e w3 ⟨rfl, rfl⟩
  clear H1
  go_wp2_with fail
  refine H2.out.mono ?_
  rintro e w4 ⟨rfl, hL4, hq4⟩
  have HL4 := Lib.hid hL4
  have HQ4 := Lib.hid hq4
  clear H2 hL4 hq4 ca
  go_wp2_with fail
  refine (H3.out _ HL4.out).mono ?_
  rintro e w5 ⟨rfl, hL5, hq5⟩
  have HE := Lib.hid (And.intro (H4.out _ hL5) (HQ4.out.trans hq5))
  clear H3 hL5 hq5 HL4 HQ4
  go_wp2_with fail
  go_ret
  exact ⟨rfl, HE.out⟩
theorem ringd_alloc (s : Spot) (R : Rows) (w : World) (D : Nat → Int) (hR : RingD s R D w) (c : Int) (l : List Int) (hW : R.white = c :: l) :
    Calls Try.prog 91 #[.pointer (some ⟨s.r, 0, none⟩)] w fun e w' => e = .returned (.tuple #[.int .i64 c, .int .i64 0]) ∧ (∃ D', RingD s R.alloc D' w' ∧ D' = D) ∧ Turn s w w' := by
  obtain ⟨C, F, hL, hI⟩ := hR
  have hc : Rng s.n c := hI.rng (by simp [Rows.all, hW])
  have e0 : C 0 = l.length + 1 := by rw [hI.c0, hW]; simp
  have g0 : (C 0 == 0) = false := by simp; omega
  have ef : F 0 = c := hI.f0 c l hW
  have c0 : w.cell? ⟨s.r, 5, none⟩ = some (.int .i64 (C 0)) := hL.count 0 (by decide)
  have f0 : w.cell? ⟨s.r, 9, none⟩ = some (.int .i64 (F 0)) := hL.first 0 (by decide)
  rw [ef] at f0
  have h1 := leave_0 s C F D w hL c hc hI.b0.1 hI.b0.2
  have h2 : ∀ w, Lies s (upd C 0 (C 0 - 1)) (leftF D F c 0) D w → _ := fun w h => enterLast_3 s _ _ D w h c (show 0 ≤ C 3 from hI.b3.1) (show C 3 ≤ 1000 from hI.b3.2)
  have h3 : ∀ w, Lies s (upd (upd C 0 (C 0 - 1)) 3 (upd C 0 (C 0 - 1) 3 + 1)) (lastF (upd C 0 (C 0 - 1)) (leftF D F c 0) c 3) D w → ∃ D', RingD s R.alloc D' w ∧ D' = D := fun w h => ⟨_, ⟨_, _, h, hI.alloc hW⟩, rfl⟩
  have H1 := Lib.hid h1
  have H2 := Lib.hid h2
  have H3 := Lib.hid h3
  generalize C 0 = x at c0 g0 H1 H2 H3
  clear hL hI hc hW ef h1 h2 h3 e0
  go_enter Try.func91, Try.ntmps91
  go_wp2_with fail
  refine H1.out.mono ?_
  rintro e w4 ⟨rfl, hL4, hq4⟩
  have HL4 := Lib.hid hL4
  have HQ4 := Lib.hid hq4
  clear H1 hL4 hq4 c0 f0
  go_wp2_with fail
  refine (H2.out _ HL4.out).mono ?_
  rintro e w5 ⟨rfl, hL5, hq5⟩
  have HE := Lib.hid (And.intro (H3.out _ hL5) (HQ4.out.trans hq5))
  clear H3 hL5 hq5 HL4 HQ4
  go_wp2_with fail
  go_ret2
  exact ⟨rfl, HE.out⟩
theorem ringd_shade (s : Spot) (R : Rows) (w : World) (D : Nat → Int) (hR : RingD s R D w) (c : Int) (hW : c ∈ R.frm) :
    Calls Try.prog 57 #[.pointer (some ⟨s.r, 0, none⟩), .int .i64 c] w fun e w' => e = .returned (.int .i64 0) ∧ (∃ D', RingD s (R.shade c) D' w' ∧ SameBut R D D') ∧ Turn s w w' := by
  obtain ⟨C, F, hL, hI⟩ := hR
  obtain ⟨l, m, _, hf, he⟩ := List.exists_erase_eq hW
  obtain ⟨hI2, hfit, hlen⟩ := hI.out hf
  have hs : R.shade c = { ({ R with frm := l ++ m } : Rows) with grey := R.grey ++ [c] } := by simp [Rows.shade, he]
  have hI3 := hI2.in hfit hlen
  have hc : Rng s.n c := hfit.rng c (by simp)
  have e0 : C 1 = l.length + m.length + 1 := by rw [hI.c1, hf]; simp; omega
  have g0 : (C 1 == 0) = false := by simp; omega
  have c0 : w.cell? ⟨s.r, 6, none⟩ = some (.int .i64 (C 1)) := hL.count 1 (by decide)
  have hcy : Cyc D (c :: (m ++ (R.grey ++ R.black) ++ (R.white ++ l))) := by
    have e : R.all = (R.white ++ l) ++ (c :: (m ++ (R.grey ++ R.black))) := by simp [Rows.all, hf]
    have := cyc_rot (D := D) (a := R.white ++ l) (b := c :: (m ++ (R.grey ++ R.black))) (by rw [← e]; exact hI.cyc)
    simpa using this
  have hfit2 : Fit s.n (c :: (m ++ (R.grey ++ R.black) ++ (R.white ++ l))) := by
    refine hfit.perm (List.Perm.cons c ?_)
    have e : (Rows.all { R with frm := l ++ m }) = (R.white ++ l) ++ (m ++ (R.grey ++ R.black)) := by simp [Rows.all]
    rw [e]
    exact List.perm_append_comm
  have hr := rng_around hcy hfit2
  have hx : start3 (upd C 1 (C 1 - 1)) (leftF D F c 1) = 0 ∨ (Rng s.n (start3 (upd C 1 (C 1 - 1)) (leftF D F c 1)) ∧ Rng s.n (removed D c (start3 (upd C 1 (C 1 - 1)) (leftF D F c 1) + 2).toNat)) := by
    rw [hI2.start3]
    have e : (Rows.all { R with frm := l ++ m }) = (R.white ++ (l ++ m ++ R.grey)) ++ R.black := by simp [Rows.all]
    refine rng_head (cyc_rot (by rw [← e]; exact hI2.cyc)) ((hI2.fit).perm ?_)
    rw [e]
    exact List.perm_append_comm
  have hsame : SameBut R D (inserted (removed D c) c (start3 (upd C 1 (C 1 - 1)) (leftF D F c 1))) := by
    have hin : ∀ x, x ∈ c :: (m ++ (R.grey ++ R.black) ++ (R.white ++ l)) → x ∈ R.all := fun x hx => by
      unfold Rows.all
      rw [hf]
      simp only [List.mem_cons, List.mem_append] at hx ⊢
      rcases hx with h | (h | h | h) | h | h <;> simp [h]
    refine (same_removed hcy hfit2 hin).trans ?_
    rw [hI2.start3]
    have e : (Rows.all { R with frm := l ++ m }) = (R.white ++ (l ++ m ++ R.grey)) ++ R.black := by simp [Rows.all]
    refine same_inserted (n := s.n) (cyc_rot (by rw [← e]; exact hI2.cyc)) (hfit.perm (List.Perm.cons c (by rw [e]; exact List.perm_append_comm))) (fun x hx => ?_)
    refine hin x ?_
    simp only [List.mem_cons, List.mem_append] at hx ⊢
    rcases hx with h | h | h | (h | h) | h <;> simp [h]
  have h1 := leave_1 s C F D w hL c hc hI.b1.1 hI.b1.2
  have h2 : ∀ w, Lies s (upd C 1 (C 1 - 1)) (leftF D F c 1) D w → _ := fun w h => remove_any s _ _ D w h c hc hr.1 hr.2
  have h3 : ∀ w, Lies s (upd C 1 (C 1 - 1)) (leftF D F c 1) (removed D c) w → _ := fun w h => start_3 s _ _ _ w h
  have h4 : ∀ w, Lies s (upd C 1 (C 1 - 1)) (leftF D F c 1) (removed D c) w → _ := fun w h => insert_any s _ _ _ w h c _ hc hx
  have h5 : ∀ w, Lies s (upd C 1 (C 1 - 1)) (leftF D F c 1) (inserted (removed D c) c (start3 (upd C 1 (C 1 - 1)) (leftF D F c 1))) w → _ := fun w h => enterLast_2 s _ _ _ w h c hI2.b2.1 hI2.b2.2
  have h6 : ∀ w, Lies s (upd (upd C 1 (C 1 - 1)) 2 (upd C 1 (C 1 - 1) 2 + 1)) (lastF (upd C 1 (C 1 - 1)) (leftF D F c 1) c 2) (inserted (removed D c) c (start3 (upd C 1 (C 1 - 1)) (leftF D F c 1))) w → ∃ D', RingD s (R.shade c) D' w ∧ SameBut R D D' := fun w h => ⟨_, ⟨_, _, h, by rw [hs]; exact hI3⟩, hsame⟩
  have H1 := Lib.hid h1
  have H2 := Lib.hid h2
  have H3 := Lib.hid h3
  have H4 := Lib.hid h4
  have H5 := Lib.hid h5
  have H6 := Lib.hid h6
  generalize upd C 1 (C 1 - 1) = C' at H1 H2 H3 H4 H5 H6
  generalize leftF D F c 1 = F' at H1 H2 H3 H4 H5 H6
  generalize start3 C' F' = x at H3 H4 H5 H6
  generalize C 1 = c1 at c0 g0
  clear hL hI hc hW hf he hI2 hfit hlen hs hI3 e0 hcy hfit2 hr hx h1 h2 h3 h4 h5 h6 hsame
  go_enter Try.func57, Try.ntmps57
  go_wp2_with fail
  refine H1.out.mono ?_
  rintro e w2 ⟨rfl, hL2, hq2⟩
  have HL2 := Lib.hid hL2
  have HQ2 := Lib.hid hq2
  clear H1 hL2 hq2 c0
  go_wp2_with fail
  refine (H2.out _ HL2.out).mono ?_
  rintro e w3 ⟨rfl, hL3, hq3⟩
  have HL3 := Lib.hid hL3
  have HQ3 := Lib.hid (HQ2.out.trans hq3)
  clear H2 hL3 hq3 HL2 HQ2
  go_wp2_with fail
  refine (H3.out _ HL3.out).mono ?_
  rintro e w4 ⟨rfl, rfl⟩
  clear H3
  go_wp2_with fail
  refine (H4.out _ HL3.out).mono ?_
  rintro e w5 ⟨rfl, hL5, hq5⟩
  have HL5 := Lib.hid hL5
  have HQ5 := Lib.hid (HQ3.out.trans hq5)
  clear H4 hL5 hq5 HL3 HQ3
  go_wp2_with fail
  refine (H5.out _ HL5.out).mono ?_
  rintro e w6 ⟨rfl, hL6, hq6⟩
  have HE := Lib.hid (And.intro (H6.out _ hL6) (HQ5.out.trans hq6))
  clear H5 H6 hL6 hq6 HL5 HQ5
  go_wp2_with fail
  go_ret
  exact ⟨rfl, HE.out⟩
theorem ringd_begin (s : Spot) (R : Rows) (w : World) (D : Nat → Int) (hR : RingD s R D w) (g1 : R.frm = []) (g2 : R.grey = []) :
    Calls Try.prog 36 #[.pointer (some ⟨s.r, 0, none⟩)] w fun e w' => e = .returned (.int .i64 0) ∧ (∃ D', RingD s R.begin D' w' ∧ D' = D) ∧ Turn s w w' := by
  obtain ⟨C, F, hL, hI⟩ := hR
  have e1 : C 1 = 0 := by rw [hI.c1, g1]; rfl
  have e2 : C 2 = 0 := by rw [hI.c2, g2]; rfl
  have c1 : w.cell? ⟨s.r, 6, none⟩ = some (.int .i64 (C 1)) := hL.count 1 (by decide)
  have c2 : w.cell? ⟨s.r, 7, none⟩ = some (.int .i64 (C 2)) := hL.count 2 (by decide)
  rw [e1] at c1
  rw [e2] at c2
  have h1 := recolour_31 s C F D w hL hI.b3.1 hI.b3.2 hI.b1.1 hI.b1.2
  have h3 : ∀ w, Lies s (upd (upd C 1 (C 1 + C 3)) 3 0) (lastF C F (F 3) 1) D w → ∃ D', RingD s R.begin D' w ∧ D' = D := fun w h => ⟨_, ⟨_, _, h, by rw [show lastF C F (F 3) 1 = upd F 1 (F 3) from if_pos e1]; exact hI.begin g1 g2⟩, rfl⟩
  have H1 := Lib.hid h1
  have H3 := Lib.hid h3
  clear hL hI g1 g2 e1 e2 h1 h3
  go_enter Try.func36, Try.ntmps36
  go_wp2_with fail
  refine H1.out.mono ?_
  rintro e w2 ⟨rfl, hL2, hq2⟩
  have HE := Lib.hid (And.intro (H3.out _ hL2) hq2)
  clear H1 H3 hL2 hq2 c1 c2
  go_wp2_with fail
  go_ret
  exact ⟨rfl, HE.out⟩
end Go.Proofs.Ythliahaopelooaa
/- Which configurations a heap can be made of: the program's question, and the document's. -/
namespace Go.Proofs.Ythliahaopelooaa
open Go.RowKit
/-- A row of sizes as it came in. -/
def Sizes (w : World) (a0 : Option Addr) (len : Nat) (v : Nat → Int) : Prop :=
  0 < len → ∃ b off, a0 = some ⟨b, off, none⟩ ∧ b < w.heap.size ∧ ∀ k, k < len → w.cell? ⟨b, off + k, none⟩ = some (.int .i64 (v k))
theorem Sizes.below {w w' : World} {a0 : Option Addr} {len : Nat} {v : Nat → Int} (h : Sizes w a0 len v) (hb : Below w.heap.size w w') : Sizes w' a0 len v := fun h0 => by
  obtain ⟨b, off, e, hl, hc⟩ := h h0
  exact ⟨b, off, e, Nat.lt_of_lt_of_le hl hb.size, fun k hk => (hb.cell (p := ⟨b, off + k, none⟩) hl).trans (hc k hk)⟩
def prev (v : Nat → Int) (k : Nat) : Int := if k = 0 then 0 else v (k - 1)
/-- The first k sizes rise, from 1 to 24. -/
def Rise (v : Nat → Int) (k : Nat) : Prop := ∀ i, i < k → prev v i < v i ∧ v i ≤ 24
theorem Rise.succ {v : Nat → Int} {k : Nat} (h : Rise v k) (hk : prev v k < v k ∧ v k ≤ 24) : Rise v (k + 1) := fun i hi => by
  by_cases e : i = k
  · rw [e]; exact hk
  · exact h i (by omega)
theorem Rise.pos {v : Nat → Int} {k : Nat} (h : Rise v k) : ∀ i, i < k → 1 ≤ v i ∧ v i ≤ 24 := by
  intro i
  induction i with
  | zero => intro hi; have := h 0 hi; simp only [prev, if_true] at this; omega
  | succ i ih => intro hi; have h1 := ih (by omega); have h2 := h (i + 1) hi; simp only [prev, Nat.add_sub_cancel, Nat.succ_ne_zero, if_false] at h2; omega
theorem prev_succ (v : Nat → Int) (k : Nat) : prev v (k + 1) = v k := by simp [prev]
set_option maxHeartbeats 1000000 in
set_option maxRecDepth 100000 in
theorem rising_in (a0 : Option Addr) (len cap : Nat) (v : Nat → Int) (w : World) (hs : Sizes w a0 len v) (h1 : 1 ≤ len) (h6 : len ≤ 6) (hr : Rise v len) :
    Calls Try.prog 59 #[.slice a0 len cap] w fun e w' => e = .returned (.bool true) ∧ w' = w := by
  obtain ⟨b, off, rfl, hl, hc⟩ := hs h1
  have HC := Lib.hid hc
  have HR := Lib.hid hr
  have g1 : decide (1 ≤ (len : Int)) = true := decide_eq_true (by omega)
  have g6 : decide ((len : Int) ≤ 6) = true := decide_eq_true (by omega)
  clear hc hr hs
  go_enter Try.func59, Try.ntmps59
  go_wp2_with fail
  go_loopw [3, 8] (fun s3 s8 wr => ∃ k : Nat, k ≤ len ∧ s8 = .int .i64 k ∧ s3 = .int .i64 (prev v k) ∧ wr = w) (fun _ s8 _ => len - (intOf s8).toNat)
  case atStart => exact ⟨0, Nat.zero_le _, rfl, rfl, rfl⟩
  case round =>
    obtain ⟨k, hk, rfl, rfl, rfl⟩ := hrel
    by_cases hlt : k < len
    · have hlt' : (k : Int) < (len : Int) := by omega
      have c := HC.out k hlt
      obtain ⟨r1, r2⟩ := HR.out k hlt
      have e1 : decide (v k ≤ prev v k) = false := decide_eq_false (by omega)
      have e2 : decide (24 < v k) = false := decide_eq_false (by omega)
      have HP := Lib.hid (prev_succ v k)
      generalize prev v k = pk at *
      generalize v k = vk at *
      go_wp2_with fail
      go_roundw
      case rel => exact ⟨k + 1, by omega, by go_num, by rw [HP.out], by first | rfl | trivial⟩
      case measure => simp [intOf]; omega
    · obtain rfl : k = len := by omega
      go_wp2_with fail
      go_ret
      exact ⟨rfl, rfl⟩
/-- A configuration that a heap can be made of. -/
structure RightP (words large : Int) (len : Nat) (v : Nat → Int) : Prop where
  w1 : 1 ≤ words
  w2 : words ≤ 65536
  l1 : 0 ≤ large
  l2 : large < words
  k1 : 1 ≤ len
  k2 : len ≤ 6
  rise : Rise v len
def RightTold (words large : Int) (len : Nat) (v : Nat → Int) (w : World) (e : Ending) (w' : World) : Prop := ∃ r, e = .returned (.bool r) ∧ (r = true → RightP words large len v) ∧ Below w.heap.size w w'
end Go.Proofs.Ythliahaopelooaa
/- The small questions that two runs of places are asked: each is read, nothing that was there turns. -/
namespace Go.Proofs.Ythliahaopelooaa.Ex
open Go.RowKit Go.Sort
theorem later {W W' : World} {a : Addr} {v : Value} (hb : Below W.heap.size W W') (h : W.cell? a = some v) : W'.cell? a = some v :=
  (hb.cell (World.block_lt_of_cell? _ _ h)).trans h
theorem on {B : Nat} {w W W' : World} (h : Below B w W) (hb : Below W.heap.size W W') (hB : B ≤ W.heap.size) : Below B w W' := h.trans (hb.mono hB)
theorem onB {w W W' : World} (h : Below w.heap.size w W) (hb : Below W.heap.size W W') : Below w.heap.size w W' := h.trans (hb.mono h.size)
set_option maxHeartbeats 1000000 in
set_option maxRecDepth 100000 in
/-- The question of Take: whether the run has so many places; how many stands in a box of the caller's. -/
theorem fits_any (a m n : Int) (B : Nat) (w : World) (hc : w.cell? ⟨B, 0, none⟩ = some (.int .i64 n)) :
    Calls Try.prog 93 #[.agg #[.int .i64 a, .int .i64 m], .pointer (some ⟨B, 0, none⟩)] w fun e w' => e = .returned (.bool (decide (n ≤ m))) ∧ Below w.heap.size w w' := by
  have hB : B < w.heap.size := World.block_lt_of_cell? _ _ hc
  have hne : B ≠ w.heap.size := by omega
  go_enter Try.func93, Try.ntmps93
  go_wp2
  go_ret
  exact ⟨by simp_all, (Below.refl _ w).alloc (Nat.le_refl _) _⟩
end Go.Proofs.Ythliahaopelooaa.Ex
/- Runs of places as a list: they rise, none touches the next; what is covered tells the list; taken from and given back to. Nothing of the program. -/
namespace Go.Proofs.Ythliahaopelooaa.Ex
/-- Runs, the first place and how many: each has a place, all lie from lo on and end by hi, none touches the next. -/
def Good (lo hi : Int) : List (Int × Int) → Prop
  | [] => True
  | x :: r => lo ≤ x.1 ∧ 1 ≤ x.2 ∧ x.1 + x.2 ≤ hi ∧ Good (x.1 + x.2 + 1) hi r
def Cov (L : List (Int × Int)) (i : Int) : Prop := ∃ x, x ∈ L ∧ x.1 ≤ i ∧ i < x.1 + x.2
def total : List (Int × Int) → Int
  | [] => 0
  | x :: r => x.2 + total r
theorem cov_nil (i : Int) : ¬ Cov [] i := by rintro ⟨x, h, _⟩; cases h
theorem cov_cons (x : Int × Int) (L : List (Int × Int)) (i : Int) : Cov (x :: L) i ↔ (x.1 ≤ i ∧ i < x.1 + x.2) ∨ Cov L i := by
  constructor
  · rintro ⟨y, hy, h⟩
    rcases List.mem_cons.1 hy with rfl | hy
    · exact Or.inl h
    · exact Or.inr ⟨y, hy, h⟩
  · rintro (h | ⟨y, hy, h⟩)
    · exact ⟨x, List.mem_cons_self, h⟩
    · exact ⟨y, List.mem_cons_of_mem _ hy, h⟩
theorem cov_append (A B : List (Int × Int)) (i : Int) : Cov (A ++ B) i ↔ Cov A i ∨ Cov B i := by
  induction A with
  | nil => simp [cov_nil]
  | cons x A ih => rw [List.cons_append, cov_cons, cov_cons, ih]; exact or_assoc.symm
theorem total_append (A B : List (Int × Int)) : total (A ++ B) = total A + total B := by
  induction A with
  | nil => simp [total]
  | cons x A ih => simp only [List.cons_append, total, ih]; omega
theorem good_mono {lo hi lo' hi' : Int} {L : List (Int × Int)} (h : Good lo hi L) (h1 : lo' ≤ lo) (h2 : hi ≤ hi') : Good lo' hi' L := by
  induction L generalizing lo lo' with
  | nil => trivial
  | cons x r ih => obtain ⟨a, b, c, d⟩ := h; exact ⟨by omega, b, by omega, ih d (Int.le_refl _)⟩
theorem good_mem {lo hi : Int} {L : List (Int × Int)} (h : Good lo hi L) {x : Int × Int} (hx : x ∈ L) : lo ≤ x.1 ∧ 1 ≤ x.2 ∧ x.1 + x.2 ≤ hi := by
  induction L generalizing lo with
  | nil => cases hx
  | cons y r ih =>
    obtain ⟨a, b, c, d⟩ := h
    rcases List.mem_cons.1 hx with rfl | hx
    · exact ⟨a, b, c⟩
    · have := ih d hx; exact ⟨by omega, this.2⟩
theorem good_cov {lo hi : Int} {L : List (Int × Int)} (h : Good lo hi L) {i : Int} (hi' : Cov L i) : lo ≤ i ∧ i < hi := by
  obtain ⟨x, hx, h1, h2⟩ := hi'
  have := good_mem h hx
  omega
theorem good_unique {lo hi : Int} : ∀ {L M : List (Int × Int)} {lo' : Int}, Good lo hi L → Good lo' hi M → (∀ i, Cov L i ↔ Cov M i) → L = M
  | [], [], _, _, _, _ => rfl
  | [], y :: M, _, _, h, e => absurd ((e y.1).2 ((cov_cons _ _ _).2 (Or.inl ⟨Int.le_refl _, by have := h.2.1; omega⟩))) (cov_nil _)
  | x :: L, [], _, h, _, e => absurd ((e x.1).1 ((cov_cons _ _ _).2 (Or.inl ⟨Int.le_refl _, by have := h.2.1; omega⟩))) (cov_nil _)
  | x :: L, y :: M, lo', hL, hM, e => by
    obtain ⟨a1, a2, a3, a4⟩ := hL
    obtain ⟨b1, b2, b3, b4⟩ := hM
    have e1 := (cov_cons _ _ _).1 ((e x.1).1 ((cov_cons _ _ _).2 (Or.inl ⟨Int.le_refl _, by omega⟩)))
    have e2 := (cov_cons _ _ _).1 ((e y.1).2 ((cov_cons _ _ _).2 (Or.inl ⟨Int.le_refl _, by omega⟩)))
    have f1 : y.1 ≤ x.1 := by
      rcases e1 with h | h
      · omega
      · have := good_cov b4 h; omega
    have f2 : x.1 ≤ y.1 := by
      rcases e2 with h | h
      · omega
      · have := good_cov a4 h; omega
    have f3 : ¬ x.2 < y.2 := fun hlt => by
      rcases (cov_cons _ _ _).1 ((e (x.1 + x.2)).2 ((cov_cons _ _ _).2 (Or.inl ⟨by omega, by omega⟩))) with h | h
      · omega
      · have := good_cov a4 h; omega
    have f4 : ¬ y.2 < x.2 := fun hlt => by
      rcases (cov_cons _ _ _).1 ((e (y.1 + y.2)).1 ((cov_cons _ _ _).2 (Or.inl ⟨by omega, by omega⟩))) with h | h
      · omega
      · have := good_cov b4 h; omega
    obtain ⟨x1, x2⟩ := x
    obtain ⟨y1, y2⟩ := y
    simp only at *
    obtain rfl : x1 = y1 := by omega
    obtain rfl : x2 = y2 := by omega
    congr 1
    refine good_unique a4 b4 fun i => ⟨fun h => ?_, fun h => ?_⟩
    · have := good_cov a4 h
      rcases (cov_cons _ _ _).1 ((e i).1 ((cov_cons _ _ _).2 (Or.inr h))) with h' | h'
      · simp only at h'; omega
      · exact h'
    · have := good_cov b4 h
      rcases (cov_cons _ _ _).1 ((e i).2 ((cov_cons _ _ _).2 (Or.inr h))) with h' | h'
      · simp only at h'; omega
      · exact h'
theorem good_mid {lo hi : Int} {A B : List (Int × Int)} {x : Int × Int} (h : Good lo hi (A ++ x :: B)) : Good lo (x.1 - 1) A ∧ lo ≤ x.1 ∧ 1 ≤ x.2 ∧ x.1 + x.2 ≤ hi ∧ Good (x.1 + x.2 + 1) hi B := by
  induction A generalizing lo with
  | nil => exact ⟨trivial, h⟩
  | cons y A ih =>
    obtain ⟨a, b, c, d⟩ := h
    obtain ⟨h1, h2, h3, h4, h5⟩ := ih d
    exact ⟨⟨a, b, by omega, h1⟩, by omega, h3, h4, h5⟩
theorem good_join {lo hi : Int} {A B : List (Int × Int)} {x : Int × Int} (h1 : Good lo (x.1 - 1) A) (h2 : lo ≤ x.1) (h3 : 1 ≤ x.2) (h4 : x.1 + x.2 ≤ hi) (h5 : Good (x.1 + x.2 + 1) hi B) : Good lo hi (A ++ x :: B) := by
  induction A generalizing lo with
  | nil => exact ⟨h2, h3, h4, h5⟩
  | cons y A ih =>
    obtain ⟨a, b, c, d⟩ := h1
    exact ⟨a, b, by omega, ih d (by omega)⟩
theorem good_app {lo mid hi : Int} {A B : List (Int × Int)} (h1 : Good lo mid A) (h2 : Good (mid + 1) hi B) (h3 : lo ≤ mid + 1) (h4 : mid ≤ hi) : Good lo hi (A ++ B) := by
  induction A generalizing lo with
  | nil => exact good_mono h2 h3 (Int.le_refl _)
  | cons y A ih =>
    obtain ⟨a, b, c, d⟩ := h1
    exact ⟨a, b, by omega, ih d (by omega)⟩
/-- A TAKE: of a run its first n places are taken. -/
theorem take_whole {lo hi : Int} {A B : List (Int × Int)} {x : Int × Int} (h : Good lo hi (A ++ x :: B)) :
    Good lo hi (A ++ B) ∧ (∀ i, Cov (A ++ B) i ↔ Cov (A ++ x :: B) i ∧ ¬ (x.1 ≤ i ∧ i < x.1 + x.2)) ∧ total (A ++ B) = total (A ++ x :: B) - x.2 := by
  obtain ⟨h1, h2, h3, h4, h5⟩ := good_mid h
  refine ⟨good_app h1 (good_mono h5 (by omega) (Int.le_refl _)) (by omega) (by omega), fun i => ?_, by simp only [total_append, total]; omega⟩
  rw [cov_append, cov_append, cov_cons]
  constructor
  · rintro (h | h)
    · have := good_cov h1 h; exact ⟨Or.inl h, by omega⟩
    · have := good_cov h5 h; exact ⟨Or.inr (Or.inr h), by omega⟩
  · rintro ⟨h | h | h, hn⟩
    · exact Or.inl h
    · exact absurd h hn
    · exact Or.inr h
theorem take_part {lo hi n : Int} {A B : List (Int × Int)} {x : Int × Int} (h : Good lo hi (A ++ x :: B)) (hn : 1 ≤ n) (hx : n < x.2) :
    Good lo hi (A ++ (x.1 + n, x.2 - n) :: B) ∧ (∀ i, Cov (A ++ (x.1 + n, x.2 - n) :: B) i ↔ Cov (A ++ x :: B) i ∧ ¬ (x.1 ≤ i ∧ i < x.1 + n)) ∧ total (A ++ (x.1 + n, x.2 - n) :: B) = total (A ++ x :: B) - n := by
  obtain ⟨h1, h2, h3, h4, h5⟩ := good_mid h
  refine ⟨good_join (good_mono h1 (Int.le_refl _) (by simp only; omega)) (by simp only; omega) (by simp only; omega) (by simp only; omega) (good_mono h5 (by simp only; omega) (Int.le_refl _)), fun i => ?_, by simp only [total_append, total]; omega⟩
  rw [cov_append, cov_append, cov_cons, cov_cons]
  simp only
  constructor
  · rintro (h | h | h)
    · have := good_cov h1 h; exact ⟨Or.inl h, by omega⟩
    · exact ⟨Or.inr (Or.inl (by omega)), by omega⟩
    · have := good_cov h5 h; exact ⟨Or.inr (Or.inr h), by omega⟩
  · rintro ⟨h | h | h, hn⟩
    · exact Or.inl h
    · exact Or.inr (Or.inl (by omega))
    · exact Or.inr (Or.inr h)
/-- Two runs that touch are one. -/
def joined (A : List (Int × Int)) (x y : Int × Int) (B : List (Int × Int)) : List (Int × Int) := if y.1 = x.1 + x.2 then A ++ (x.1, x.2 + y.2) :: B else A ++ x :: y :: B
/-- A GIVE, its first join: behind the run that is given. -/
def giveB (A : List (Int × Int)) (g : Int × Int) : List (Int × Int) → List (Int × Int)
  | [] => A ++ [g]
  | y :: B => joined A g y B
end Go.Proofs.Ythliahaopelooaa.Ex
/- The runs as they lie in one block, two words a run; what append, copy and clear make of such a block; slices.Delete of one run. -/
namespace Go.Proofs.Ythliahaopelooaa.Ex
open Go.RowKit Go.Sort
def flat : List (Int × Int) → List Value
  | [] => []
  | x :: r => .int .i64 x.1 :: .int .i64 x.2 :: flat r
theorem flat_length (L : List (Int × Int)) : (flat L).length = L.length * 2 := by
  induction L with
  | nil => rfl
  | cons x r ih => simp only [flat, List.length_cons, ih]; omega
theorem flat_append (A B : List (Int × Int)) : flat (A ++ B) = flat A ++ flat B := by
  induction A with
  | nil => rfl
  | cons x r ih => simp only [List.cons_append, flat, ih]
theorem flat_one (L : List (Int × Int)) : ∀ u ∈ flat L, u.oneCell' = true := by
  induction L with
  | nil => intro u hu; cases hu
  | cons x r ih =>
    intro u hu
    simp only [flat, List.mem_cons] at hu
    rcases hu with rfl | rfl | hu
    · rfl
    · rfl
    · exact ih u hu
theorem flat_get {L : List (Int × Int)} {k : Nat} {x : Int × Int} (h : L[k]? = some x) : (flat L)[k * 2]? = some (.int .i64 x.1) ∧ (flat L)[k * 2 + 1]? = some (.int .i64 x.2) := by
  induction L generalizing k with
  | nil => simp at h
  | cons y r ih =>
    cases k with
    | zero => simp only [List.getElem?_cons_zero, Option.some.injEq] at h; subst h; exact ⟨rfl, rfl⟩
    | succ k =>
      simp only [List.getElem?_cons_succ] at h
      have := ih h
      rw [show (k + 1) * 2 = k * 2 + 1 + 1 by omega, show k * 2 + 1 + 1 + 1 = (k * 2 + 1) + 1 + 1 by omega]
      simp only [flat, List.getElem?_cons_succ]
      exact this
/-- Runs in a block. -/
def Own (T : TypeId) (w : World) (g cap : Nat) (L : List (Int × Int)) : Prop := w.ownsRow 0 T 2 (.slice (some ⟨g, 0, none⟩) L.length cap) L.length (flat L)
section
variable {T : TypeId} {w w' : World} {g cap : Nat} {L : List (Int × Int)}
theorem Own.heap (h : Own T w g cap L) : ∃ S : List Value, w.heap[g]? = some (.cells (flat L ++ S).toArray T (0, 0)) ∧ (flat L ++ S).length = cap * 2 ∧ L.length ≤ cap ∧ cap ≤ maxLen := by
  rcases h.2 with ⟨h', _⟩ | ⟨g', cap', cur, h', _, hg, hn, hm, hs, htake⟩
  · simp at h'
  · simp only [Value.slice.injEq, Option.some.injEq, Addr.mk.injEq, and_true, true_and] at h'
    obtain ⟨rfl, rfl⟩ := h'
    refine ⟨cur.toList.drop (L.length * 2), ?_, ?_, hn, hm⟩
    · rw [← htake, List.take_append_drop]; exact hg
    · rw [← htake, List.take_append_drop]; simpa using hs
theorem Own.mk {S : List Value} (hg : w.heap[g]? = some (.cells (flat L ++ S).toArray T (0, 0))) (hs : (flat L ++ S).length = cap * 2) (hm : cap ≤ maxLen) : Own T w g cap L := by
  refine ⟨flat_length L, .inr ⟨g, cap, _, rfl, Nat.zero_le _, hg, ?_, hm, by simpa using hs, ?_⟩⟩
  · rw [List.length_append, flat_length] at hs; omega
  · rw [← flat_length]; simp
theorem Own.lt (h : Own T w g cap L) : g < w.heap.size := by
  obtain ⟨S, hg, _⟩ := h.heap
  rcases Nat.lt_or_ge g w.heap.size with h' | h'
  · exact h'
  · rw [Array.getElem?_eq_none h'] at hg; cases hg
theorem Own.move (h : Own T w g cap L) (e : w'.heap[g]? = w.heap[g]?) : Own T w' g cap L := by
  obtain ⟨S, hg, hs, _, hm⟩ := h.heap
  exact Own.mk (e.trans hg) hs hm
theorem Own.cell (h : Own T w g cap L) {k : Nat} {x : Int × Int} (hx : L[k]? = some x) : w.cell? ⟨g, k * 2, none⟩ = some (.int .i64 x.1) ∧ w.cell? ⟨g, k * 2 + 1, none⟩ = some (.int .i64 x.2) := by
  have hk : k < L.length := (List.getElem?_eq_some_iff.1 hx).1
  have := flat_get hx
  exact ⟨(World.ownsRow.cellAt h (k * 2) (by omega)).trans this.1, (World.ownsRow.cellAt h (k * 2 + 1) (by omega)).trans this.2⟩
theorem Own.frozen (h : Own T w g cap L) (j : Nat) : w.frozen? ⟨g, j, none⟩ = false := World.ownsRow.frozenAt h j
theorem flat_set {A B : List (Int × Int)} {x y : Int × Int} {k : Nat} (hk : A.length = k) : ((flat (A ++ x :: B)).set (k * 2) (.int .i64 y.1)).set (k * 2 + 1) (.int .i64 y.2) = flat (A ++ y :: B) := by
  rw [flat_append, flat_append, List.set_append, if_neg (by rw [flat_length]; omega), List.set_append, if_neg (by rw [flat_length]; omega), flat_length, hk, Nat.sub_self, Nat.add_sub_cancel_left]
  rfl
theorem Own.put {A B : List (Int × Int)} {x y : Int × Int} {k : Nat} (hk : A.length = k) (h : Own T w g cap (A ++ x :: B)) :
    Own T ((w.setCell ⟨g, k * 2, none⟩ (.int .i64 y.1)).setCell ⟨g, k * 2 + 1, none⟩ (.int .i64 y.2)) g cap (A ++ y :: B) := by
  have h1 := (World.ownsRow.stored h (k * 2) (.int .i64 y.1)).1
  have h2 := (World.ownsRow.stored h1 (k * 2 + 1) (.int .i64 y.2)).1
  rw [flat_set hk] at h2
  have e : (A ++ y :: B).length = (A ++ x :: B).length := by simp
  unfold Own
  rw [e]
  exact h2
end
section
variable {P : Program} (w : World)
/-- clear of one element of two words. -/
theorem run_clear_pair (t e ty : TypeId) (z : Value) (z0 z1 : Value) (ht : P.underlying t = some (.slice e)) (hv : ∀ w, (zeroValue e).run P w = .ok z w) (hz : z.cells = #[z0, z1]) (h0 : z0.oneCell' = true) (h1 : z1.oneCell' = true)
    (g o c : Nat) (cur : Array Value) (T : TypeId) (hg : w.heap[g]? = some (.cells cur T (0, 0))) (hfit : o + 2 ≤ cur.size) :
    (Builtin.clear_ #[t] ty #[.slice (some ⟨g, o, none⟩) 1 c]).run P w = .ok (.tuple #[]) (w.setRow g (cur.toList.take o ++ [z0, z1] ++ cur.toList.drop (o + 2)).toArray) := by
  have hzc : (Builtin.zeroCells z.cells 1).toList = [z0, z1] := by rw [hz]; simp [Builtin.zeroCells, List.range_succ]
  have hst := run_storeCells_at P g o T [z0, z1] 0 cur w hg (by simpa using hfit) (by intro v hv'; simp at hv'; rcases hv' with rfl | rfl <;> assumption)
  simp only [Nat.add_zero] at hst
  simp [Builtin.clear_, run_underlying ht, hv, hzc, hst]
theorem step_append_run {ops : Array Oper} {o : Oper} {a : Act} {K : Act → World → Prop} {Q : Exit → Act → World → Prop} {E : Prop}
    (hg : o.guard = none) (d x : Operand) (dT sT : TypeId) (hop : o.op = Op.call { callee := Callee.builtin Builtin.append, args := #[d, x], argTypes := #[dT, sT] })
    (v u : Value) (hd : a.eval d = v) (hx : a.eval x = u) {v' : Value} {w' : World} (hr : (Builtin.append_ #[dT, sT] o.type #[v, u]).run P w = .ok v' w') (hK : K (a.put o.dst v') w') :
    if Region.wanted o (yielded ops a.tmps) = true then Oper.wp P o a w K Q else E := by
  have hw : Region.wanted o (yielded ops a.tmps) = true := by simp [Region.wanted, hg]
  rw [if_pos hw]
  exact Lib.wp_append_run w d x dT sT hop v u hd hx _ _ hr hK
end
theorem Try.info_pair : (Try.prog.info? 143).map (fun i => (i.zero, i.size, i.bytes)) = some (some (.agg #[.int .i64 0, .int .i64 0]), 2, 16) := by kernel_rfl
set_option maxHeartbeats 4000000 in
set_option maxRecDepth 100000 in
/-- slices.Delete of one run: what stood behind it comes forward; in place. -/
theorem delete_any (w : World) (g cap i j n : Nat) (A B : List (Int × Int)) (x : Int × Int) (hO : Own 143 w g cap (A ++ x :: B)) (hA : A.length = i) (hj : i + 1 = j) (hB : B.length = n - j) (hjn : j ≤ n) :
    Calls Try.prog 100 #[.slice (some ⟨g, 0, none⟩) n cap, .int .i64 i, .int .i64 j] w fun e w' =>
      e = .returned (.slice (some ⟨g, 0, none⟩) (n - 1) cap) ∧ Own 143 w' g cap (A ++ B) ∧ w.grownBy w' (some g) := by
  obtain ⟨i0, hi0, hz0, hzs, hzb⟩ := info_parts Try.info_pair
  obtain ⟨S, hg, hs, hn, hm⟩ := hO.heap
  have hl : (A ++ x :: B).length = n := by simp; omega
  have fA := flat_length A
  have fB := flat_length B
  rw [hl] at hn
  unfold maxLen at hm
  rw [hA] at fA
  rw [hB] at fB
  -- the row behind the append, and behind clear
  have e0 : flat (A ++ x :: B) ++ S = flat A ++ ([.int .i64 x.1, .int .i64 x.2] ++ flat B ++ S) := by rw [flat_append]; simp [flat]
  have hsz : (flat A ++ ([Value.int .i64 x.1, .int .i64 x.2] ++ flat B ++ S)).length = cap * 2 := by rw [← e0]; exact hs
  rw [e0] at hg
  generalize hcur : (flat A ++ ([Value.int .i64 x.1, .int .i64 x.2] ++ flat B ++ S)).toArray = cur at hg
  have hcl : cur.toList = flat A ++ ([Value.int .i64 x.1, .int .i64 x.2] ++ flat B ++ S) := by rw [← hcur]
  have hcs : cur.size = cap * 2 := by rw [← hsz, ← hcur]; simp
  have hgd : w.drew.heap[g]? = some (.cells cur 143 (0, 0)) := hg
  obtain ⟨W1, hW1⟩ : ∃ W1, W1 = w.drew.setRow g (flat A ++ flat B ++ cur.toList.drop ((i + (n - j)) * 2)).toArray := ⟨_, rfl⟩
  have happ : ∀ (ad : Addr) c, (∀ k u, (flat B)[k]? = some u → w.drew.cell? (ad.add k) = some u) → ∀ ty, (Builtin.append_ #[144, 144] ty #[.slice (some ⟨g, 0, none⟩) i cap, .slice (some ad) (n - j) c]).run Try.prog w.drew =
      .ok (.slice (some ⟨g, 0, none⟩) (i + (n - j)) cap) W1 := fun ad c hsrc ty => by
    have h := run_append_room (P := Try.prog) w.drew 144 ty 143 i0 Try.underlying144 hi0 g i cap cur hgd ad (n - j) c (flat B) (by rw [hzs]; exact fB) hsrc (flat_one B) (by omega) (by rw [hzs, fB, hcs]; omega)
    rw [hzs, fB, show cur.toList.take (i * 2) = flat A by rw [hcl, ← fA]; simp, show i * 2 + (n - j) * 2 = (i + (n - j)) * 2 by omega] at h
    rw [hW1]
    exact h
  have hnew : ∀ k u, (flat B)[k]? = some u → w.drew.cell? ⟨g, j * 2 + k, none⟩ = some u := fun k u hk => by
    rw [show w.drew.cell? ⟨g, j * 2 + k, none⟩ = w.cell? ⟨g, j * 2 + k, none⟩ from rfl, cell_of_row w g _ cur _ _ hg, ← Array.getElem?_toList, hcl, List.getElem?_append_right (by omega), fA, show j * 2 + k - i * 2 = k + 1 + 1 by omega]
    have hkl := (List.getElem?_eq_some_iff.1 hk).1
    simp only [List.cons_append, List.nil_append, List.getElem?_cons_succ]
    rw [List.getElem?_append_left hkl]
    exact hk
  have g1 : W1.heap[g]? = some (.cells (flat A ++ flat B ++ cur.toList.drop ((i + (n - j)) * 2)).toArray 143 (0, 0)) := by rw [hW1]; exact setRow_heap w.drew g cur _ _ _ hgd
  have hl1 : (flat A ++ flat B ++ cur.toList.drop ((i + (n - j)) * 2)).length = cap * 2 := by simp [fA, fB, hcs]; omega
  have hclr : ∀ c ty, (Builtin.clear_ #[144] ty #[.slice (some ⟨g, (i + (n - j)) * 2, none⟩) 1 c]).run Try.prog W1 =
      .ok (.tuple #[]) (W1.setRow g (flat (A ++ B) ++ ([Value.int .i64 0, .int .i64 0] ++ cur.toList.drop ((i + (n - j)) * 2 + 2))).toArray) := fun c ty => by
    have h := run_clear_pair (P := Try.prog) W1 144 143 ty (.agg #[.int .i64 0, .int .i64 0]) (.int .i64 0) (.int .i64 0) Try.underlying144 Try.zeroValue143 rfl rfl rfl g ((i + (n - j)) * 2) c _ _ g1 (by simp only [List.size_toArray, hl1]; omega)
    rw [h]
    congr 3
    have hAB : (flat A ++ flat B).length = (i + (n - j)) * 2 := by rw [List.length_append, fA, fB]; omega
    rw [show (flat A ++ flat B ++ cur.toList.drop ((i + (n - j)) * 2)).toArray.toList = flat A ++ flat B ++ cur.toList.drop ((i + (n - j)) * 2) from rfl, List.take_append_of_le_length (by omega), List.take_of_length_le (by omega), List.drop_append, hAB, List.drop_drop, flat_append, List.append_assoc]
    rw [List.drop_eq_nil_of_le (by omega), List.nil_append, Nat.add_sub_cancel_left]
  obtain ⟨W2, hW2⟩ : ∃ W2, W2 = W1.setRow g (flat (A ++ B) ++ ([Value.int .i64 0, .int .i64 0] ++ cur.toList.drop ((i + (n - j)) * 2 + 2))).toArray := ⟨_, rfl⟩
  rw [← hW2] at hclr
  have hEnd : Own 143 W2 g cap (A ++ B) ∧ w.grownBy W2 (some g) := by
    refine ⟨Own.mk (by rw [hW2]; exact setRow_heap W1 g _ _ _ _ g1) ?_ (by unfold maxLen; omega), ?_⟩
    · simp [flat_append, fA, fB, hcs]; omega
    · rw [hW2, hW1]
      exact ⟨rfl, rfl, rfl, by simp [World.setRow], fun k _ hk => (setRow_other _ g k _ (fun e => hk (by simp [e]))).trans (setRow_other w.drew g k _ (fun e => hk (by simp [e])))⟩
  have hne : ¬ i = j := by omega
  have hin : i ≤ cap := by omega
  have hjc : j ≤ cap := by omega
  have hij : i ≤ j := by omega
  have hlt : i + (n - j) ≤ n := by omega
  have HE := Lib.hid hEnd
  have h1 : n - (i + (n - j)) = 1 := by omega
  obtain ⟨ad, had, hap⟩ : ∃ ad : Addr, Hid ((if cap = j then some (⟨g, 0, none⟩ : Addr) else some ⟨g, j * 2, none⟩) = some ad) ∧ Hid (∀ c ty, (Builtin.append_ #[144, 144] ty #[.slice (some ⟨g, 0, none⟩) i cap, .slice (some ad) (n - j) c]).run Try.prog w.drew = .ok (.slice (some ⟨g, 0, none⟩) (i + (n - j)) cap) W1) := by
    by_cases hc : cap = j
    · refine ⟨⟨g, 0, none⟩, (by simp [hc] : _ = _), fun c ty => happ _ c (fun k u hk => ?_) ty⟩
      have : flat B = [] := List.eq_nil_of_length_eq_zero (by omega)
      rw [this] at hk
      simp at hk
    · exact ⟨⟨g, j * 2, none⟩, (by simp [hc] : _ = _), fun c ty => happ _ c (fun k u hk => by rw [Addr.add_lit]; exact hnew k u hk) ty⟩
  have HC := Lib.hid hclr
  clear hEnd hclr happ hnew g1 hl1 hW2 hW1 hcur hcl hcs hgd hsz e0 hg hs hl fA fB hA hB hj hO
  go_enter Try.func100, Try.ntmps100
  go_wp2_with fail
  go_region_law (refine step_append_run _ rfl (.tmp 22) (.tmp 25) 144 144 rfl (.slice (some ⟨g, 0, none⟩) i cap) (.slice (some ad) (n - j) (cap - j)) (by simp [Act.eval, Act.put]) (by simp [Act.eval, Act.put, had.out]) (hap.out _ _) ?_)
  all_goals replace HC := HC.out
  all_goals go_wp2_with fail
  all_goals go_ret
  all_goals rw [show n - 1 = i + (n - j) by omega]
  all_goals first
    | exact ⟨rfl, HE.out⟩
    | (have e : cap = j := by assumption
       subst e
       exact ⟨rfl, HE.out⟩)
end Go.Proofs.Ythliahaopelooaa.Ex
/- slices.Insert of one run into a row of runs: at the end; in place; into a new row. -/
namespace Go.Proofs.Ythliahaopelooaa.Ex
open Go.RowKit Go.Sort
/-- What Insert leaves: the runs, in the old row or in a new one; no other block has turned. -/
def Laid (w : World) (g n : Nat) (M : List (Int × Int)) (e : Ending) (w' : World) : Prop :=
  ∃ g' cap', e = .returned (.slice (some ⟨g', 0, none⟩) (n + 1) cap') ∧ Own 143 w' g' cap' M ∧ w.grownBy w' (some g) ∧ (g' = g ∨ w.heap.size ≤ g')
end Go.Proofs.Ythliahaopelooaa.Ex
/- slices.IndexFunc and slices.ContainsFunc over runs: the first one at which a question holds. -/
namespace Go.Proofs.Ythliahaopelooaa.Ex
open Go.RowKit Go.Sort
/-- A question that is asked of the runs of a list: it answers, and leaves all as it was. -/
def Asks (G : Nat) (args : Value → Array Value) (f : Int × Int → Bool) (L : List (Int × Int)) (w : World) : Prop :=
  ∀ (W : World) (x : Int × Int), x ∈ L → Below w.heap.size w W → Calls Try.prog G (args (.agg #[.int .i64 x.1, .int .i64 x.2])) W fun e w' => e = .returned (.bool (f x)) ∧ Below W.heap.size W w'
set_option maxHeartbeats 4000000 in
set_option maxRecDepth 100000 in
theorem index_hit_post (w : World) (G : Nat) (c : Value) (f : Int × Int → Bool) (eg : ∀ args w, (callFunc G args).run Try.prog w = .ok (.enter G args) w)
    (g cap n i : Nat) (A B : List (Int × Int)) (x : Int × Int) (hO : Own 143 w g cap (A ++ x :: B)) (hf : Asks G (fun v => #[v, c]) f (A ++ x :: B) w) (hn : (A ++ x :: B).length = n) (hi : A.length = i) (hA : ∀ y, y ∈ A → f y = false) (hx : f x = true) :
    Calls Try.prog 92 #[.slice (some ⟨g, 0, none⟩) n cap, .func (.func G) #[] #[c]] w fun e w' => e = .returned (.int .i64 i) ∧ Below w.heap.size w w' := by
  have hbig : n ≤ 9223372036854775807 := by
    obtain ⟨S, _, _, h1, h2⟩ := hO.heap
    unfold maxLen at h2
    omega
  have hgl := hO.lt
  have hin : i < n := by rw [← hn, ← hi]; simp
  have hcell : ∀ k y, (A ++ x :: B)[k]? = some y → w.cell? ⟨g, k * 2, none⟩ = some (.int .i64 y.1) ∧ w.cell? ⟨g, k * 2 + 1, none⟩ = some (.int .i64 y.2) := fun k y h => hO.cell h
  have hlo : ∀ k, k < i → ∃ y, (A ++ x :: B)[k]? = some y ∧ y ∈ A ++ x :: B ∧ f y = false := fun k hk => by
    have h1 : (A ++ x :: B)[k]? = A[k]? := List.getElem?_append_left (by omega)
    have h2 : A[k]? = some A[k] := List.getElem?_eq_getElem (by omega)
    exact ⟨A[k], h1.trans h2, List.mem_append_left _ (List.getElem_mem _), hA _ (List.getElem_mem _)⟩
  have hat : (A ++ x :: B)[i]? = some x := by rw [List.getElem?_append_right (by omega), hi, Nat.sub_self]; rfl
  have hmem : x ∈ A ++ x :: B := by simp
  have HC := Lib.hid hcell
  have HL := Lib.hid hlo
  have HT := Lib.hid hat
  have HF := Lib.hid hf
  have HX := Lib.hid hx
  clear hcell hlo hat hf hx hA hi hn hO
  go_enter Try.func92, Try.ntmps92
  go_wp2_with fail
  go_loopw [5, 8] (fun _ s8 wr => ∃ k : Nat, k ≤ i ∧ s8 = .int .i64 k ∧ Below w.heap.size w wr) (fun _ s8 _ => n - (intOf s8).toNat)
  case atStart => exact ⟨0, Nat.zero_le _, rfl, Below.refl _ w⟩
  case round =>
    obtain ⟨k, hk, rfl, hB⟩ := hrel
    by_cases hlt : k < i
    · have hkn : k < n := by omega
      have hkn' : (k : Int) < (n : Int) := by omega
      obtain ⟨y, h1, h2, h3⟩ := HL.out k hlt
      obtain ⟨c0, c1⟩ := HC.out k y h1
      replace c0 := (hB.cell (p := ⟨g, k * 2, none⟩) hgl).trans c0
      replace c1 := (hB.cell (p := ⟨g, k * 2 + 1, none⟩) hgl).trans c1
      have hcall := HF.out wr y h2 hB
      rw [h3] at hcall
      have H := Lib.hid hcall
      clear hcall h1 h3
      go_wp2_with fail
      refine H.out.mono ?_
      rintro e w2 ⟨rfl, hb⟩
      replace hB := onB hB hb
      clear hb
      go_wp2_with fail
      go_roundw
      case rel => exact ⟨k + 1, by omega, by go_num, hB⟩
      case measure => simp [intOf]; omega
    · obtain rfl : k = i := by omega
      have hkn' : (k : Int) < (n : Int) := by omega
      obtain ⟨c0, c1⟩ := HC.out k x HT.out
      replace c0 := (hB.cell (p := ⟨g, k * 2, none⟩) hgl).trans c0
      replace c1 := (hB.cell (p := ⟨g, k * 2 + 1, none⟩) hgl).trans c1
      have hcall := HF.out wr x hmem hB
      rw [HX.out] at hcall
      have H := Lib.hid hcall
      clear hcall
      go_wp2_with fail
      refine H.out.mono ?_
      rintro e w2 ⟨rfl, hb⟩
      replace hB := onB hB hb
      clear hb
      go_wp2_with fail
      go_ret
      exact ⟨rfl, hB⟩
set_option maxHeartbeats 4000000 in
set_option maxRecDepth 100000 in
theorem index_miss_post (w : World) (G : Nat) (c : Value) (f : Int × Int → Bool) (eg : ∀ args w, (callFunc G args).run Try.prog w = .ok (.enter G args) w)
    (g cap n : Nat) (L : List (Int × Int)) (hO : Own 143 w g cap L) (hf : Asks G (fun v => #[v, c]) f L w) (hn : L.length = n) (hA : ∀ y, y ∈ L → f y = false) :
    Calls Try.prog 92 #[.slice (some ⟨g, 0, none⟩) n cap, .func (.func G) #[] #[c]] w fun e w' => e = .returned (.int .i64 (-1)) ∧ Below w.heap.size w w' := by
  have hbig : n ≤ 9223372036854775807 := by
    obtain ⟨S, _, _, h1, h2⟩ := hO.heap
    unfold maxLen at h2
    omega
  have hgl := hO.lt
  have hcell : ∀ k y, L[k]? = some y → w.cell? ⟨g, k * 2, none⟩ = some (.int .i64 y.1) ∧ w.cell? ⟨g, k * 2 + 1, none⟩ = some (.int .i64 y.2) := fun k y h => hO.cell h
  have hlo : ∀ k, k < n → ∃ y, L[k]? = some y ∧ y ∈ L ∧ f y = false := fun k hk => by
    have h2 : L[k]? = some L[k] := List.getElem?_eq_getElem (by omega)
    exact ⟨L[k], h2, List.getElem_mem _, hA _ (List.getElem_mem _)⟩
  have HC := Lib.hid hcell
  have HL := Lib.hid hlo
  have HF := Lib.hid hf
  clear hcell hlo hf hA hn hO
  go_enter Try.func92, Try.ntmps92
  go_wp2_with fail
  go_loopw [5, 8] (fun _ s8 wr => ∃ k : Nat, k ≤ n ∧ s8 = .int .i64 k ∧ Below w.heap.size w wr) (fun _ s8 _ => n - (intOf s8).toNat)
  case atStart => exact ⟨0, Nat.zero_le _, rfl, Below.refl _ w⟩
  case round =>
    obtain ⟨k, hk, rfl, hB⟩ := hrel
    by_cases hlt : k < n
    · have hkn : k < n := by omega
      have hkn' : (k : Int) < (n : Int) := by omega
      obtain ⟨y, h1, h2, h3⟩ := HL.out k hlt
      obtain ⟨c0, c1⟩ := HC.out k y h1
      replace c0 := (hB.cell (p := ⟨g, k * 2, none⟩) hgl).trans c0
      replace c1 := (hB.cell (p := ⟨g, k * 2 + 1, none⟩) hgl).trans c1
      have hcall := HF.out wr y h2 hB
      rw [h3] at hcall
      have H := Lib.hid hcall
      clear hcall h1 h3
      go_wp2_with fail
      refine H.out.mono ?_
      rintro e w2 ⟨rfl, hb⟩
      replace hB := onB hB hb
      clear hb
      go_wp2_with fail
      go_roundw
      case rel => exact ⟨k + 1, by omega, by go_num, hB⟩
      case measure => simp [intOf]; omega
    · obtain rfl : k = n := by omega
      go_wp2_with fail
      go_ret
      exact ⟨rfl, hB⟩
end Go.Proofs.Ythliahaopelooaa.Ex
/- Room as it lies; what a call leaves as it was; cut, join, indexFor. -/
namespace Go.Proofs.Ythliahaopelooaa.Ex
open Go.RowKit Go.Sort
/-- Nothing that was there has turned but in two blocks. -/
structure Apart (p d : Nat) (w w' : World) : Prop where
  os : w'.os = w.os
  tape : w'.tape = w.tape
  output : w'.output = w.output
  size : w.heap.size ≤ w'.heap.size
  block : ∀ k, k < w.heap.size → k ≠ p → k ≠ d → w'.heap[k]? = w.heap[k]?
theorem Apart.refl (p d : Nat) (w : World) : Apart p d w w := ⟨rfl, rfl, rfl, Nat.le_refl _, fun _ _ _ _ => rfl⟩
theorem Apart.trans {p d : Nat} {a b c : World} (h : Apart p d a b) (k : Apart p d b c) : Apart p d a c :=
  ⟨k.os.trans h.os, k.tape.trans h.tape, k.output.trans h.output, Nat.le_trans h.size k.size, fun i hi h1 h2 => (k.block i (Nat.lt_of_lt_of_le hi h.size) h1 h2).trans (h.block i hi h1 h2)⟩
/-- A second call, whose row is the first one's or a new one. -/
theorem Apart.step {p d d' : Nat} {a b c : World} (h : Apart p d a b) (k : Apart p d' b c) (hd : d' = d ∨ a.heap.size ≤ d') : Apart p d a c :=
  ⟨k.os.trans h.os, k.tape.trans h.tape, k.output.trans h.output, Nat.le_trans h.size k.size, fun i hi h1 h2 => (k.block i (Nat.lt_of_lt_of_le hi h.size) h1 (by omega)).trans (h.block i hi h1 h2)⟩
theorem Apart.of_below {p d : Nat} {w w' : World} (h : Below w.heap.size w w') : Apart p d w w' := ⟨h.os, h.tape, h.output, h.size, fun k hk _ _ => h.block k hk⟩
theorem Apart.of_grown {p d : Nat} {w w' : World} (h : w.grownBy w' (some d)) : Apart p d w w' := ⟨h.os, h.tape, h.output, h.size, fun k hk _ h2 => h.block k hk (by simpa using h2)⟩
theorem Apart.setP (p d i : Nat) (v : Value) (w : World) : Apart p d w (w.setCell ⟨p, i, none⟩ v) :=
  ⟨rfl, rfl, rfl, by simp [World.setCell], fun k _ h _ => Below.heap_setCell _ _ _ _ h⟩
theorem Apart.setD (p d i : Nat) (v : Value) (w : World) : Apart p d w (w.setCell ⟨d, i, none⟩ v) :=
  ⟨rfl, rfl, rfl, by simp [World.setCell], fun k _ _ h => Below.heap_setCell _ _ _ _ h⟩
theorem Apart.below {p d B : Nat} {w w' : World} (h : Apart p d w w') (hp : B ≤ p) (hd : B ≤ d) (hB : B ≤ w.heap.size) : Below B w w' :=
  ⟨h.os, h.tape, h.output, h.size, fun k hk => h.block k (by omega) (by omega) (by omega)⟩
theorem Apart.then {p d : Nat} {a b c : World} (h : Apart p d a b) (k : Below a.heap.size b c) : Apart p d a c :=
  ⟨k.os.trans h.os, k.tape.trans h.tape, k.output.trans h.output, Nat.le_trans h.size k.size, fun i hi h1 h2 => (k.block i hi).trans (h.block i hi h1 h2)⟩
theorem Apart.thenB {p d : Nat} {a b c : World} (h : Apart p d a b) (k : Below b.heap.size b c) : Apart p d a c := h.then (k.mono h.size)
theorem Apart.cell {p d : Nat} {w w' : World} (h : Apart p d w w') {a : Addr} {v : Value} (hc : w.cell? a = some v) (h1 : a.block ≠ p) (h2 : a.block ≠ d) : w'.cell? a = some v :=
  (World.cell?_of_block (w := w) (h.block a.block (World.block_lt_of_cell? _ _ hc) h1 h2)).trans hc
theorem Apart.frozen {p d : Nat} {w w' : World} (h : Apart p d w w') {a : Addr} (hl : a.block < w.heap.size) (h1 : a.block ≠ p) (h2 : a.block ≠ d) : w'.frozen? a = w.frozen? a :=
  World.frozen?_of_block (w := w) (h.block a.block hl h1 h2)
/-- ROOM AS IT LIES: the struct's block, the block of its runs, how many fit in, the whole, the runs. -/
structure At (w : World) (p g cap : Nat) (F N : Int) (L : List (Int × Int)) : Prop where
  first : w.cell? ⟨p, 0, none⟩ = some (.int .i64 F)
  places : w.cell? ⟨p, 1, none⟩ = some (.int .i64 N)
  free : w.cell? ⟨p, 2, none⟩ = some (.slice (some ⟨g, 0, none⟩) L.length cap)
  fz : w.frozen? ⟨p, 2, none⟩ = false
  own : Own 143 w g cap L
  ne : p ≠ g
  lp : p < w.heap.size
section
variable {w w' : World} {p g cap : Nat} {F N : Int} {L : List (Int × Int)}
theorem At.lg (h : At w p g cap F N L) : g < w.heap.size := h.own.lt
theorem At.move (h : At w p g cap F N L) (hp : w'.heap[p]? = w.heap[p]?) (hd : w'.heap[g]? = w.heap[g]?) (hs : w.heap.size ≤ w'.heap.size) : At w' p g cap F N L :=
  ⟨(World.cell?_of_block (w := w) hp).trans h.first, (World.cell?_of_block (w := w) hp).trans h.places, (World.cell?_of_block (w := w) hp).trans h.free, (World.frozen?_of_block (w := w) hp).trans h.fz,
    h.own.move hd, h.ne, Nat.lt_of_lt_of_le h.lp hs⟩
theorem At.below (h : At w p g cap F N L) {B : Nat} (hb : Below B w w') (hp : p < B) (hd : g < B) : At w' p g cap F N L := h.move (hb.block p hp) (hb.block g hd) hb.size
theorem At.later (h : At w p g cap F N L) (hb : Below w.heap.size w w') : At w' p g cap F N L := h.below hb h.lp h.lg
theorem At.apart (h : At w p g cap F N L) {p' d' : Nat} (hb : Apart p' d' w w') (h1 : p ≠ p') (h2 : p ≠ d') (h3 : g ≠ p') (h4 : g ≠ d') : At w' p g cap F N L :=
  h.move (hb.block p h.lp h1 h2) (hb.block g h.lg h3 h4) hb.size
/-- One run is written anew. -/
theorem At.put {A B : List (Int × Int)} {x : Int × Int} (h : At w p g cap F N (A ++ x :: B)) (k : Nat) (hk : A.length = k) (a m : Int) :
    At ((w.setCell ⟨g, k * 2, none⟩ (.int .i64 a)).setCell ⟨g, k * 2 + 1, none⟩ (.int .i64 m)) p g cap F N (A ++ (a, m) :: B) := by
  have hn : p ≠ g := h.ne
  have e0 : ∀ {j}, (⟨g, k * 2, none⟩ : Addr) ≠ ⟨p, j, none⟩ := fun e => hn (by simpa using (congrArg Addr.block e).symm)
  have e1 : ∀ {j}, (⟨g, k * 2 + 1, none⟩ : Addr) ≠ ⟨p, j, none⟩ := fun e => hn (by simpa using (congrArg Addr.block e).symm)
  refine ⟨?_, ?_, ?_, ?_, Own.put (y := (a, m)) hk h.own, h.ne, by simpa [World.setCell] using h.lp⟩
  · exact (World.cell?_setCell_other _ _ _ _ e1).trans ((World.cell?_setCell_other _ _ _ _ e0).trans h.first)
  · exact (World.cell?_setCell_other _ _ _ _ e1).trans ((World.cell?_setCell_other _ _ _ _ e0).trans h.places)
  · rw [show (A ++ (a, m) :: B).length = (A ++ x :: B).length by simp]
    exact (World.cell?_setCell_other _ _ _ _ e1).trans ((World.cell?_setCell_other _ _ _ _ e0).trans h.free)
  · exact (World.frozen?_setCell _ _ _ _).trans ((World.frozen?_setCell _ _ _ _).trans h.fz)
/-- The row's runs are other ones now, or there is a new row; the struct is told. -/
theorem At.told (h : At w p g cap F N L) {g' cap' : Nat} {M : List (Int × Int)} (hg : w.grownBy w' (some g)) (hO : Own 143 w' g' cap' M) (hat : g' = g ∨ w.heap.size ≤ g') (n : Nat) (hn : M.length = n) :
    At (w'.setCell ⟨p, 2, none⟩ (.slice (some ⟨g', 0, none⟩) n cap')) p g' cap' F N M := by
  have lp := h.lp
  have lg := h.lg
  have ne := h.ne
  have hne : p ≠ g' := by omega
  have hb : w'.heap[p]? = w.heap[p]? := hg.block p h.lp (by simp [h.ne])
  subst hn
  refine ⟨?_, ?_, ?_, ?_, ?_, hne, by have := hg.size; simp [World.setCell]; omega⟩
  · exact (World.cell?_setCell_other _ _ _ _ (by simp)).trans ((World.cell?_of_block (w := w) hb).trans h.first)
  · exact (World.cell?_setCell_other _ _ _ _ (by simp)).trans ((World.cell?_of_block (w := w) hb).trans h.places)
  · exact World.cell?_setCell_same _ _ _ ((World.cell?_of_block (w := w) hb).trans h.free)
  · exact (World.frozen?_setCell _ _ _ _).trans ((World.frozen?_of_block (w := w) hb).trans h.fz)
  · exact hO.move (Below.heap_setCell _ _ _ _ (Ne.symm hne))
theorem Apart.told (hg : w.grownBy w' (some g)) (v : Value) : Apart p g w (w'.setCell ⟨p, 2, none⟩ v) :=
  (Apart.of_grown hg).trans (Apart.setP p g 2 v w')
end
/-- Delete of the run at i, as it is called: i and i + 1. -/
theorem delete_call (w : World) (g cap i n : Nat) (A B : List (Int × Int)) (x : Int × Int) (hO : Own 143 w g cap (A ++ x :: B)) (hA : A.length = i) (hn : B.length + i + 1 = n) :
    Calls Try.prog 100 #[.slice (some ⟨g, 0, none⟩) n cap, .int .i64 i, .int .i64 ((i : Int) + 1)] w fun e w' =>
      e = .returned (.slice (some ⟨g, 0, none⟩) (n - 1) cap) ∧ Own 143 w' g cap (A ++ B) ∧ w.grownBy w' (some g) := by
  have h := delete_any w g cap i (i + 1) n A B x hO hA rfl (by omega) (by omega)
  rwa [show ((i + 1 : Nat) : Int) = (i : Int) + 1 from rfl] at h
set_option maxHeartbeats 4000000 in
set_option maxRecDepth 100000 in
/-- cut: a run loses its first places, all of them. -/
theorem cut_whole (p g cap i : Nat) (F N n : Int) (A B : List (Int × Int)) (a : Int) (w : World) (hA : At w p g cap F N (A ++ (a, n) :: B)) (hi : A.length = i) (hsmall : (A ++ (a, n) :: B).length ≤ 100000) :
    Calls Try.prog 94 #[.pointer (some ⟨p, 0, none⟩), .int .i64 i, .int .i64 n] w fun e w' => e = .returned (.tuple #[]) ∧ At w' p g cap F N (A ++ B) ∧ Apart p g w w' := by
  have lp := hA.lp
  have lg := hA.lg
  obtain ⟨m, hm⟩ : ∃ m, (A ++ (a, n) :: B).length = m := ⟨_, rfl⟩
  rw [hm] at hsmall
  have him : i < m := by rw [← hm, ← hi]; simp
  have hf := hA.free
  rw [hm] at hf
  obtain ⟨c0, c1⟩ := hA.own.cell (k := i) (x := (a, n)) (by rw [List.getElem?_append_right (by omega), hi, Nat.sub_self]; rfl)
  have hal := (Below.refl w.heap.size w).alloc (Nat.le_refl _) (.cells #[.int .i64 a, .int .i64 n] 143)
  have hA1 := hA.later hal
  have HA := Lib.hid hA1
  have HB := Lib.hid hal
  have H := Lib.hid (delete_call (w.alloc (.cells #[.int .i64 a, .int .i64 n] 143)) g cap i m A B (a, n) hA1.own hi (by rw [← hm, ← hi]; simp; omega))
  have hlen : (A ++ B).length = m - 1 := by rw [← hm]; simp
  have HL := Lib.hid hlen
  clear hA1 hal hlen hA hm hi
  go_enter Try.func94, Try.ntmps94
  go_wp2_with fail
  refine H.out.mono ?_
  rintro e w2 ⟨rfl, hO, hg⟩
  have hb : w2.heap[p]? = (w.alloc (.cells #[.int .i64 a, .int .i64 n] 143)).heap[p]? := hg.block p HA.out.lp (by simpa using HA.out.ne)
  have f2 := (World.cell?_of_block (w := w.alloc (.cells #[.int .i64 a, .int .i64 n] 143)) (a := ⟨p, 2, none⟩) hb).trans HA.out.free
  have z2 := (World.frozen?_of_block (w := w.alloc (.cells #[.int .i64 a, .int .i64 n] 143)) (a := ⟨p, 2, none⟩) hb).trans HA.out.fz
  have hE := At.told HA.out hg hO (Or.inl rfl) (m - 1) HL.out
  have hQ := (Apart.of_below HB.out).trans (Apart.told (p := p) hg (.slice (some ⟨g, 0, none⟩) (m - 1) cap))
  clear hb hg hO
  go_wp2_with fail
  refine bodyPost_ret (v := .tuple #[]) (by simp [results, Try.results94]) rfl ⟨rfl, hE, hQ⟩
set_option maxHeartbeats 4000000 in
set_option maxRecDepth 100000 in
/-- cut: a run loses its first places, not all. -/
theorem cut_part (p g cap i : Nat) (F N n : Int) (A B : List (Int × Int)) (a k : Int) (w : World) (hA : At w p g cap F N (A ++ (a, k) :: B)) (hi : A.length = i) (h0 : 1 ≤ n) (h1 : n < k) (h2 : 0 ≤ a) (h3 : a + k ≤ 1000000) :
    Calls Try.prog 94 #[.pointer (some ⟨p, 0, none⟩), .int .i64 i, .int .i64 n] w fun e w' => e = .returned (.tuple #[]) ∧ At w' p g cap F N (A ++ (a + n, k - n) :: B) ∧ Apart p g w w' := by
  have lp := hA.lp
  have lg := hA.lg
  have ne := hA.ne
  obtain ⟨m, hm⟩ : ∃ m, (A ++ (a, k) :: B).length = m := ⟨_, rfl⟩
  have him : i < m := by rw [← hm, ← hi]; simp
  have hf := hA.free
  rw [hm] at hf
  obtain ⟨c0, c1⟩ := hA.own.cell (k := i) (x := (a, k)) (by rw [List.getElem?_append_right (by omega), hi, Nat.sub_self]; rfl)
  have z0 := hA.own.frozen (i * 2)
  have z1 := hA.own.frozen (i * 2 + 1)
  have hal := (Below.refl w.heap.size w).alloc (Nat.le_refl _) (.cells #[.int .i64 a, .int .i64 k] 143)
  have hkn : (k == n) = false := by simp; omega
  have HA := Lib.hid hA
  have HB := Lib.hid hal
  have HI := Lib.hid hi
  have hw1 : IntKind.i64.wrap (a + n) = a + n := by rw [IntKind.wrap_i64]; omega
  have hw2 : IntKind.i64.wrap (k - n) = k - n := by rw [IntKind.wrap_i64]; omega
  clear hal hA hm hi
  go_enter Try.func94, Try.ntmps94
  go_wp2_with fail
  go_region
  have hE := HA.out.put i HI.out (a + n) (k - n)
  have hB9 : Below (((w.setCell ⟨g, i * 2, none⟩ (.int .i64 (a + n))).setCell ⟨g, i * 2 + 1, none⟩ (.int .i64 (k - n)))).heap.size ((w.setCell ⟨g, i * 2, none⟩ (.int .i64 (a + n))).setCell ⟨g, i * 2 + 1, none⟩ (.int .i64 (k - n)))
      (((w.setCell ⟨g, i * 2, none⟩ (.int .i64 (a + n))).setCell ⟨g, i * 2 + 1, none⟩ (.int .i64 (k - n))).alloc (.cells #[.int .i64 a, .int .i64 k] 143)).drew := ((Below.refl _ _).alloc (Nat.le_refl _) _).drew
  have hQ := ((Apart.setD p g (i * 2) (.int .i64 (a + n)) w).trans (Apart.setD p g (i * 2 + 1) (.int .i64 (k - n)) _)).thenB hB9
  replace hE := hE.later hB9
  clear hB9
  go_wp2_with fail
  go_end0
  exact ⟨rfl, hE, hQ⟩
end Go.Proofs.Ythliahaopelooaa.Ex
/- join: two neighbours that touch become one. -/
namespace Go.Proofs.Ythliahaopelooaa.Ex
open Go.RowKit Go.Sort
end Go.Proofs.Ythliahaopelooaa.Ex
/- What a call answers of the runs, and what they are behind it: in numbers alone. -/
namespace Go.Proofs.Ythliahaopelooaa.Ex
/-- The first run that has n places. -/
def spot (n : Int) : List (Int × Int) → Option Int
  | [] => none
  | x :: r => if n ≤ x.2 then some x.1 else spot n r
def tErr (n : Int) (L : List (Int × Int)) : Int := if n < 1 then 1 else if (spot n L).isNone then 2 else 0
def tAt (n : Int) (L : List (Int × Int)) : Int := if n < 1 then 0 else (spot n L).getD 0
def within (F N a n : Int) : Prop := 1 ≤ n ∧ F ≤ a ∧ a + n ≤ F + N
instance (F N a n : Int) : Decidable (within F N a n) := by unfold within; infer_instance
def hits (a n : Int) (L : List (Int × Int)) : Bool := L.any fun x => decide (a < x.1 + x.2) && decide (x.1 < a + n)
def gErr (F N a n : Int) (L : List (Int × Int)) : Int := if within F N a n then (if hits a n L then 5 else 0) else 1
/-- What a take leaves. -/
def Took (lo hi n : Int) (L M : List (Int × Int)) : Prop :=
  Good lo hi M ∧ (∀ i, Cov M i ↔ Cov L i ∧ (tErr n L = 0 → ¬ (tAt n L ≤ i ∧ i < tAt n L + n))) ∧ total M = total L - (if tErr n L = 0 then n else 0)
/-- What a give leaves. -/
def Given (lo hi F N a n : Int) (L M : List (Int × Int)) : Prop :=
  Good lo hi M ∧ (∀ i, Cov M i ↔ Cov L i ∨ (gErr F N a n L = 0 ∧ a ≤ i ∧ i < a + n)) ∧ total M = total L + (if gErr F N a n L = 0 then n else 0)
theorem spot_none {n : Int} {L : List (Int × Int)} (h : ∀ x, x ∈ L → x.2 < n) : spot n L = none := by
  induction L with
  | nil => rfl
  | cons y L ih =>
    have := h y List.mem_cons_self
    rw [spot, if_neg (by omega)]
    exact ih fun x hx => h x (List.mem_cons_of_mem _ hx)
theorem spot_some {n : Int} {A B : List (Int × Int)} {a k : Int} (h : ∀ x, x ∈ A → x.2 < n) (hk : n ≤ k) : spot n (A ++ (a, k) :: B) = some a := by
  induction A with
  | nil => simp [spot, hk]
  | cons y A ih =>
    have := h y List.mem_cons_self
    rw [List.cons_append, spot, if_neg (by omega)]
    exact ih fun x hx => h x (List.mem_cons_of_mem _ hx)
/-- Either none has so many, or there is a first one. -/
theorem spot_cases (n : Int) (L : List (Int × Int)) : (∀ x, x ∈ L → x.2 < n) ∨ ∃ A a k B, L = A ++ (a, k) :: B ∧ (∀ x, x ∈ A → x.2 < n) ∧ n ≤ k := by
  induction L with
  | nil => exact Or.inl fun x hx => by cases hx
  | cons y L ih =>
    by_cases hy : n ≤ y.2
    · exact Or.inr ⟨[], y.1, y.2, L, rfl, (fun x hx => by cases hx), hy⟩
    · rcases ih with h | ⟨A, a, k, B, rfl, h, hk⟩
      · refine Or.inl fun x hx => ?_
        rcases List.mem_cons.1 hx with rfl | hx
        · omega
        · exact h x hx
      · refine Or.inr ⟨y :: A, a, k, B, rfl, fun x hx => ?_, hk⟩
        rcases List.mem_cons.1 hx with rfl | hx
        · omega
        · exact h x hx
theorem tErr_le {n : Int} {L : List (Int × Int)} (h : n < 1) : tErr n L = 1 ∧ tAt n L = 0 := by simp [tErr, tAt, h]
theorem took_same {lo hi n : Int} {L : List (Int × Int)} (h : Good lo hi L) (he : tErr n L ≠ 0) : Took lo hi n L L :=
  ⟨h, fun i => by simp [he], by simp [he]⟩
def cutAt (A : List (Int × Int)) (a k : Int) (B : List (Int × Int)) (n : Int) : List (Int × Int) := if k = n then A ++ B else A ++ (a + n, k - n) :: B
theorem took_cut {lo hi n a k : Int} {A B : List (Int × Int)} (h : Good lo hi (A ++ (a, k) :: B)) (hn : 1 ≤ n) (hA : ∀ x, x ∈ A → x.2 < n) (hk : n ≤ k) :
    tErr n (A ++ (a, k) :: B) = 0 ∧ tAt n (A ++ (a, k) :: B) = a ∧ Took lo hi n (A ++ (a, k) :: B) (cutAt A a k B n) := by
  have hs := spot_some (B := B) (a := a) hA hk
  have e1 : tErr n (A ++ (a, k) :: B) = 0 := by rw [tErr, if_neg (by omega), hs]; rfl
  have e2 : tAt n (A ++ (a, k) :: B) = a := by rw [tAt, if_neg (by omega), hs]; rfl
  refine ⟨e1, e2, ?_⟩
  unfold Took cutAt
  rw [e1, e2]
  by_cases hkn : k = n
  · subst hkn
    obtain ⟨h1, h2, h3⟩ := take_whole h
    rw [if_pos rfl]
    exact ⟨h1, fun i => by simpa using h2 i, by simpa using h3⟩
  · obtain ⟨h1, h2, h3⟩ := take_part (n := n) h hn (by simp only; omega)
    rw [if_neg hkn]
    exact ⟨h1, fun i => by simpa using h2 i, by simpa using h3⟩
theorem good_length {lo hi : Int} {L : List (Int × Int)} (h : Good lo hi L) (hl : lo ≤ hi) : (L.length : Int) ≤ hi - lo := by
  induction L generalizing lo with
  | nil => simp; omega
  | cons x r ih =>
    obtain ⟨a, b, c, d⟩ := h
    by_cases e : x.1 + x.2 + 1 ≤ hi
    · have := ih d e
      simp; omega
    · cases r with
      | nil => simp; omega
      | cons y r => obtain ⟨a', b', c', _⟩ := d; omega
theorem good_start {F N : Int} (h : 0 < N) : Good F (F + N) [(F, N)] := ⟨Int.le_refl _, by simp only; omega, Int.le_refl _, trivial⟩
end Go.Proofs.Ythliahaopelooaa.Ex
/- Take: refused, full, or the first run that has so many places loses its first ones. -/
namespace Go.Proofs.Ythliahaopelooaa.Ex
open Go.RowKit Go.Sort
theorem asks_fits {w : World} {B : Nat} {n : Int} (hc : w.cell? ⟨B, 0, none⟩ = some (.int .i64 n)) (L : List (Int × Int)) :
    Asks 93 (fun v => #[v, .pointer (some ⟨B, 0, none⟩)]) (fun x => decide (n ≤ x.2)) L w := fun W x _ hb => by
  have hB : B < w.heap.size := World.block_lt_of_cell? _ _ hc
  exact fits_any x.1 x.2 n B W ((hb.cell (p := ⟨B, 0, none⟩) hB).trans hc)
theorem enters_fits : ∀ args w, (callFunc 93 args).run Try.prog w = .ok (.enter 93 args) w := enters_of Try.func93 (by kernel_rfl) rfl
set_option maxHeartbeats 1000000 in
set_option maxRecDepth 100000 in
theorem take_range (p : Addr) (n : Int) (w : World) (hn : n < 1) :
    Calls Try.prog 76 #[.pointer (some p), .int .i64 n] w fun e w' => e = .returned (.tuple #[.int .i64 0, .int .i64 1]) ∧ Below w.heap.size w w' := by
  have hb := (Below.refl w.heap.size w).alloc (Nat.le_refl _) (.cells #[.int .i64 n] 3)
  go_enter Try.func76, Try.ntmps76
  go_wp2_with fail
  go_ret2
  exact ⟨rfl, hb⟩
set_option maxHeartbeats 4000000 in
set_option maxRecDepth 100000 in
theorem take_full (p g cap : Nat) (F N n : Int) (L : List (Int × Int)) (w : World) (hA : At w p g cap F N L) (hn : 1 ≤ n) (hL : ∀ x, x ∈ L → x.2 < n) :
    Calls Try.prog 76 #[.pointer (some ⟨p, 0, none⟩), .int .i64 n] w fun e w' => e = .returned (.tuple #[.int .i64 0, .int .i64 2]) ∧ Below w.heap.size w w' := by
  have hb := (Below.refl w.heap.size w).alloc (Nat.le_refl _) (.cells #[.int .i64 n] 3)
  have H := Lib.hid (index_miss_post (w.alloc (.cells #[.int .i64 n] 3)) 93 (.pointer (some ⟨w.heap.size, 0, none⟩)) (fun x => decide (n ≤ x.2)) enters_fits g cap L.length L (hA.later hb).own (asks_fits (by simp [go_sem]) L) rfl (fun y hy => by have := hL y hy; simp; omega))
  have lp := hA.lp
  have hf := hA.free
  generalize L.length = m at H hf
  have HB := Lib.hid hb
  clear hA hL hb
  go_enter Try.func76, Try.ntmps76
  go_wp2_with fail
  refine H.out.mono ?_
  rintro e w2 ⟨rfl, hb2⟩
  have hE := onB HB.out hb2
  clear hb2
  go_wp2_with fail
  go_ret2
  exact ⟨rfl, hE⟩
theorem cut_any (p g cap i : Nat) (F N n : Int) (A B : List (Int × Int)) (a k : Int) (w : World) (hA : At w p g cap F N (A ++ (a, k) :: B)) (hi : A.length = i) (hsmall : (A ++ (a, k) :: B).length ≤ 100000) (h0 : 1 ≤ n) (h1 : n ≤ k) (h2 : 0 ≤ a) (h3 : a + k ≤ 1000000) :
    Calls Try.prog 94 #[.pointer (some ⟨p, 0, none⟩), .int .i64 i, .int .i64 n] w fun e w' => e = .returned (.tuple #[]) ∧ At w' p g cap F N (cutAt A a k B n) ∧ Apart p g w w' := by
  unfold cutAt
  by_cases e : k = n
  · subst e
    rw [if_pos rfl]
    exact cut_whole p g cap i F N k A B a w hA hi hsmall
  · rw [if_neg e]
    exact cut_part p g cap i F N n A B a k w hA hi h0 (by omega) h2 h3
set_option maxHeartbeats 4000000 in
set_option maxRecDepth 100000 in
theorem take_hit (p g cap : Nat) (F N n : Int) (A B : List (Int × Int)) (a k : Int) (w : World) (hA : At w p g cap F N (A ++ (a, k) :: B)) (hn : 1 ≤ n) (hL : ∀ x, x ∈ A → x.2 < n) (hk : n ≤ k) (hsmall : (A ++ (a, k) :: B).length ≤ 100000) (h2 : 0 ≤ a) (h3 : a + k ≤ 1000000) :
    Calls Try.prog 76 #[.pointer (some ⟨p, 0, none⟩), .int .i64 n] w fun e w' => e = .returned (.tuple #[.int .i64 a, .int .i64 0]) ∧ At w' p g cap F N (cutAt A a k B n) ∧ Apart p g w w' := by
  have hb := (Below.refl w.heap.size w).alloc (Nat.le_refl _) (.cells #[.int .i64 n] 3)
  obtain ⟨i, hi⟩ : ∃ i, A.length = i := ⟨_, rfl⟩
  have H := Lib.hid (index_hit_post (w.alloc (.cells #[.int .i64 n] 3)) 93 (.pointer (some ⟨w.heap.size, 0, none⟩)) (fun x => decide (n ≤ x.2)) enters_fits g cap (A ++ (a, k) :: B).length i A B (a, k) (hA.later hb).own (asks_fits (by simp [go_sem]) _) rfl hi (fun y hy => by have := hL y hy; simp; omega) (by simp; omega))
  have lp := hA.lp
  have hf := hA.free
  obtain ⟨m, hm⟩ : ∃ m, (A ++ (a, k) :: B).length = m := ⟨_, rfl⟩
  have him : i < m := by rw [← hm, ← hi]; simp
  rw [hm] at H hf
  have HB := Lib.hid hb
  have HA := Lib.hid (hA.later hb)
  have HI := Lib.hid hi
  have HS := Lib.hid hsmall
  have HM := Lib.hid hm
  have cn : (w.alloc (.cells #[.int .i64 n] 3)).cell? ⟨w.heap.size, 0, none⟩ = some (.int .i64 n) := by simp [go_sem]
  have HN := Lib.hid cn
  have hmb : m ≤ 100000 := by rw [← hm]; exact hsmall
  clear hA hL hb hi hm hsmall cn
  go_enter Try.func76, Try.ntmps76
  go_wp2_with fail
  refine H.out.mono ?_
  rintro e w2 ⟨rfl, hb2⟩
  have hA2 := HA.out.later hb2
  have hE := onB HB.out hb2
  have cn := later hb2 HN.out
  have hf2 := hA2.free
  rw [HM.out] at hf2
  obtain ⟨c0, c1⟩ := hA2.own.cell (k := i) (x := (a, k)) (by rw [List.getElem?_append_right (by have := HI.out; omega), HI.out, Nat.sub_self]; rfl)
  have HA2 := Lib.hid hA2
  clear hb2 hA2
  go_wp2_with fail
  refine (cut_any p g cap i F N n A B a k w2 HA2.out HI.out HS.out hn hk h2 h3).mono ?_
  rintro e w3 ⟨rfl, hA3, hq⟩
  have hQ := (Apart.of_below hE).trans hq
  clear hq hE cn hf2 c0 c1
  go_wp2_with fail
  go_ret2
  exact ⟨rfl, hA3, hQ⟩
end Go.Proofs.Ythliahaopelooaa.Ex
/- New, isBound; indexFor: where in the list a run goes. -/
namespace Go.Proofs.Ythliahaopelooaa.Ex
open Go.RowKit Go.Sort
set_option maxHeartbeats 1000000 in
set_option maxRecDepth 100000 in
theorem isBound_any (n : Int) (w : World) :
    Calls Try.prog 85 #[.int .i64 n] w fun e w' => e = .returned (.bool (decide (0 ≤ n ∧ n ≤ 65536))) ∧ w' = w := by
  by_cases h : 0 ≤ n
  · go_enter Try.func85, Try.ntmps85
    go_wp2
    go_ret
    exact ⟨by simp [h], rfl⟩
  · go_enter Try.func85, Try.ntmps85
    go_wp2
    go_ret
    have : ¬ 0 ≤ n := by omega
    exact ⟨by simp [this], rfl⟩
end Go.Proofs.Ythliahaopelooaa.Ex
/- Give: refused, twice, or free again. -/
namespace Go.Proofs.Ythliahaopelooaa.Ex
open Go.RowKit Go.Sort
/-- What a give leaves: the runs, joined behind and ahead; in the old row or in a new one. -/
def Gave (w w' : World) (p g : Nat) (F N : Int) (A : List (Int × Int)) (a n : Int) (B : List (Int × Int)) : Prop :=
  ∃ g' cap' m B' M, giveB A (a, n) B = A ++ (a, m) :: B' ∧ At w' p g' cap' F N M ∧ Apart p g w w' ∧ (g' = g ∨ w.heap.size ≤ g') ∧
    ((A = [] ∧ M = (a, m) :: B') ∨ ∃ A' z, A = A' ++ [z] ∧ M = joined A' z (a, m) B')
/-- What Insert and the struct's store leave. -/
structure Put (W3 W4 : World) (p g : Nat) (F N : Int) (M : List (Int × Int)) (g' cap' n : Nat) : Prop where
  cell : ∃ L cap, W4.cell? ⟨p, 2, none⟩ = some (.slice (some ⟨g, 0, none⟩) L cap)
  frz : W4.frozen? ⟨p, 2, none⟩ = false
  lies : At (W4.setCell ⟨p, 2, none⟩ (.slice (some ⟨g', 0, none⟩) n cap')) p g' cap' F N M
  apart : Apart p g W3 (W4.setCell ⟨p, 2, none⟩ (.slice (some ⟨g', 0, none⟩) n cap'))
  new : g' = g ∨ W3.heap.size ≤ g'
end Go.Proofs.Ythliahaopelooaa.Ex
