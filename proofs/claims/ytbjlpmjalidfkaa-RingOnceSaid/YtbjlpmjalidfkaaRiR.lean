/- The document's ring: Shade, Next, Done. -/
import Derived.Test.YtbjlpmjalidfkaaRiQ
namespace Go.Proofs.Ytbjlpmjalidfkaa
open Go.RowKit Go.Shelf

theorem own_nil (w : World) : (w.alloc (.cells #[] 3)).ownsRow w.heap.size 3 1 (.slice (some ⟨w.heap.size, 0, none⟩) 0 0) 0 (([] : List Int).map (.int .i64)) := World.ownsRow_made w #[] 0 (Nat.le_refl _) (Nat.zero_le _) rfl
theorem src_one (w : World) (c : Int) : Src (w.alloc (.cells #[.int .i64 c] 3)) (.slice (some ⟨w.heap.size, 0, none⟩) 1 1) [c] :=
  ⟨_, 1, rfl, fun _ => ⟨w.heap.size, 0, rfl, fun i y hy => by
    cases i with
    | zero => cases hy; simp [go_sem]
    | succ i => simp at hy⟩⟩
theorem own_one (w : World) (c : Int) (base : Nat) (hb : base ≤ w.heap.size) : (w.alloc (.cells #[.int .i64 c] 3)).ownsRow base 3 1 (.slice (some ⟨w.heap.size, 0, none⟩) 1 1) 1 ([c].map (.int .i64)) :=
  World.ownsRow_lit (base := base) (e := 3) (size := 1) w #[.int .i64 c] 1 hb (by decide) rfl

/-- The act's box and the answer's place are laid. -/
def twoBoxes (w : World) (K N : Int) : World := (w.alloc (.cells #[.int .i64 K, .int .i64 N] 32)).alloc (.cells #[.int .i64 0, .bool false, .int .i64 0] 34)
theorem two_below (w : World) (K N : Int) : Below w.heap.size w (twoBoxes w K N) := ((Below.refl _ _).alloc (Nat.le_refl _) _).alloc (by simp) _
theorem two_size (w : World) (K N : Int) : (twoBoxes w K N).heap.size = w.heap.size + 2 := by simp [twoBoxes]
theorem two_act (w : World) (K N : Int) : ActAt (twoBoxes w K N) w.heap.size K N := by unfold twoBoxes; exact ⟨by simp [go_sem], by simp [go_sem]⟩
theorem two_st {w : World} {q n : Nat} {R : Rows} {v : Nat → Value} (hO : Op w q n R v) (K N : Int) : St w q n (w.heap.size + 1) v (twoBoxes w K N) := by
  have hb := two_below w K N
  refine ⟨One.of_below hb, fun k hk => later' hb (hO.cell k hk), later' hb hO.words, fun j => (hb.frozen hO.lq).trans (hO.fz j), ?_, ?_, ?_, fun j => ?_, hO.lq, Nat.le_succ _⟩
  all_goals unfold twoBoxes
  all_goals simp [go_sem]

set_option maxHeartbeats 4000000 in
theorem rnext_any (w : World) (q n : Nat) (R : Rows) (hR : Ref w q n R) (N : Int) (hs : R.all.length ≤ 1000) :
    Calls Try.prog 49 #[.pointer (some ⟨q, 0, none⟩), .agg #[.int .i64 3, .int .i64 N]] w fun e w' => e = .returned (told (R.grey.getLast?.getD 0) (!R.grey.isEmpty) 0) ∧ Ref w' q n R ∧ One q w w' := by
  obtain ⟨v, hO⟩ := hR.op
  obtain ⟨a2, s2, e2, hc2⟩ := hO.row 2 (by decide)
  have c2 : w.cell? ⟨q, 2, none⟩ = some (v 2) := hO.cell 2 (by decide)
  rw [e2] at c2
  change w.cell? ⟨q, 2, none⟩ = some (.slice a2 R.grey.length (R.grey.length + s2)) at c2
  replace hc2 : 0 < R.grey.length → _ := hc2
  have lq := hO.lq
  have hl : R.grey.length ≤ 1000 := (all_le hs).2.2.1
  have hq1 : q ≠ w.heap.size := by omega
  have hq2 : q ≠ w.heap.size + 1 := by omega
  by_cases g : R.grey = []
  · have HE := Lib.hid (two_below w 3 N |> fun hb => And.intro (hR.later hb) (One.of_below (q := q) hb))
    rw [g] at c2 ⊢
    clear hO hR hc2 e2
    go_enter Try.func49, Try.ntmps49
    go_wp2_with fail
    unfold twoBoxes at HE
    exact bodyPost_ret (v := told 0 false 0) (by simp [told, results, Try.results49, go_sem]) rfl ⟨rfl, HE.out⟩
  · obtain ⟨l, c, hlc⟩ : ∃ l c, R.grey = l ++ [c] := ⟨_, _, (List.dropLast_concat_getLast g).symm⟩
    obtain ⟨b, rfl, b1, b2, hx⟩ := hc2 (List.length_pos_iff.2 g)
    have e3 : R.grey.getLast?.getD 0 = c := by rw [hlc]; simp
    have e4 : (!R.grey.isEmpty) = true := by rw [hlc]; simp
    have e5 : R.grey.length = l.length + 1 := by rw [hlc]; simp
    have cx : w.cell? ⟨b, l.length, none⟩ = some (.int .i64 c) := hx l.length c (by show R.grey[l.length]? = some c; rw [hlc]; simp)
    have hb1 : b ≠ w.heap.size := by omega
    have hb2 : b ≠ w.heap.size + 1 := by omega
    rw [e3, e4]
    rw [e5] at c2 hl
    have hb := ((Below.refl w.heap.size w).alloc (Nat.le_refl _) (.cells #[.int .i64 3, .int .i64 N] 32)).alloc (by simp) (.cells #[.int .i64 c, .bool true, .int .i64 0] 34)
    have HE := Lib.hid (And.intro (hR.later hb) (One.of_below (q := q) hb))
    have i3 : ((l.length : Int) + 1 - 1) = (l.length : Int) := by omega
    have i4 : IntKind.i64.wrap ((l.length : Int) + 1 - 1) = (l.length : Int) := by rw [i3, IntKind.wrap_i64]; omega
    have i5 : (l.length : Int) < (l.length : Int) + 1 := by omega
    have i6 : (((l.length : Int) + 1) == 0) = false := by simp; omega
    clear hO hR hc2 hx hb e2 e3 e4 e5 hlc
    generalize l.length = m at *
    go_enter Try.func49, Try.ntmps49
    go_wp2_with fail
    exact bodyPost_ret (v := told c true 0) (by simp [told, results, Try.results49, go_sem]) rfl ⟨rfl, HE.out⟩

set_option maxHeartbeats 4000000 in
theorem rdone_none (w : World) (q n : Nat) (R : Rows) (hR : Ref w q n R) (N : Int) (g : R.grey = []) :
    Calls Try.prog 49 #[.pointer (some ⟨q, 0, none⟩), .agg #[.int .i64 4, .int .i64 N]] w fun e w' => e = .returned (told 0 false 18) ∧ Ref w' q n R ∧ One q w w' := by
  obtain ⟨v, hO⟩ := hR.op
  obtain ⟨a2, s2, e2, -⟩ := hO.row 2 (by decide)
  have c2 : w.cell? ⟨q, 2, none⟩ = some (v 2) := hO.cell 2 (by decide)
  rw [e2] at c2
  change w.cell? ⟨q, 2, none⟩ = some (.slice a2 R.grey.length (R.grey.length + s2)) at c2
  have lq := hO.lq
  have hq1 : q ≠ w.heap.size := by omega
  have hq2 : q ≠ w.heap.size + 1 := by omega
  have hb := ((Below.refl w.heap.size w).alloc (Nat.le_refl _) (.cells #[.int .i64 4, .int .i64 N] 32)).alloc (by simp) (.cells #[.int .i64 0, .bool false, .int .i64 18] 34)
  have HE := Lib.hid (And.intro (hR.later hb) (One.of_below (q := q) hb))
  rw [g] at c2
  clear hO hR e2 hb
  go_enter Try.func49, Try.ntmps49
  go_wp2_with fail
  exact bodyPost_ret (v := told 0 false 18) (by simp [told, results, Try.results49, go_sem]) rfl ⟨rfl, HE.out⟩

set_option maxHeartbeats 4000000 in
theorem rshade_none (w : World) (q n : Nat) (R : Rows) (hR : Ref w q n R) (N : Int) (g : R.frm = []) (hs : R.all.length ≤ 1000) :
    Calls Try.prog 49 #[.pointer (some ⟨q, 0, none⟩), .agg #[.int .i64 2, .int .i64 N]] w fun e w' => e = .returned (told 0 false 20) ∧ Ref w' q n R ∧ One q w w' := by
  obtain ⟨v, hO⟩ := hR.op
  obtain ⟨a2, s2, e2, -⟩ := hO.row 2 (by decide)
  have c2 : w.cell? ⟨q, 2, none⟩ = some (v 2) := hO.cell 2 (by decide)
  rw [e2] at c2
  change w.cell? ⟨q, 2, none⟩ = some (.slice a2 R.grey.length (R.grey.length + s2)) at c2
  have lq := hO.lq
  have hq1 : q ≠ w.heap.size := by omega
  have hq2 : q ≠ w.heap.size + 1 := by omega
  have hsh := shaded_any (twoBoxes w 2 N) q n R (hR.later (two_below w 2 N)) N hs
  rw [show shadedAt N R = -1 from if_pos g] at hsh
  unfold twoBoxes at hsh
  have HSH := Lib.hid hsh
  have hb := ((Below.refl w.heap.size w).alloc (Nat.le_refl _) (.cells #[.int .i64 2, .int .i64 N] 32)).alloc (by simp) (.cells #[.int .i64 0, .bool false, .int .i64 20] 34)
  have HE := Lib.hid (And.intro (hR.later hb) (One.of_below (q := q) hb))
  clear hO hR e2 hb hsh
  go_enter Try.func49, Try.ntmps49
  go_wp2_with fail
  refine HSH.out.mono ?_
  rintro e w3 ⟨rfl, rfl⟩
  go_wp2_with fail
  exact bodyPost_ret (v := told 0 false 20) (by simp [told, results, Try.results49, go_sem]) rfl ⟨rfl, HE.out⟩


end Go.Proofs.Ytbjlpmjalidfkaa
