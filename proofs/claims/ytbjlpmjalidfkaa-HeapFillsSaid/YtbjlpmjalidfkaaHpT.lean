/- Sweep. -/
import Derived.Test.YtbjlpmjalidfkaaHpS
import Derived.Test.YtbjlpmjalidfkaaHpN
namespace Go.Proofs.Ytbjlpmjalidfkaa
open Go.RowKit

theorem Head.size {D : Nat → Int} {c k s a m : Int} (h : Head D c k s a m) : Ce.sb (D c.toNat) = s := (Ce.parts_of h.fit h.word).2.1
theorem dropped_mem {R : Rows} {c a : Int} {l : List Int} (hw : R.white = c :: l) (h : a ∈ R.drop.all) : a ∈ R.all := by
  unfold Rows.all Rows.drop at *
  rw [hw] at *
  simp only [List.tail_cons, List.mem_append, List.mem_cons] at *
  rcases h with h | h
  · exact Or.inl (Or.inr h)
  · exact Or.inr h
theorem dropped_len {R : Rows} {c : Int} {l : List Int} (hw : R.white = c :: l) : R.drop.all.length < R.all.length := by
  unfold Rows.all Rows.drop
  rw [hw]
  simp
theorem dropped_ne {R : Rows} {c a : Int} {l : List Int} (hw : R.white = c :: l) (hnd : R.all.Nodup) (h : a ∈ R.drop.all) : a ≠ c := by
  unfold Rows.all Rows.drop at *
  rw [hw] at *
  simp only [List.tail_cons, List.cons_append, List.nodup_cons] at *
  rintro rfl
  exact hnd.1 h

/-- A large one's room is given. -/
theorem big_given {x : HSpot} {D : Nat → Int} {R : Nat → Rows} {top : Int} {L : List (Int × Int)} (h : HInv x D R top L) (hGd : Ex.Good x.lim (x.lim + (x.n - x.lim : Int)) L) {c k s a m : Int} (hc : c ∈ (R x.k).all) (hd : Head D c k s a m) : Ex.gErr x.lim (x.n - x.lim : Int) c (s + 3) L = 0 := by
  obtain ⟨b1, b2, b3⟩ := h.big c hc
  have hw : wid x D x.k c = s + 3 := by unfold wid; rw [if_neg (Nat.lt_irrefl _), hd.size]
  have hs := hd.fit.2.1
  rw [hw] at b2 b3
  have hin : Ex.within x.lim (x.n - x.lim : Int) c (s + 3) := ⟨by omega, b1, by omega⟩
  unfold Ex.gErr
  rw [if_pos hin]
  have : Ex.hits c (s + 3) L = false := by
    unfold Ex.hits
    rw [List.any_eq_false]
    intro y hy hh
    simp only [Bool.and_eq_true, decide_eq_true_eq] at hh
    by_cases g : c ≤ y.1
    · have hp := (Ex.good_mem hGd hy).2.1
      exact b3 y.1 g (by omega) ⟨y, hy, Int.le_refl _, by omega⟩
    · exact b3 c (Int.le_refl _) (by omega) ⟨y, hy, by omega, hh.1⟩
  rw [this]
  rfl

/-- What Sweep leaves. -/
def SweptSaid (x : HSpot) (T : Nat → Nat) (D : Nat → Int) (R : Nat → Rows) (top par : Int) (L : List (Int × Int)) (c s : Int) (w : World) (e : Ending) (w' : World) : Prop :=
  e = .returned (.bool true) ∧ ∃ T' D' M, HLies x T' D' (put1 R x.k (R x.k).drop) top par M w' ∧ HTurn T T' w w' ∧ SameBut (R x.k) D D' ∧ Ex.Given x.lim (x.lim + (x.n - x.lim : Int)) x.lim (x.n - x.lim : Int) c (s + 3) L M

set_option maxRecDepth 100000 in
set_option maxHeartbeats 4000000 in
theorem sweep_any (x : HSpot) (T : Nat → Nat) (D : Nat → Int) (R : Nat → Rows) (top par : Int) (L : List (Int × Int)) (w : World) (h : HLies x T D R top par L w) (hI : HInv x D R top L) (c : Int) (l : List Int) (hW : (R x.k).white = c :: l) (k s a m : Int) (hd : Head D c k s a m) :
    Calls Try.prog 33 #[.pointer (some ⟨x.h, 0, none⟩)] w (SweptSaid x T D R top par L c s w) := by
  have hc : c ∈ (R x.k).all := List.mem_append_left _ (by rw [hW]; exact List.mem_cons_self ..)
  have hw3 : wid x D x.k c = s + 3 := by unfold wid; rw [if_neg (Nat.lt_irrefl _), hd.size]
  have hO : Obj1 x R c s := hI.obj (Nat.le_refl _) hc (by omega)
  have hs := hd.fit.2.1
  have hfar := hI.far
  have H1 := Lib.hid (ringd_drop (x.S x.k) (R x.k) w D (h.rings x.k (Nat.le_refl _)) c l hW)
  have c2 := h.large
  have h1 := hO.one
  have h2 := hO.le
  have e1 : IntKind.i64.wrap (s + 3) = s + 3 := by rw [IntKind.wrap_i64]; omega
  have n6 := hI.n6
  have hwd := hO.word (by omega) x.k (Nat.le_refl _)
  have H := Lib.hid (And.intro h (And.intro hd (And.intro hfar hwd)))
  clear h hI hW hc hw3 hO hd hfar hwd
  go_enter Try.func33, Try.ntmps33
  go_wp2_with fail
  refine H1.out.mono ?_
  rintro e w2 ⟨rfl, ⟨D', h3, hD⟩, ht⟩
  have hdm : ∀ b, b ∈ (R x.k).drop.all → b ∈ (R x.k).all := fun b hb => by
    unfold Rows.all Rows.drop at *
    simp only [List.mem_append] at *
    rcases hb with hb | hb
    · exact Or.inl (List.mem_of_mem_tail hb)
    · exact Or.inr hb
  have h4 := H.out.1.ring (Nat.le_refl x.k) h3 ht (fun j hj hji q hq => hD q (by
    rintro ⟨b, hb, hbq⟩
    obtain ⟨b', hb', hbq'⟩ := hq
    have := H.out.2.2.1 j hj x.k (Nat.le_refl _) hji b' hb' b hb
    omega))
  have hd2 : Head D' c k s a m := ⟨H.out.2.1.fit, (hD c.toNat (fun hl => H.out.2.2.2 c.toNat hl (by omega))).trans H.out.2.1.word⟩
  have H4 := Lib.hid (And.intro h4.1 (And.intro h4.2 (And.intro hD hd2)))
  clear h3 hD ht h4 hd2 H1 c2 hdm
  go_wp2_with fail
  refine (cell_any x T D' _ top par L w2 H4.out.1 c k s a m h1 (by omega) H4.out.2.2.2).mono ?_
  rintro e w3 ⟨rfl, hS⟩
  have HS := Lib.hid (And.intro hS.1 (H4.out.2.1.trans hS.2))
  clear hS
  go_wp2_with fail
  have hx := (Below.refl w3.heap.size w3).alloc (Nat.le_refl _) (.cells #[.int .i64 k, .int .i64 s, .int .i64 a, .int .i64 m] 69)
  have b1 : (w3.alloc (.cells #[.int .i64 k, .int .i64 s, .int .i64 a, .int .i64 m] 69)).cell? ⟨w3.heap.size, 1, none⟩ = some (.int .i64 s) := by simp [go_sem]
  have H50 := Lib.hid (And.intro (HS.out.1.later hx) (HS.out.2.trans (HTurn.of_below hx)))
  generalize (w3.alloc (.cells #[.int .i64 k, .int .i64 s, .int .i64 a, .int .i64 m] 69)) = W at *
  have hdr := (Below.refl W.heap.size W).drew
  have H5 := Lib.hid (And.intro (H50.out.1.later hdr) (H50.out.2.trans (HTurn.of_below hdr)))
  have b1d := later' hdr b1
  have c3 := H5.out.1.room
  clear hx HS H50 b1 hdr
  obtain ⟨cb, cap, g, hT, hcl, hcs, hRm⟩ := H5.out.1.rest
  have hgl := hRm.lg
  have hrl := hRm.lp
  have HRm := Lib.hid hRm
  have HC := Lib.hid (And.intro hT (And.intro hcl hcs))
  clear hRm hT hcl hcs
  go_region_with (go_at_call 68; refine (Ex.room_give x.rp g x.lim (x.n - x.lim : Int) c (s + 3) L _ HRm.out (by omega)).mono ?_; rintro e w4 ⟨rfl, g', M, hR', hG, hq, hg'⟩)
  all_goals
    obtain ⟨T', h', t'⟩ := H5.out.1.setRoom HC.out.1 hR' hq hg' hgl ⟨cap, HC.out.2.1⟩ HC.out.2.2 hrl
    have H6 := Lib.hid (And.intro h' (And.intro (H5.out.2.trans t') hG))
    clear h' t' hG hq hg' hR' HRm HC hgl hrl c3 b1d
    go_wp2_with fail
    go_ret
    exact ⟨rfl, T', D', M, H6.out.1, H6.out.2.1, H4.out.2.2.1, H6.out.2.2⟩

set_option maxRecDepth 100000 in
set_option maxHeartbeats 4000000 in
theorem sweep_none (x : HSpot) (T : Nat → Nat) (D : Nat → Int) (R : Nat → Rows) (top par : Int) (L : List (Int × Int)) (w : World) (h : HLies x T D R top par L w) (hW : (R x.k).white = []) :
    Calls Try.prog 33 #[.pointer (some ⟨x.h, 0, none⟩)] w fun e w' => e = .returned (.bool false) ∧ w' = w := by
  have H1 := Lib.hid (ring_drop_full (x.S x.k) (R x.k) w (h.rings x.k (Nat.le_refl _)).ring hW)
  have c2 := h.large
  clear h hW
  go_enter Try.func33, Try.ntmps33
  go_wp2_with fail
  refine H1.out.mono ?_
  rintro e w2 ⟨rfl, rfl⟩
  go_wp2_with fail
  go_ret
  exact ⟨rfl, rfl⟩

/-- What holds of the cells behind a sweep. -/
theorem sweep_inv {x : HSpot} {D D' : Nat → Int} {R : Nat → Rows} {top : Int} {L M : List (Int × Int)} (hI : HInv x D R top L) {c s k a m : Int} {l : List Int} (hW : (R x.k).white = c :: l) (hd : Head D c k s a m) (hnd : (R x.k).all.Nodup)
    (hD : SameBut (R x.k) D D') (hG : Ex.Given x.lim (x.lim + (x.n - x.lim : Int)) x.lim (x.n - x.lim : Int) c (s + 3) L M) : HInv x D' (put1 R x.k (R x.k).drop) top M := by
  have hc : c ∈ (R x.k).all := List.mem_append_left _ (by rw [hW]; exact List.mem_cons_self ..)
  have hw3 : wid x D x.k c = s + 3 := by unfold wid; rw [if_neg (Nat.lt_irrefl _), hd.size]
  have old : ∀ i b, b ∈ (put1 R x.k (R x.k).drop i).all → b ∈ (R i).all := fun i b hb => by
    unfold put1 at hb
    by_cases e : i = x.k
    · rw [if_pos e] at hb
      rw [e]
      exact dropped_mem hW hb
    · rw [if_neg e] at hb
      exact hb
  have hwd : ∀ i, i ≤ x.k → ∀ b, b ∈ (R i).all → wid x D' i b = wid x D i b := fun i hi b hb => by
    unfold wid
    by_cases g : i < x.k
    · rw [if_pos g, if_pos g]
    · rw [if_neg g, if_neg g]
      obtain rfl : i = x.k := by omega
      have b1 := hI.one x.k (Nat.le_refl _) b hb
      rw [hD b.toNat]
      intro hl
      have hO := (hI.obj (Nat.le_refl _) hb (s := Ce.sb (D b.toNat)) (by unfold wid; rw [if_neg (Nat.lt_irrefl _)]; omega)).word (sb_nonneg _) x.k (Nat.le_refl _) b.toNat hl
      omega
  refine ⟨hI.t0, hI.t1, hI.ln, hI.n6, hI.sz, fun i hi b hb => hI.one i hi b (old i b hb), fun i hi b hb => hI.cell i hi b (old i b hb), fun b hb => ?_, fun i hi j hj b hb b' hb' hne => ?_, fun i hi => ?_⟩
  · have hb2 := old _ b hb
    obtain ⟨b1, b2, b3⟩ := hI.big b hb2
    rw [hwd _ (Nat.le_refl _) b hb2]
    refine ⟨b1, b2, fun q q1 q2 hq => ?_⟩
    rcases (hG.2.1 q).1 hq with hq | ⟨-, p1, p2⟩
    · exact b3 q q1 q2 hq
    · have hbc : b ≠ c := by
        unfold put1 at hb
        rw [if_pos rfl] at hb
        exact dropped_ne hW hnd hb
      have := hI.apart x.k (Nat.le_refl _) x.k (Nat.le_refl _) b hb2 c hc (fun _ => hbc)
      rw [hw3] at this
      omega
  · rw [hwd i hi b (old i b hb), hwd j hj b' (old j b' hb')]
    exact hI.apart i hi j hj b (old i b hb) b' (old j b' hb') hne
  · unfold put1
    by_cases e : i = x.k
    · rw [if_pos e]
      have := dropped_len hW
      have := hI.len x.k (Nat.le_refl _)
      omega
    · rw [if_neg e]
      exact hI.len i hi

end Go.Proofs.Ytbjlpmjalidfkaa
