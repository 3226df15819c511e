/- What holds of a heap's cells; take. -/
import Derived.Test.YtbjlpmjalidfkaaHpF
namespace Go.Proofs.Ytbjlpmjalidfkaa
open Go.RowKit

/-- How many words a cell has. -/
def wid (x : HSpot) (D : Nat → Int) (i : Nat) (a : Int) : Int := (if i < x.k then x.sz i else Ce.sb (D a.toNat)) + 3
theorem sb_nonneg (w : Int) : 0 ≤ Ce.sb w := by unfold Ce.sb; omega
/-- What holds of a heap's cells. -/
structure HInv (x : HSpot) (D : Nat → Int) (R : Nat → Rows) (top : Int) (L : List (Int × Int)) : Prop where
  t0 : 1 ≤ top
  t1 : top ≤ x.lim
  ln : x.lim ≤ x.n
  n6 : x.n ≤ 65536
  sz : ∀ i, i < x.k → 1 ≤ x.sz i ∧ x.sz i ≤ 24
  one : ∀ i, i ≤ x.k → ∀ a, a ∈ (R i).all → 1 ≤ a
  cell : ∀ i, i < x.k → ∀ a, a ∈ (R i).all → a + x.sz i + 3 ≤ top
  big : ∀ a, a ∈ (R x.k).all → x.lim ≤ a ∧ a + wid x D x.k a ≤ x.n ∧ ∀ m, a ≤ m → m < a + wid x D x.k a → ¬ Ex.Cov L m
  apart : ∀ i, i ≤ x.k → ∀ j, j ≤ x.k → ∀ a, a ∈ (R i).all → ∀ b, b ∈ (R j).all → (i = j → a ≠ b) → a + wid x D i a ≤ b ∨ b + wid x D j b ≤ a
  len : ∀ i, i ≤ x.k → (R i).all.length < 1000

theorem wid_three {x : HSpot} {D : Nat → Int} {R : Nat → Rows} {top : Int} {L : List (Int × Int)} (h : HInv x D R top L) (i : Nat) (a : Int) : 3 ≤ wid x D i a := by
  unfold wid
  by_cases g : i < x.k
  · have := h.sz i g
    rw [if_pos g]
    omega
  · have := sb_nonneg (D a.toNat)
    rw [if_neg g]
    omega
theorem HInv.far {x : HSpot} {D : Nat → Int} {R : Nat → Rows} {top : Int} {L : List (Int × Int)} (h : HInv x D R top L) : Far x.k R := by
  intro i hi j hj hij a ha b hb
  have := h.apart i hi j hj a ha b hb (fun e => absurd e hij)
  have h1 := wid_three h i a
  have h2 := wid_three h j b
  omega

set_option maxHeartbeats 4000000 in
set_option maxRecDepth 100000 in
theorem take_any (x : HSpot) (T : Nat → Nat) (D : Nat → Int) (R : Nat → Rows) (top par : Int) (L : List (Int × Int)) (w : World) (h : HLies x T D R top par L w) (hI : HInv x D R top L) (size : Int) (hs : 0 ≤ size ∧ size ≤ 31) :
    Calls Try.prog 58 #[.pointer (some ⟨x.h, 0, none⟩), .int .i64 size] w (Taken x T D R top par L size w) := by
  obtain ⟨i, hC⟩ := cls_ex x.sz x.k size
  have H := Lib.hid h
  have HI := Lib.hid hI
  have H1 := Lib.hid (class_for x T D R top par L w h size i hC)
  have e1 : IntKind.i64.wrap (size + 3) = size + 3 := by rw [IntKind.wrap_i64]; omega
  clear h hI
  go_enter Try.func58, Try.ntmps58
  go_wp2_with fail
  refine H1.out.mono ?_
  rintro e w2 ⟨rfl, hb⟩
  have HB := Lib.hid (And.intro hb (H.out.later hb))
  clear hb H1
  by_cases hi : i < x.k
  · rw [if_pos hi]
    go_wp2_with fail
    have hx := (Below.refl w2.heap.size w2).alloc (Nat.le_refl _) (.cells #[.int .i64 (x.sz i), .pointer (some ⟨(x.S i).r, 0, none⟩)] 101)
    have HX := Lib.hid (And.intro (onB' HB.out.1 hx) (HB.out.2.later hx))
    generalize (w2.alloc (.cells #[.int .i64 (x.sz i), .pointer (some ⟨(x.S i).r, 0, none⟩)] 101)) = W at *
    clear hx
    refine (take_of x T D R top par L W HX.out.2 i hi (HI.out.sz i hi) HI.out.t0 HI.out.t1 HI.out.ln HI.out.n6 HI.out.far (fun j hj a ha => by have := HI.out.cell j hj a ha; have := HI.out.sz j hj; omega) (fun a ha => (HI.out.big a ha).1) (HI.out.len i (by omega))).mono ?_
    intro e w3 h3
    have h4 := h3.before (HTurn.of_below HX.out.1)
    clear h3
    obtain ⟨va, vb, he⟩ : ∃ a b : Int, e = .returned (.tuple #[.int .i64 a, .int .i64 b]) := by
      cases h4 with
      | white c l hw he h ht => exact ⟨_, _, he⟩
      | fresh D' hw hr he h hD ht => exact ⟨_, _, he⟩
      | full hw hr he h ht => exact ⟨_, _, he⟩
    subst he
    have H4 := Lib.hid h4
    clear h4
    go_wp2_with fail
    refine bodyPost_ret (v := .tuple #[.int .i64 va, .int .i64 vb]) (by simp [results, Try.results58, go_sem]) rfl ?_
    exact .small i hC hi H4.out
  · rw [if_neg hi]
    obtain rfl : i = x.k := by have := hC.le; omega
    have hx := (Below.refl w2.heap.size w2).alloc (Nat.le_refl _) (.cells #[.int .i64 0, .pointer none] 101)
    have c3 := later' hx HB.out.2.room
    have HX := Lib.hid (And.intro (onB' HB.out.1 hx) (HB.out.2.later hx))
    go_wp2_with fail
    generalize (w2.alloc (.cells #[.int .i64 0, .pointer none] 101)) = W at *
    clear hx c3 HB
    obtain ⟨cb, cap, g, hT, hc, hcs, hRm⟩ := HX.out.2.rest
    have hgl := hRm.lg
    have hrl := hRm.lp
    have hgood := hRm.good
    refine (Ex.room_take x.rp g x.lim (x.n - x.lim : Int) (size + 3) L W hRm).mono ?_
    rintro e w3 ⟨rfl, g', M, hR', hTk, hq, hg'⟩
    obtain ⟨T', h', t'⟩ := HX.out.2.setRoom hT hR' hq hg' hgl ⟨cap, hc⟩ hcs hrl
    have H3 := Lib.hid (And.intro h' (And.intro ((HTurn.of_below HX.out.1).trans t') hTk))
    have HG := Lib.hid hgood
    clear hT hc hcs hRm hR' hq hg' h' t' hTk hgood
    by_cases g0 : Ex.tErr (size + 3) L = 0
    · have hsp := spot_cov HG.out (by omega) g0
      have HS := Lib.hid hsp
      rw [g0]
      clear hsp
      generalize hat : Ex.tAt (size + 3) L = at' at *
      have c2 := H3.out.1.large
      go_wp2_with fail
      have hfar3 : ∀ a, a ∈ (R x.k).all → a + 3 ≤ at' ∨ at' + 3 ≤ a := fun a ha => by
        have h1 := (HI.out.big a ha).2.2
        have h2 := wid_three HI.out x.k a
        have h3 := HS.out.2.2
        by_cases q1 : a < at'
        · by_cases q2 : a + 3 ≤ at'
          · exact Or.inl q2
          · exact absurd (h3 at' (by omega) (by omega)) (h1 at' (by omega) (by omega))
        · by_cases q2 : at' + 3 ≤ a
          · exact Or.inr q2
          · exact absurd (h3 a (by omega) (by omega)) (h1 a (by omega) (by omega))
      have hlo := HS.out.1
      have hhi := HS.out.2.1
      have t0 := HI.out.t0
      have t1 := HI.out.t1
      have hfit : Fit (x.S x.k).n (at' :: (R x.k).all) := by
        have hf := (H3.out.1.rings x.k (Nat.le_refl _)).fit
        have e3 := (H3.out.1.sp x.k (Nat.le_refl _)).2.2
        rw [e3] at hf ⊢
        refine ⟨fun a ha => ?_, List.pairwise_cons.2 ⟨fun a ha => (hfar3 a ha).symm, hf.far⟩⟩
        rcases List.mem_cons.1 ha with rfl | ha
        · exact ⟨by omega, by omega⟩
        · exact hf.rng a ha
      refine (enter_ring (x.S x.k) (R x.k) D w3 (H3.out.1.rings x.k (Nat.le_refl _)) at' hfit (HI.out.len x.k (Nat.le_refl _))).mono ?_
      rintro e w4 ⟨rfl, ⟨D', h5, h6⟩, ht⟩
      have hfar : ∀ j, j ≤ x.k → j ≠ x.k → ∀ a, a ∈ ((R x.k).grow at').all → ∀ b, b ∈ (R j).all → a + 3 ≤ b ∨ b + 3 ≤ a := by
        intro j hj hji a ha b hb
        rcases List.mem_cons.1 (show a ∈ at' :: (R x.k).all from ha) with rfl | ha
        · have := HI.out.cell j (by omega) b hb
          have := HI.out.sz j (by omega)
          exact Or.inr (by omega)
        · exact HI.out.far x.k (Nat.le_refl _) j hj (Ne.symm hji) a ha b hb
      have H5 := Lib.hid (And.intro (H3.out.1.ring (Nat.le_refl _) h5 ht (far_links hfar h6)) h6)
      clear h5 h6 ht hfar hfit hfar3 hlo hhi c2
      go_wp2_with fail
      refine bodyPost_ret (v := .tuple #[.int .i64 at', .int .i64 0]) (by simp [results, Try.results58, go_sem]) rfl ?_
      subst hat
      exact .big hC g0 T' D' M rfl H5.out.1.1 H5.out.2 H3.out.2.2 (H3.out.2.1.trans H5.out.1.2)
    · have e2 : (Ex.tErr (size + 3) L != 0) = true := by simpa using g0
      have hML : M = L := by
        obtain ⟨h1, h2, -⟩ := H3.out.2.2
        exact Ex.good_unique h1 HG.out fun m => by
          rw [h2]
          exact ⟨fun h => h.1, fun h => ⟨h, fun h0 => absurd h0 g0⟩⟩
      subst hML
      have hat : Ex.tAt (size + 3) M = 0 := by
        unfold Ex.tAt
        rw [if_neg (by omega)]
        unfold Ex.tErr at g0
        rw [if_neg (by omega)] at g0
        cases hsp : Ex.spot (size + 3) M with
        | none => rfl
        | some a => rw [hsp] at g0; exact absurd rfl g0
      have HA := Lib.hid hat
      generalize hte : Ex.tErr (size + 3) M = te at *
      go_wp2_with fail
      refine bodyPost_ret (v := .tuple #[.int .i64 0, .int .i64 te]) (by simp [results, Try.results58, go_sem]) rfl ?_
      subst hte
      exact .none hC g0 T' (by rw [HA.out]) H3.out.1 H3.out.2.1

end Go.Proofs.Ytbjlpmjalidfkaa
