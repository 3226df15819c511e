import Derived.Test.YthcgmfcibjinlaaMg3
import Derived.Test.YthcgmfcibjinlaaMg8
/- What holds of the cells behind an Alloc. -/
namespace Go.Proofs.Ythcgmfcibjinlaa
open Go.RowKit

theorem wid_class {x : HSpot} {D D' : Nat → Int} {i : Nat} (hi : i < x.k) (a : Int) : wid x D i a = wid x D' i a := by
  unfold wid
  rw [if_pos hi, if_pos hi]
theorem wid_same {x : HSpot} {D D' : Nat → Int} {i : Nat} {a : Int} (h : D' a.toNat = D a.toNat) : wid x D' i a = wid x D i a := by
  unfold wid
  rw [h]

theorem alloc_inv {x : HSpot} {D D' : Nat → Int} {R : Nat → Rows} {top : Int} {L : List (Int × Int)} {size at' word : Int} {R' : Nat → Rows} {top' : Int} {M : List (Int × Int)} (hI : HInv x D R top L) (hG : Ex.Good x.lim (x.lim + (x.n - x.lim : Int)) L)
    (hA : AllocP x R top L size at' R' top' M) (hW : Wrote x R' D D' at' size word) (hs : 0 ≤ size) (hsb : Ce.sb word = size) (hlen : ∀ i, i ≤ x.k → (R i).all.length < 999) : HInv x D' R' top' M := by
  obtain ⟨r1, r2, hcl⟩ := hA.room hI hG hs
  obtain ⟨i, hi, hC, hat, hne, hmem, hln⟩ := hA.cells
  have t0 := hI.t0
  have t1 := hI.t1
  have old : ∀ j, j ≤ x.k → ∀ a, a ∈ (R' j).all → (j = i ∧ a = at') ∨ a ∈ (R j).all := fun j hj a ha => by
    by_cases e : j = i
    · subst e
      rcases (hmem a).1 ha with h | h
      · exact Or.inl ⟨rfl, h⟩
      · exact Or.inr h
    · rw [hne j e] at ha
      exact Or.inr ha
  have new : ∀ j, j ≤ x.k → ∀ a, a ∈ (R j).all → a ∈ (R' j).all := fun j hj a ha => by
    by_cases e : j = i
    · subst e
      exact (hmem a).2 (Or.inr ha)
    · rw [hne j e]; exact ha
  -- headers of other cells stand
  have hdr : ∀ j, j ≤ x.k → ∀ a, a ∈ (R j).all → a ≠ at' → D' a.toNat = D a.toNat := fun j hj a ha hna => by
    have h1 := hI.one j hj a ha
    have h2 := hcl j hj a (new j hj a ha)
    refine hW.keep a.toNat (by omega) fun m hm => ?_
    rintro ⟨c, hc, hl⟩
    rcases old m hm c hc with ⟨_, e⟩ | hc'
    · omega
    · by_cases e : m = j ∧ c = a
      · omega
      · have h3 := hI.apart m hm j hj c hc' a ha (fun e1 e2 => e ⟨e1, e2⟩)
        have h4 := wid_three hI m c
        have h5 := wid_three hI j a
        omega
  have hw : ∀ j, j ≤ x.k → ∀ a, a ∈ (R j).all → (a ≠ at' ∨ j < x.k) → wid x D' j a = wid x D j a := fun j hj a ha h => by
    rcases h with h | h
    · exact wid_same (hdr j hj a ha h)
    · exact wid_class h a
  have hwk : wid x D' x.k at' = size + 3 := by
    unfold wid
    rw [if_neg (Nat.lt_irrefl _), hW.hd, hsb]
  have lens : ∀ j, j ≤ x.k → (R' j).all.length < 1000 := fun j hj => by
    have := hlen j hj
    by_cases e : j = i
    · subst e; omega
    · rw [hne j e]; omega
  have ones : ∀ j, j ≤ x.k → ∀ a, a ∈ (R' j).all → 1 ≤ a := fun j hj a ha => by
    rcases old j hj a ha with ⟨_, rfl⟩ | h
    · exact r1
    · exact hI.one j hj a h
  -- the new cell, and an old one
  have pair : (∀ j, j ≤ x.k → ∀ b, b ∈ (R j).all → (i = j → at' ≠ b) → at' + wid x D' i at' ≤ b ∨ b + wid x D' j b ≤ at') → ∀ i', i' ≤ x.k → ∀ j, j ≤ x.k → ∀ a, a ∈ (R' i').all → ∀ b, b ∈ (R' j).all → (i' = j → a ≠ b) → a + wid x D' i' a ≤ b ∨ b + wid x D' j b ≤ a := by
    intro hp i' hi' j hj a ha b hb hab
    rcases old i' hi' a ha with ⟨e1, e2⟩ | ha'
    · have hab' : i = j → at' ≠ b := fun e => by
        have := hab (e1.trans e)
        rwa [e2] at this
      rw [e1, e2]
      rcases old j hj b hb with ⟨e3, e4⟩ | hb'
      · exact absurd e4.symm (hab' e3.symm)
      · exact hp j hj b hb' hab'
    · rcases old j hj b hb with ⟨e3, e4⟩ | hb'
      · rw [e3, e4]
        exact (hp i' hi' a ha' (fun e e' => hab (e.symm.trans e3.symm) (e'.symm.trans e4.symm))).symm
      · by_cases q1 : a = at' ∧ i' = i
        · rw [q1.1, q1.2]
          exact hp j hj b hb' (fun e => by have := hab (q1.2.trans e); rwa [q1.1] at this)
        · by_cases q2 : b = at' ∧ j = i
          · rw [q2.1, q2.2]
            exact (hp i' hi' a ha' (fun e e' => hab (e.symm.trans q2.2.symm) (e'.symm.trans q2.1.symm))).symm
          · have h1 := hI.apart i' hi' j hj a ha' b hb' hab
            have h2 := wid_three hI i' a
            have h3 := wid_three hI j b
            have h4 : a ≠ at' := fun e => by
              by_cases e5 : i' = i
              · exact q1 ⟨e, e5⟩
              · have := hcl i' hi' a ha
                have h6 := hp i' hi' a ha' (fun e6 => absurd e6.symm e5)
                rw [e] at h6
                have h7 : 3 ≤ wid x D' i at' := by
                  unfold wid
                  by_cases g : i < x.k
                  · have := hI.sz i g; rw [if_pos g]; omega
                  · have := sb_nonneg (D' at'.toNat); rw [if_neg g]; omega
                have h8 : 3 ≤ wid x D' i' at' := by
                  unfold wid
                  by_cases g : i' < x.k
                  · have := hI.sz i' g; rw [if_pos g]; omega
                  · have := sb_nonneg (D' at'.toNat); rw [if_neg g]; omega
                omega
            have h5 : b ≠ at' := fun e => by
              by_cases e5 : j = i
              · exact q2 ⟨e, e5⟩
              · have h6 := hp j hj b hb' (fun e6 => absurd e6.symm e5)
                rw [e] at h6
                have h7 : 3 ≤ wid x D' i at' := by
                  unfold wid
                  by_cases g : i < x.k
                  · have := hI.sz i g; rw [if_pos g]; omega
                  · have := sb_nonneg (D' at'.toNat); rw [if_neg g]; omega
                have h8 : 3 ≤ wid x D' j at' := by
                  unfold wid
                  by_cases g : j < x.k
                  · have := hI.sz j g; rw [if_pos g]; omega
                  · have := sb_nonneg (D' at'.toNat); rw [if_neg g]; omega
                omega
            rw [hw i' hi' a ha' (Or.inl h4), hw j hj b hb' (Or.inl h5)]
            exact h1
  cases hA with
  | white i2 hC2 hi2 l hwh hR ht hM =>
    subst ht hM
    have hm : at' ∈ (R i2).all := List.mem_append_left _ (by rw [hwh]; exact List.mem_cons_self ..)
    have same : ∀ j, j ≤ x.k → ∀ a, a ∈ (R' j).all → a ∈ (R j).all := fun j hj a ha => by
      rw [hR] at ha
      unfold put1 at ha
      by_cases e : j = i2
      · rw [if_pos e, alloced_mem hwh] at ha
        rw [e]; exact ha
      · rwa [if_neg e] at ha
    have c1 := hI.cell i2 hi2 at' hm
    have big : ∀ a, a ∈ (R x.k).all → a ≠ at' := fun a ha => by
      have := (hI.big a ha).1
      have := hI.sz i2 hi2
      omega
    have hw' : ∀ j, j ≤ x.k → ∀ a, a ∈ (R j).all → wid x D' j a = wid x D j a := fun j hj a ha => by
      by_cases e : j = x.k
      · subst e
        exact hw _ hj a ha (Or.inl (big a ha))
      · exact hw j hj a ha (Or.inr (by omega))
    refine ⟨t0, t1, hI.ln, hI.n6, hI.sz, ones, fun j hj a ha => hI.cell j hj a (same j (by omega) a ha), fun a ha => ?_, fun i' hi' j hj a ha b hb hab => ?_, lens⟩
    · have ha' := same x.k (Nat.le_refl _) a ha
      rw [hw' x.k (Nat.le_refl _) a ha']
      exact hI.big a ha'
    · have ha' := same i' hi' a ha
      have hb' := same j hj b hb
      rw [hw' i' hi' a ha', hw' j hj b hb']
      exact hI.apart i' hi' j hj a ha' b hb' hab
  | fresh i2 hC2 hi2 hwh hr ha2 hR ht hM =>
    subst ht hM
    have hz := hI.sz i2 hi2
    have e2 : i = i2 := by
      by_cases e : i = i2
      · exact e
      · exfalso
        rw [hR] at hat
        unfold put1 at hat
        rw [if_neg e] at hat
        by_cases g : i = x.k
        · rw [g] at hat
          have := (hI.big at' hat).1
          omega
        · have := hI.cell i (by omega) at' hat
          have := hI.sz i (by omega)
          omega
    subst e2
    have hwi : wid x D' i at' = x.sz i + 3 := by unfold wid; rw [if_pos hi2]
    refine ⟨by omega, by omega, hI.ln, hI.n6, hI.sz, ones, fun j hj a ha => ?_, fun a ha => ?_, pair fun j hj b hb _ => ?_, lens⟩
    · rcases old j (by omega) a ha with ⟨e1, e3⟩ | h
      · subst e1 e3; omega
      · have := hI.cell j hj a h; omega
    · rcases old x.k (Nat.le_refl _) a ha with ⟨e1, e3⟩ | h
      · omega
      · rw [hw x.k (Nat.le_refl _) a h (Or.inl (by have := (hI.big a h).1; omega))]
        exact hI.big a h
    · rw [hwi]
      by_cases g : j = x.k
      · subst g
        have := (hI.big b hb).1
        omega
      · have h1 := hI.cell j (by omega) b hb
        have h2 : wid x D' j b = x.sz j + 3 := by unfold wid; rw [if_pos (by omega)]
        omega
  | big hC2 he ha2 hR ht hM =>
    subst ht
    obtain ⟨s1, s2, s3⟩ := spot_cov hG (by omega) he
    rw [← ha2] at s1 s2 s3
    obtain ⟨-, hM2, -⟩ := hM
    have e2 : i = x.k := by
      by_cases e : i = x.k
      · exact e
      · exfalso
        rw [hR] at hat
        unfold put1 at hat
        rw [if_neg e] at hat
        have := hI.cell i (by omega) at' hat
        have := hI.sz i (by omega)
        omega
    subst e2
    have hnot : ∀ a, a ∈ (R x.k).all → a ≠ at' := fun a ha e => (hI.big a ha).2.2 a (Int.le_refl _) (by have := wid_three hI x.k a; omega) (s3 a (by omega) (by omega))
    refine ⟨t0, t1, hI.ln, hI.n6, hI.sz, ones, fun j hj a ha => ?_, fun a ha => ?_, pair fun j hj b hb hjb => ?_, lens⟩
    · rcases old j (by omega) a ha with ⟨e1, e3⟩ | h
      · omega
      · exact hI.cell j hj a h
    · rcases old x.k (Nat.le_refl _) a ha with ⟨e1, e3⟩ | h
      · subst e3
        rw [hwk]
        refine ⟨s1, by omega, fun m h1 h2 => ?_⟩
        rw [hM2, ← ha2]
        exact fun h => h.2 he ⟨h1, by omega⟩
      · rw [hw x.k (Nat.le_refl _) a h (Or.inl (hnot a h))]
        obtain ⟨b1, b2, b3⟩ := hI.big a h
        refine ⟨b1, b2, fun m h1 h2 => ?_⟩
        rw [hM2]
        exact fun h => b3 m h1 h2 h.1
    · rw [hwk]
      by_cases g : j = x.k
      · subst g
        rw [hw x.k (Nat.le_refl _) b hb (Or.inl (hnot b hb))]
        have h1 := (hI.big b hb).2.2
        have h2 := wid_three hI x.k b
        by_cases q1 : at' + (size + 3) ≤ b
        · exact Or.inl q1
        · by_cases q2 : b + wid x D x.k b ≤ at'
          · exact Or.inr q2
          · exfalso
            by_cases q3 : b ≤ at'
            · exact h1 at' q3 (by omega) (s3 at' (by omega) (by omega))
            · exact h1 b (by omega) (by omega) (s3 b (by omega) (by omega))
      · have h1 := hI.cell j (by omega) b hb
        have h2 : wid x D' j b = x.sz j + 3 := by unfold wid; rw [if_pos (by omega)]
        omega

end Go.Proofs.Ythcgmfcibjinlaa

/- Round; a new cell of a class; the document's example. -/
namespace Go.Proofs.Ythcgmfcibjinlaa
open Go.RowKit

theorem Cls.unique {z : Nat → Int} {k : Nat} {size : Int} {i j : Nat} (h : Cls z k size i) (g : Cls z k size j) : i = j := by
  rcases Nat.lt_trichotomy i j with e | e | e
  · have := g.low i e
    have := h.fits (by have := g.le; omega)
    omega
  · exact e
  · have := h.low j e
    have := g.fits (by have := h.le; omega)
    omega

set_option maxHeartbeats 1000000 in
set_option maxRecDepth 100000 in
theorem round_any (x : HSpot) (T : Nat → Nat) (D : Nat → Int) (R : Nat → Rows) (top par : Int) (L : List (Int × Int)) (w : World) (h : HLies x T D R top par L w) (size : Int) (hs : 0 ≤ size ∧ size ≤ 100000) (i : Nat) (hC : Cls x.sz x.k size i) (hz : i < x.k → 1 ≤ x.sz i ∧ x.sz i ≤ 24) :
    Calls Try.prog 18 #[.pointer (some ⟨x.h, 0, none⟩), .int .i64 size] w fun e w' => e = .returned (.int .i64 (if i < x.k then x.sz i + 3 else size + 3)) ∧ Below w.heap.size w w' := by
  have H1 := Lib.hid (class_for x T D R top par L w h size i hC)
  have e1 : IntKind.i64.wrap (size + 3) = size + 3 := by rw [IntKind.wrap_i64]; omega
  clear h
  by_cases hi : i < x.k
  · have := hz hi
    have e2 : IntKind.i64.wrap (x.sz i + 3) = x.sz i + 3 := by rw [IntKind.wrap_i64]; omega
    rw [if_pos hi]
    go_enter Try.func18, Try.ntmps18
    go_wp2_with fail
    refine H1.out.mono ?_
    rintro e w2 ⟨rfl, hb⟩
    rw [if_pos hi]
    have HB := Lib.hid (hb.alloc (by have := hb.size; omega) (.cells #[.int .i64 (x.sz i), .pointer (some ⟨(x.S i).r, 0, none⟩)] 101))
    clear hb
    go_wp2_with fail
    go_ret
    exact ⟨rfl, HB.out⟩
  · rw [if_neg hi]
    go_enter Try.func18, Try.ntmps18
    go_wp2_with fail
    refine H1.out.mono ?_
    rintro e w2 ⟨rfl, hb⟩
    rw [if_neg hi]
    have HB := Lib.hid (hb.alloc (by have := hb.size; omega) (.cells #[.int .i64 0, .pointer none] 101))
    clear hb
    go_wp2_with fail
    go_ret
    exact ⟨rfl, HB.out⟩

theorem HLies.good {x : HSpot} {T : Nat → Nat} {D : Nat → Int} {R : Nat → Rows} {top par : Int} {L : List (Int × Int)} {w : World} (h : HLies x T D R top par L w) : Ex.Good x.lim (x.lim + (x.n - x.lim : Int)) L := by
  obtain ⟨cb, cap, g, -, -, -, hR⟩ := h.rest
  exact hR.good
theorem sb_pw {k s a m : Int} (h : Ce.pe k s a m = 0) : Ce.sb (Ce.pw k s a m) = s := by
  have hf := (Ce.pe_fit k s a m).1 h
  exact (Ce.parts_of hf (Ce.pw_ok hf)).2.1

/-- What a new heap's cells are: none. -/
theorem inv_new {x : HSpot} {L : List (Int × Int)} (h1 : 1 ≤ x.lim) (h2 : x.lim ≤ x.n) (h3 : x.n ≤ 65536) (hs : ∀ i, i < x.k → 1 ≤ x.sz i ∧ x.sz i ≤ 24) : HInv x (fun _ => 0) (fun _ => none4) 1 L := by
  have e : ∀ a, a ∉ none4.all := fun a h => by simp [none4, Rows.all] at h
  exact ⟨Int.le_refl _, by omega, h2, h3, hs, fun _ _ a ha => absurd ha (e a), fun _ _ a ha => absurd ha (e a), fun a ha => absurd ha (e a), fun _ _ _ _ a ha => absurd ha (e a), fun _ _ => by simp [none4, Rows.all]⟩

/-- A new cell of a class. -/
theorem AllocsE.fresh {pe pw : Int} {x : HSpot} {T : Nat → Nat} {D : Nat → Int} {R : Nat → Rows} {top par : Int} {L : List (Int × Int)} {size : Int} {w w' : World} {e : Ending} (h : AllocsE pe pw x T D R top par L size w e w') (hp : pe = 0) (i : Nat) (hC : Cls x.sz x.k size i) (hi : i < x.k) (hw : (R i).white = []) (hr : top + x.sz i + 3 ≤ x.lim) :
    ∃ (T' : Nat → Nat) (D' : Nat → Int), e = .returned (.tuple #[.int .i64 top, .int .i64 0]) ∧ HLies x T' D' (put1 R i ((R i).grow top).alloc) (top + x.sz i + 3) par L w' ∧ HTurn T T' w w' ∧ AllocP x R top L size top (put1 R i ((R i).grow top).alloc) (top + x.sz i + 3) L ∧ Wrote x (put1 R i ((R i).grow top).alloc) D D' top size pw := by
  rcases h with ⟨h1, -⟩ | ⟨-, at', T', D', R', top', M, he, hl, ht, hA, hW⟩ | ⟨-, T', he, hl, ht, hF⟩
  · exact absurd hp h1
  · cases hA with
    | white j hC2 hj l hw2 hR ht2 hM =>
      obtain rfl := hC.unique hC2
      rw [hw] at hw2
      cases hw2
    | fresh j hC2 hj hw2 hr2 ha hR ht2 hM =>
      obtain rfl := hC.unique hC2
      subst ha ht2 hM hR
      exact ⟨T', D', he, hl, ht, .fresh i hC hi hw hr rfl rfl rfl rfl, hW⟩
    | big hC2 => exact absurd (hC.unique hC2) (by omega)
  · rcases hF with ⟨j, hC2, _, _, h5⟩ | ⟨hC2, _⟩
    · obtain rfl := hC.unique hC2
      omega
    · exact absurd (hC.unique hC2) (by omega)

end Go.Proofs.Ythcgmfcibjinlaa

/- The document's example: it comes out. -/
namespace Go.Proofs.Ythcgmfcibjinlaa
open Go.RowKit

def two4 (i : Nat) : Int := if i = 0 then 2 else 4
theorem two4_cls1 : Cls two4 2 1 0 := ⟨by omega, fun j hj => by omega, fun _ => by decide⟩
theorem two4_cls2 : Cls two4 2 2 0 := ⟨by omega, fun j hj => by omega, fun _ => by decide⟩
theorem two4_cls3 : Cls two4 2 3 1 := ⟨by omega, fun j hj => by (obtain rfl : j = 0 := by omega); exact (by decide : two4 0 < 3), fun _ => (by decide : (3 : Int) ≤ two4 1)⟩
theorem two4_sz : ∀ i, i < 2 → 1 ≤ two4 i ∧ two4 i ≤ 24 := fun i hi => by
  obtain rfl | rfl : i = 0 ∨ i = 1 := by omega
  · decide
  · decide
theorem two4_rise : Rise two4 2 := fun i hi => by
  obtain rfl | rfl : i = 0 ∨ i = 1 := by omega
  · decide
  · decide

set_option maxHeartbeats 8000000 in
set_option maxRecDepth 100000 in
theorem hawake_any (w : World) : Calls Try.prog 15 #[] w fun e w' => e = .returned (.bool true) ∧ Below w.heap.size w w' := by
  have q : ∀ (w : World) (a : Nat), (binOp .eql 46 (.pointer (some ⟨a, 0, none⟩)) (.pointer none)).run Try.prog w = .ok (.bool false) w := fun w a => rfl
  have hb0 := (Below.refl w.heap.size w).alloc (Nat.le_refl _) (.cells #[.int .i64 2, .int .i64 4] 3)
  go_enter Try.func15, Try.ntmps15
  go_wp2_with fail
  have hS : Sizes (w.alloc (.cells #[.int .i64 2, .int .i64 4] 3)) (some ⟨w.heap.size, 0, none⟩) 2 two4 := fun _ => ⟨w.heap.size, 0, rfl, by simp, fun k hk => by
    obtain rfl | rfl : k = 0 ∨ k = 1 := by omega
    · simp [go_sem, two4]
    · simp [go_sem, two4]⟩
  have HB0 := Lib.hid hb0
  have HS := Lib.hid hS
  generalize (w.alloc (.cells #[.int .i64 2, .int .i64 4] 3)) = W0 at *
  clear hb0 hS
  refine (heap_new 40 0 0 0 0 0 (some ⟨w.heap.size, 0, none⟩) 2 2 two4 W0 HS.out ⟨by omega, by omega, by omega, by omega, by omega, by omega, two4_rise⟩).mono ?_
  rintro e w1 ⟨x, T, rfl, f1, f2, f3, f4, h1, hb1, hT⟩
  have hx := HB0.out.size
  have hz1 := hb1.size
  have hI1 := inv_new (L := Ex.whole x.lim (x.n - x.lim : Int)) (show 1 ≤ x.lim by omega) (by omega) (by omega) (by rw [f3, f4]; exact two4_sz)
  have H1 := Lib.hid (And.intro h1 (And.intro (onB' HB0.out hb1) hI1))
  have HT := Lib.hid hT
  clear h1 hb1 hI1 HB0 HS hT
  go_wp2_with fail
  refine (alloc_any x T _ _ 1 0 _ w1 H1.out.1 H1.out.2.2 1 0 1).mono ?_
  intro e w2 h2
  obtain ⟨T2, D2, rfl, h3, t3, hA, hW⟩ := h2.fresh (by decide) 0 (by rw [f3, f4]; exact two4_cls1) (by omega) rfl (by rw [f4]; simp only [two4, if_true]; omega)
  have hI2 := alloc_inv H1.out.2.2 H1.out.1.good hA hW (by omega) (sb_pw (by decide)) (fun i _ => by simp [none4, Rows.all])
  have e4 : (1 : Int) + x.sz 0 + 3 = 6 := by rw [f4]; rfl
  rw [e4] at h3 hI2
  have H2 := Lib.hid (And.intro h3 (And.intro t3 hI2))
  clear h2 h3 t3 hA hW hI2
  go_wp2_with fail
  refine (alloc_any x T2 _ _ 6 0 _ w2 H2.out.1 H2.out.2.2 1 0 3).mono ?_
  intro e w3 h2
  obtain ⟨T3, D3, rfl, h3, t3, hA, hW⟩ := h2.fresh (by decide) 1 (by rw [f3, f4]; exact two4_cls3) (by omega) rfl (by rw [f4]; simp only [two4]; omega)
  have hI2 := alloc_inv H2.out.2.2 H2.out.1.good hA hW (by omega) (sb_pw (by decide)) (fun i _ => by unfold put1; split <;> simp [none4, Rows.all, Rows.grow, Rows.alloc])
  have e4 : (6 : Int) + x.sz 1 + 3 = 13 := by rw [f4]; rfl
  rw [e4] at h3 hI2
  have H3 := Lib.hid (And.intro h3 (And.intro (H2.out.2.1.trans t3) hI2))
  clear h2 h3 t3 hA hW hI2
  go_wp2_with fail
  refine (alloc_any x T3 _ _ 13 0 _ w3 H3.out.1 H3.out.2.2 1 0 2).mono ?_
  intro e w4 h2
  obtain ⟨T4, D4, rfl, h3, t3, hA, hW⟩ := h2.fresh (by decide) 0 (by rw [f3, f4]; exact two4_cls2) (by omega) rfl (by rw [f4]; simp only [two4, if_true]; omega)
  have H4 := Lib.hid (And.intro h3 (H3.out.2.1.trans t3))
  clear h2 h3 t3 hA hW
  go_wp2_with fail
  refine (round_any x T4 _ _ _ 0 _ w4 H4.out.1 3 ⟨by omega, by omega⟩ 1 (by rw [f3, f4]; exact two4_cls3) (fun _ => by rw [f4]; exact two4_sz 1 (by omega))).mono ?_
  rintro e w5 ⟨rfl, hb5⟩
  have e4 : (if 1 < x.k then x.sz 1 + 3 else 3 + 3) = (7 : Int) := by rw [f3, f4]; rfl
  rw [e4]
  have H5 := Lib.hid (onB' (H1.out.2.1.trans ((H4.out.2.below (B := W0.heap.size) HT.out hz1).mono hx)) hb5)
  clear hb5
  go_wp2_with fail
  go_ret
  exact ⟨rfl, H5.out⟩

end Go.Proofs.Ythcgmfcibjinlaa

/- The program's Unpack of a word that is one. (Out of stage 4's CeD.) -/
namespace Go.Proofs.Ythcgmfcibjinlaa.Ce
open Go.RowKit

theorem pe_word {n : Int} (h : Word n) : pe (kb n) (sb n) (ab n) (mb n) = 0 := pe_ok (word_fit n h)
theorem pw_word {n : Int} (h : Word n) : pw (kb n) (sb n) (ab n) (mb n) = n := (pw_ok (word_fit n h)).trans (jn_word n h)

set_option maxHeartbeats 1000000 in
set_option maxRecDepth 100000 in
theorem unpack_word (n : Int) (w : World) (hn : InR n) (h : Word n) :
    Calls Try.prog 67 #[.int .i64 n] w fun e w' => e = .returned (.tuple #[.agg #[.int .i64 (kb n), .int .i64 (sb n), .int .i64 (ab n), .int .i64 (mb n)], .int .i64 0]) ∧ Below w.heap.size w w' := by
  have HN := Lib.hid hn
  have HP : Hid (∀ W : World, Calls Try.prog 57 #[.agg #[.int .i64 (kb n), .int .i64 (sb n), .int .i64 (ab n), .int .i64 (mb n)]] W fun e w' => e = .returned (.tuple #[.int .i64 n, .int .i64 0]) ∧ Below W.heap.size W w') := Lib.hid fun W => by
    have hp := pack_any (kb n) (sb n) (ab n) (mb n) W
    rw [pe_word h, pw_word h] at hp
    exact hp
  clear h
  clear hn
  have hB := (Below.refl w.heap.size w).alloc (Nat.le_refl _) (.cells #[.int .i64 0, .int .i64 0, .int .i64 0, .int .i64 0] 69)
  have hX := box_new w (.int .i64 0) (.int .i64 0) (.int .i64 0) (.int .i64 0) 69
  go_enter Try.func67, Try.ntmps67
  go_wp2_with fail
  generalize w.alloc (.cells #[.int .i64 0, .int .i64 0, .int .i64 0, .int .i64 0] 69) = W0 at hB hX ⊢
  refine (split_any n _ HN.out).mono ?_
  rintro e x1 ⟨rfl, hb⟩
  replace hB := onB hB hb
  replace hX := hX.later hb
  clear hb
  go_wp2_with fail
  have hY := box_new x1 (.int .i64 (kb n)) (.int .i64 (sb n)) (.int .i64 (ab n)) (.int .i64 (mb n)) 69
  have hbx := (Below.refl x1.heap.size x1).alloc (Nat.le_refl _) (.cells #[.int .i64 (kb n), .int .i64 (sb n), .int .i64 (ab n), .int .i64 (mb n)] 69)
  replace hB := onB hB hbx
  replace hX := hX.later hbx
  clear hbx
  refine (HP.out _).mono ?_
  rintro e x2 ⟨rfl, hb⟩
  replace hB := onB hB hb
  replace hX := hX.later hb
  replace hY := hY.later hb
  clear hb HP
  obtain ⟨c0, c1, c2, c3, f0, f1, f2, f3, hl⟩ := hX
  obtain ⟨d0, d1, d2, d3, -, -, -, -, dl⟩ := hY
  go_wp2
  exact bodyPost_ret (v := .tuple #[.agg #[.int .i64 (kb n), .int .i64 (sb n), .int .i64 (ab n), .int .i64 (mb n)], .int .i64 0]) (by simp [results, Try.results67, go_sem, c0, c1, c2, c3]) rfl ⟨rfl, ((((hB.setCell (Nat.le_refl _) _).setCell (Nat.le_refl _) _).setCell (Nat.le_refl _) _).setCell (Nat.le_refl _) _)⟩


end Go.Proofs.Ythcgmfcibjinlaa.Ce

/- An object's word; its words; what it becomes. -/
namespace Go.Proofs.Ythcgmfcibjinlaa
open Go.RowKit

/-- What an object is, by its first word. -/
structure Head (D : Nat → Int) (at' k s a m : Int) : Prop where
  fit : Ce.Fit k s a m
  word : D at'.toNat = Ce.jn k s a m

/-- It lies on. -/
def Stays (x : HSpot) (T : Nat → Nat) (D : Nat → Int) (R : Nat → Rows) (top par : Int) (L : List (Int × Int)) (w w' : World) : Prop := HLies x T D R top par L w' ∧ HTurn T T w w'

theorem Apart.setFresh {p d : Nat} {w W : World} {a : Addr} (h : Apart p d w W) (ha : w.heap.size ≤ a.block) (v : Value) : Apart p d w (W.setCell a v) :=
  ⟨h.os, h.tape, h.output, by simpa [World.setCell] using h.size, fun k hk h1 h2 => (Below.heap_setCell _ _ _ _ (by omega)).trans (h.block k hk h1 h2)⟩
theorem At.setFresh {w W : World} {p d n : Nat} {D : Nat → Int} {u : Int} {a : Addr} (h : At W p d n D u) (h1 : p < w.heap.size) (h2 : d < w.heap.size) (ha : w.heap.size ≤ a.block) (v : Value) : At (W.setCell a v) p d n D u :=
  h.move (Below.heap_setCell _ _ _ _ (by omega)) (Below.heap_setCell _ _ _ _ (by omega)) (by simp [World.setCell])

def CellSaid (x : HSpot) (T : Nat → Nat) (D : Nat → Int) (R : Nat → Rows) (top par : Int) (L : List (Int × Int)) (k s a m : Int) (w : World) (e : Ending) (w' : World) : Prop :=
  e = .returned (.tuple #[.agg #[.int .i64 k, .int .i64 s, .int .i64 a, .int .i64 m], .int .i64 0]) ∧ Stays x T D R top par L w w'

set_option maxHeartbeats 4000000 in
set_option maxRecDepth 100000 in
theorem cell_any (x : HSpot) (T : Nat → Nat) (D : Nat → Int) (R : Nat → Rows) (top par : Int) (L : List (Int × Int)) (w : World) (h : HLies x T D R top par L w) (at' k s a m : Int) (h1 : 1 ≤ at') (h2 : at' < x.n) (hd : Head D at' k s a m) :
    Calls Try.prog 30 #[.pointer (some ⟨x.h, 0, none⟩), .int .i64 at'] w (CellSaid x T D R top par L k s a m w) := by
  have hx := (Below.refl w.heap.size w).alloc (Nat.le_refl _) (.cells #[.int .i64 0, .int .i64 0, .int .i64 0, .int .i64 0] 69)
  have hX := Ce.box_new w (.int .i64 0) (.int .i64 0) (.int .i64 0) (.int .i64 0) 69
  have hz : (w.alloc (.cells #[.int .i64 0, .int .i64 0, .int .i64 0, .int .i64 0] 69)).heap.size = w.heap.size + 1 := by simp
  have hl := h.lh
  obtain ⟨u, hA⟩ := h.at
  have lp := hA.lp
  have ld := hA.ld
  have c0 := later' hx h.arena
  have H := Lib.hid h
  have HX := Lib.hid (And.intro hx (hA.later hx))
  have hu : ∀ W : World, Calls Try.prog 67 #[.int .i64 (D at'.toNat)] W fun e w' => e = .returned (.tuple #[.agg #[.int .i64 k, .int .i64 s, .int .i64 a, .int .i64 m], .int .i64 0]) ∧ Below W.heap.size W w' := fun W => by
    have hr := Ce.jn_range hd.fit
    obtain ⟨e1, e2, e3, e4⟩ := Ce.parts_of hd.fit rfl
    have := Ce.unpack_word (Ce.jn k s a m) W (by unfold Ce.InR; omega) (Ce.word_jn hd.fit)
    rw [e1, e2, e3, e4] at this
    rw [hd.word]
    exact this
  have HU := Lib.hid hu
  clear h hx hA hu hd
  go_enter Try.func30, Try.ntmps30
  go_upto_region 1 with fail
  generalize (w.alloc (.cells #[.int .i64 0, .int .i64 0, .int .i64 0, .int .i64 0] 69)) = W at *
  go_wp2_with fail
  refine (load_in x.p x.d x.n D u at' W HX.out.2 (by omega) h2).mono ?_
  rintro e w2 ⟨rfl, hA2, hq2⟩
  have hX2 : Ce.Box w2 w.heap.size (.int .i64 0) (.int .i64 0) (.int .i64 0) (.int .i64 0) := by
    have hb : w2.heap[w.heap.size]? = W.heap[w.heap.size]? := hq2.block _ hX.lt (by omega) (by omega)
    have o : ∀ (j : Nat) (v : Value), W.cell? ⟨w.heap.size, j, none⟩ = some v → w2.cell? ⟨w.heap.size, j, none⟩ = some v := fun j v hv => (World.cell?_of_block (w := W) hb).trans hv
    have z : ∀ j, W.frozen? ⟨w.heap.size, j, none⟩ = false → w2.frozen? ⟨w.heap.size, j, none⟩ = false := fun j hv => (World.frozen?_of_block (w := W) hb).trans hv
    exact ⟨o _ _ hX.kind, o _ _ hX.size, o _ _ hX.aux, o _ _ hX.mark, z _ hX.f0, z _ hX.f1, z _ hX.f2, z _ hX.f3, Nat.lt_of_lt_of_le hX.lt hq2.size⟩
  have H2 := Lib.hid (And.intro hA2 ((Apart.of_below HX.out.1).trans hq2))
  generalize D at'.toNat = word at *
  clear hA2 hq2 hX c0 HX
  go_wp2_with fail
  refine (HU.out w2).mono ?_
  rintro e w3 ⟨rfl, hb⟩
  obtain ⟨c0, c1, c2, c3, z0, z1, z2, z3, hlt⟩ := hX2.later hb
  have H3 := Lib.hid (And.intro (H2.out.1.later hb) (H2.out.2.trans (Apart.of_below hb)))
  clear hb hX2 H2 HU
  go_wp2_with fail
  refine bodyPost_ret (v := .tuple #[.agg #[.int .i64 k, .int .i64 s, .int .i64 a, .int .i64 m], .int .i64 0]) (by simp [results, Try.results30, go_sem, c0, c1, c2, c3]) rfl ?_
  obtain ⟨hA3, hq3⟩ := H3.out
  refine ⟨rfl, H.out.words (((((hA3.setFresh (w := w) lp ld (Nat.le_refl _) _)).setFresh (w := w) lp ld (Nat.le_refl _) _).setFresh (w := w) lp ld (Nat.le_refl _) _).setFresh (w := w) lp ld (Nat.le_refl _) _) ((((hq3.setFresh (Nat.le_refl _) _).setFresh (Nat.le_refl _) _).setFresh (Nat.le_refl _) _).setFresh (Nat.le_refl _) _) (fun _ _ _ _ => rfl)⟩

def PlaceSaid (x : HSpot) (T : Nat → Nat) (D : Nat → Int) (R : Nat → Rows) (top par : Int) (L : List (Int × Int)) (v err : Int) (w : World) (e : Ending) (w' : World) : Prop :=
  e = .returned (.tuple #[.int .i64 v, .int .i64 err]) ∧ Stays x T D R top par L w w'

set_option maxHeartbeats 4000000 in
set_option maxRecDepth 100000 in
theorem place_in (x : HSpot) (T : Nat → Nat) (D : Nat → Int) (R : Nat → Rows) (top par : Int) (L : List (Int × Int)) (w : World) (h : HLies x T D R top par L w) (at' k s a m : Int) (h1 : 1 ≤ at') (h2 : at' < x.n) (hn : x.n ≤ 65536) (hd : Head D at' k s a m) (j : Int) (hj : 0 ≤ j ∧ j < s) :
    Calls Try.prog 60 #[.pointer (some ⟨x.h, 0, none⟩), .int .i64 at', .int .i64 j] w (PlaceSaid x T D R top par L (at' + 3 + j) 0 w) := by
  have H1 := Lib.hid (cell_any x T D R top par L w h at' k s a m h1 h2 hd)
  have hs := hd.fit.2.1
  have e1 : IntKind.i64.wrap (at' + 3) = at' + 3 := by rw [IntKind.wrap_i64]; omega
  have e2 : IntKind.i64.wrap (at' + 3 + j) = at' + 3 + j := by rw [IntKind.wrap_i64]; omega
  have g1' : decide (j < 0) = false := decide_eq_false (by omega)
  have g2' : decide (s ≤ j) = false := decide_eq_false (by omega)
  clear h hd
  go_enter Try.func60, Try.ntmps60
  go_wp2_with fail
  refine H1.out.mono ?_
  rintro e w2 ⟨rfl, hS⟩
  have hx := (Below.refl w2.heap.size w2).alloc (Nat.le_refl _) (.cells #[.int .i64 k, .int .i64 s, .int .i64 a, .int .i64 m] 69)
  have b1 : (w2.alloc (.cells #[.int .i64 k, .int .i64 s, .int .i64 a, .int .i64 m] 69)).cell? ⟨w2.heap.size, 1, none⟩ = some (.int .i64 s) := by simp [go_sem]
  have HS := Lib.hid (show Stays x T D R top par L w (w2.alloc (.cells #[.int .i64 k, .int .i64 s, .int .i64 a, .int .i64 m] 69)) from ⟨hS.1.later hx, hS.2.trans (HTurn.of_below hx)⟩)
  clear hS hx H1
  go_upto_region 4 with fail
  generalize (w2.alloc (.cells #[.int .i64 k, .int .i64 s, .int .i64 a, .int .i64 m] 69)) = W at *
  go_wp2_with fail
  refine bodyPost_ret (v := .tuple #[.int .i64 (at' + 3 + j), .int .i64 0]) (by simp [results, Try.results60, go_sem]) rfl ?_
  exact ⟨rfl, HS.out⟩

set_option maxHeartbeats 4000000 in
set_option maxRecDepth 100000 in
theorem place_out (x : HSpot) (T : Nat → Nat) (D : Nat → Int) (R : Nat → Rows) (top par : Int) (L : List (Int × Int)) (w : World) (h : HLies x T D R top par L w) (at' k s a m : Int) (h1 : 1 ≤ at') (h2 : at' < x.n) (hd : Head D at' k s a m) (j : Int) (hj : ¬ (0 ≤ j ∧ j < s)) :
    Calls Try.prog 60 #[.pointer (some ⟨x.h, 0, none⟩), .int .i64 at', .int .i64 j] w (PlaceSaid x T D R top par L 0 1 w) := by
  have H1 := Lib.hid (cell_any x T D R top par L w h at' k s a m h1 h2 hd)
  clear h hd
  go_enter Try.func60, Try.ntmps60
  go_wp2_with fail
  refine H1.out.mono ?_
  rintro e w2 ⟨rfl, hS⟩
  have hx := (Below.refl w2.heap.size w2).alloc (Nat.le_refl _) (.cells #[.int .i64 k, .int .i64 s, .int .i64 a, .int .i64 m] 69)
  have b1 : (w2.alloc (.cells #[.int .i64 k, .int .i64 s, .int .i64 a, .int .i64 m] 69)).cell? ⟨w2.heap.size, 1, none⟩ = some (.int .i64 s) := by simp [go_sem]
  have HS := Lib.hid (show Stays x T D R top par L w (w2.alloc (.cells #[.int .i64 k, .int .i64 s, .int .i64 a, .int .i64 m] 69)) from ⟨hS.1.later hx, hS.2.trans (HTurn.of_below hx)⟩)
  clear hS hx H1
  go_upto_region 4 with fail
  generalize (w2.alloc (.cells #[.int .i64 k, .int .i64 s, .int .i64 a, .int .i64 m] 69)) = W at *
  by_cases g1 : j < 0
  · have g1' : decide (j < 0) = true := decide_eq_true g1
    go_wp2_with fail
    refine bodyPost_ret (v := .tuple #[.int .i64 0, .int .i64 1]) (by simp [results, Try.results60, go_sem]) rfl ?_
    exact ⟨rfl, HS.out⟩
  · have g1' : decide (j < 0) = false := decide_eq_false g1
    have g2' : decide (s ≤ j) = true := decide_eq_true (by omega)
    go_wp2_with fail
    refine bodyPost_ret (v := .tuple #[.int .i64 0, .int .i64 1]) (by simp [results, Try.results60, go_sem]) rfl ?_
    exact ⟨rfl, HS.out⟩

theorem Stays.trans {x : HSpot} {T : Nat → Nat} {D D' : Nat → Int} {R R' : Nat → Rows} {top par top' par' : Int} {L L' : List (Int × Int)} {a b c : World} (h : Stays x T D R top par L a b) (k : Stays x T D' R' top' par' L' b c) : Stays x T D' R' top' par' L' a c := ⟨k.1, h.2.trans k.2⟩

set_option maxHeartbeats 1000000 in
set_option maxRecDepth 100000 in
theorem get_in (x : HSpot) (T : Nat → Nat) (D : Nat → Int) (R : Nat → Rows) (top par : Int) (L : List (Int × Int)) (w : World) (h : HLies x T D R top par L w) (at' k s a m : Int) (h1 : 1 ≤ at') (h2 : at' + s + 3 ≤ x.n) (hn : x.n ≤ 65536) (hd : Head D at' k s a m) (j : Int) (hj : 0 ≤ j ∧ j < s) :
    Calls Try.prog 32 #[.pointer (some ⟨x.h, 0, none⟩), .int .i64 at', .int .i64 j] w (PlaceSaid x T D R top par L (D (at' + 3 + j).toNat) 0 w) := by
  have H1 := Lib.hid (place_in x T D R top par L w h at' k s a m h1 (by omega) hn hd j hj)
  have hload : ∀ W u, At W x.p x.d x.n D u → _ := fun W u hA => load_in x.p x.d x.n D u (at' + 3 + j) W hA (by omega) (by omega)
  have HLD := Lib.hid hload
  clear h hd hload
  generalize D (at' + 3 + j).toNat = v at *
  go_enter Try.func32, Try.ntmps32
  go_wp2_with fail
  refine H1.out.mono ?_
  rintro e w2 ⟨rfl, hS⟩
  obtain ⟨u, hu⟩ := hS.1.at
  have c0 := hS.1.arena
  have HU := Lib.hid (And.intro hu hS)
  clear hu hS H1
  go_wp2_with fail
  refine (HLD.out w2 u HU.out.1).mono ?_
  rintro e w3 ⟨rfl, hA, hq⟩
  have HE := Lib.hid (show Stays x T D R top par L w w3 from HU.out.2.trans (HU.out.2.1.words hA hq (fun _ _ _ _ => rfl)))
  clear hA hq c0
  go_wp2_with fail
  refine bodyPost_ret (v := .tuple #[.int .i64 v, .int .i64 0]) (by simp [results, Try.results32, go_sem]) rfl ?_
  exact ⟨rfl, HE.out⟩

/-- A word is set. -/
def putW (D : Nat → Int) (i v : Int) : Nat → Int := fun m => if m = i.toNat then v else D m
def SetSaid (x : HSpot) (T : Nat → Nat) (D : Nat → Int) (R : Nat → Rows) (top par : Int) (L : List (Int × Int)) (err : Int) (w : World) (e : Ending) (w' : World) : Prop :=
  e = .returned (.int .i64 err) ∧ Stays x T D R top par L w w'

set_option maxHeartbeats 1000000 in
set_option maxRecDepth 100000 in
theorem set_in (x : HSpot) (T : Nat → Nat) (D : Nat → Int) (R : Nat → Rows) (top par : Int) (L : List (Int × Int)) (w : World) (h : HLies x T D R top par L w) (at' k s a m : Int) (h1 : 1 ≤ at') (h2 : at' + s + 3 ≤ x.n) (hn : x.n ≤ 65536) (hd : Head D at' k s a m) (j v : Int) (hj : 0 ≤ j ∧ j < s) (hl : ∀ i, i ≤ x.k → ∀ q, Links (R i) q → (q : Int) ≠ at' + 3 + j) :
    Calls Try.prog 22 #[.pointer (some ⟨x.h, 0, none⟩), .int .i64 at', .int .i64 j, .int .i64 v] w (SetSaid x T (putW D (at' + 3 + j) v) R top par L 0 w) := by
  have hs := hd.fit.2.1
  have H1 := Lib.hid (place_in x T D R top par L w h at' k s a m h1 (by omega) hn hd j hj)
  have HL := Lib.hid hl
  clear h hd hl
  go_enter Try.func22, Try.ntmps22
  go_wp2_with fail
  refine H1.out.mono ?_
  rintro e w2 ⟨rfl, hS⟩
  obtain ⟨u, hu⟩ := hS.1.at
  have c0 := hS.1.arena
  have HU := Lib.hid (And.intro hu hS)
  clear hu hS H1
  go_wp2_with fail
  refine (store_in x.p x.d x.n D u (at' + 3 + j) v w2 HU.out.1 (by omega) (by omega)).mono ?_
  rintro e w3 ⟨rfl, hA, hq⟩
  have HE := Lib.hid (show Stays x T (putW D (at' + 3 + j) v) R top par L w w3 from HU.out.2.trans (HU.out.2.1.words hA hq (fun i hi q hq => if_neg (by have := HL.out i hi q hq; omega))))
  clear hA hq c0
  go_wp2_with fail
  go_ret
  exact ⟨rfl, HE.out⟩

set_option maxHeartbeats 1000000 in
set_option maxRecDepth 100000 in
theorem set_out (x : HSpot) (T : Nat → Nat) (D : Nat → Int) (R : Nat → Rows) (top par : Int) (L : List (Int × Int)) (w : World) (h : HLies x T D R top par L w) (at' k s a m : Int) (h1 : 1 ≤ at') (h2 : at' < x.n) (hd : Head D at' k s a m) (j v : Int) (hj : ¬ (0 ≤ j ∧ j < s)) :
    Calls Try.prog 22 #[.pointer (some ⟨x.h, 0, none⟩), .int .i64 at', .int .i64 j, .int .i64 v] w (SetSaid x T D R top par L 1 w) := by
  have H1 := Lib.hid (place_out x T D R top par L w h at' k s a m h1 h2 hd j hj)
  clear h hd
  go_enter Try.func22, Try.ntmps22
  go_wp2_with fail
  refine H1.out.mono ?_
  rintro e w2 ⟨rfl, hS⟩
  have HE := Lib.hid hS
  clear hS H1
  go_wp2_with fail
  go_ret
  exact ⟨rfl, HE.out⟩

set_option maxHeartbeats 1000000 in
set_option maxRecDepth 100000 in
theorem turn_any (x : HSpot) (T : Nat → Nat) (D : Nat → Int) (R : Nat → Rows) (top par : Int) (L : List (Int × Int)) (w : World) (h : HLies x T D R top par L w) (at' k s a m : Int) (h1 : 1 ≤ at') (h2 : at' < x.n) (hp : Ce.pe k s a m = 0) (hl : ∀ i, i ≤ x.k → ∀ q, Links (R i) q → (q : Int) ≠ at') :
    Calls Try.prog 64 #[.pointer (some ⟨x.h, 0, none⟩), .int .i64 at', .agg #[.int .i64 k, .int .i64 s, .int .i64 a, .int .i64 m]] w (SetSaid x T (putW D at' (Ce.pw k s a m)) R top par L 0 w) := by
  have HP := Lib.hid (fun w => Ce.pack_any k s a m w)
  have H := Lib.hid h
  have HL := Lib.hid hl
  clear h hl
  generalize Ce.pe k s a m = pe at *
  generalize Ce.pw k s a m = pw at *
  subst hp
  go_enter Try.func64, Try.ntmps64
  go_wp2_with fail
  have hx := (Below.refl w.heap.size w).alloc (Nat.le_refl _) (.cells #[.int .i64 k, .int .i64 s, .int .i64 a, .int .i64 m] 69)
  refine (HP.out _).mono ?_
  rintro e w2 ⟨rfl, hb0⟩
  have hb := onB' hx hb0
  have hS : Stays x T D R top par L w w2 := ⟨H.out.later hb, HTurn.of_below hb⟩
  clear hx hb0
  obtain ⟨u, hu⟩ := hS.1.at
  have c0 := hS.1.arena
  have HU := Lib.hid (And.intro hu hS)
  clear hb hu hS HP
  go_wp2_with fail
  refine (store_in x.p x.d x.n D u at' pw w2 HU.out.1 (by omega) h2).mono ?_
  rintro e w3 ⟨rfl, hA, hq⟩
  have HE := Lib.hid (show Stays x T (putW D at' pw) R top par L w w3 from HU.out.2.trans (HU.out.2.1.words hA hq (fun i hi q hq => if_neg (by have := HL.out i hi q hq; omega))))
  clear hA hq c0
  go_wp2_with fail
  go_ret
  exact ⟨rfl, HE.out⟩

set_option maxHeartbeats 1000000 in
set_option maxRecDepth 100000 in
theorem become_any (x : HSpot) (T : Nat → Nat) (D : Nat → Int) (R : Nat → Rows) (top par : Int) (L : List (Int × Int)) (w : World) (h : HLies x T D R top par L w) (at' k s a m : Int) (h1 : 1 ≤ at') (h2 : at' < x.n) (hd : Head D at' k s a m) (k' a' : Int) (hp : Ce.pe k' s a' m = 0) (hl : ∀ i, i ≤ x.k → ∀ q, Links (R i) q → (q : Int) ≠ at') :
    Calls Try.prog 34 #[.pointer (some ⟨x.h, 0, none⟩), .int .i64 at', .int .i64 k', .int .i64 a'] w (SetSaid x T (putW D at' (Ce.pw k' s a' m)) R top par L 0 w) := by
  have H1 := Lib.hid (cell_any x T D R top par L w h at' k s a m h1 h2 hd)
  have HT := Lib.hid (fun W hW => turn_any x T D R top par L W hW at' k' s a' m h1 h2 hp hl)
  clear h hd hl
  go_enter Try.func34, Try.ntmps34
  go_wp2_with fail
  refine H1.out.mono ?_
  rintro e w2 ⟨rfl, hS⟩
  have HS := Lib.hid hS
  clear hS H1
  go_wp2_with fail
  have hx := (Below.refl w2.heap.size w2).alloc (Nat.le_refl _) (.cells #[.int .i64 k', .int .i64 s, .int .i64 a', .int .i64 m] 69)
  have HX := Lib.hid (show Stays x T D R top par L w (w2.alloc (.cells #[.int .i64 k', .int .i64 s, .int .i64 a', .int .i64 m] 69)) from ⟨HS.out.1.later hx, HS.out.2.trans (HTurn.of_below hx)⟩)
  generalize (w2.alloc (.cells #[.int .i64 k', .int .i64 s, .int .i64 a', .int .i64 m] 69)) = W at *
  clear hx HS
  refine (HT.out W HX.out.1).mono ?_
  rintro e w3 ⟨rfl, hS⟩
  have HE := Lib.hid (HX.out.trans hS)
  clear hS HT
  generalize putW D at' (Ce.pw k' s a' m) = D' at *
  go_wp2_with fail
  go_ret
  exact ⟨rfl, HE.out⟩

end Go.Proofs.Ythcgmfcibjinlaa

/- Objects apart: their words, other ones' words, links. -/
namespace Go.Proofs.Ythcgmfcibjinlaa
open Go.RowKit

/-- Where an object of a size lies: no link is a word of it, but its own two. -/
structure Obj1 (x : HSpot) (R : Nat → Rows) (c s : Int) : Prop where
  one : 1 ≤ c
  le : c + s + 3 ≤ x.n
  links : ∀ i, i ≤ x.k → ∀ q, Links (R i) q → (q : Int) < c ∨ (q : Int) = c + 1 ∨ (q : Int) = c + 2 ∨ c + s + 3 ≤ q
theorem Obj1.word {x : HSpot} {R : Nat → Rows} {c s : Int} (h : Obj1 x R c s) (hs : 0 ≤ s) : ∀ i, i ≤ x.k → ∀ q, Links (R i) q → (q : Int) ≠ c := fun i hi q hq => by
  have := h.links i hi q hq
  omega
theorem Obj1.words {x : HSpot} {R : Nat → Rows} {c s : Int} (h : Obj1 x R c s) {j : Int} (hj : 0 ≤ j ∧ j < s) : ∀ i, i ≤ x.k → ∀ q, Links (R i) q → (q : Int) ≠ c + 3 + j := fun i hi q hq => by
  have := h.links i hi q hq
  omega

theorem HInv.obj {x : HSpot} {D : Nat → Int} {R : Nat → Rows} {top : Int} {L : List (Int × Int)} (h : HInv x D R top L) {i : Nat} (hi : i ≤ x.k) {c s : Int} (hc : c ∈ (R i).all) (hw : s + 3 ≤ wid x D i c) : Obj1 x R c s := by
  refine ⟨h.one i hi c hc, ?_, fun i' hi' q hq => ?_⟩
  · by_cases g : i < x.k
    · have h1 := h.cell i g c hc
      have h2 : wid x D i c = x.sz i + 3 := by unfold wid; rw [if_pos g]
      have := h.t1
      have := h.ln
      omega
    · obtain rfl : i = x.k := by omega
      have := (h.big c hc).2.1
      omega
  · obtain ⟨b, hb, hq⟩ := hq
    by_cases e : i' = i ∧ b = c
    · omega
    · have h1 := h.apart i' hi' i hi b hb c hc (fun e1 e2 => e ⟨e1, e2⟩)
      have h2 := wid_three h i' b
      omega
/-- A new object's cell is none of those that others have. -/
theorem AllocP.ne {x : HSpot} {D : Nat → Int} {R : Nat → Rows} {top : Int} {L : List (Int × Int)} {size at' : Int} {R' : Nat → Rows} {top' : Int} {M : List (Int × Int)} (h : AllocP x R top L size at' R' top' M) (hI : HInv x D R top L) (hG : Ex.Good x.lim (x.lim + (x.n - x.lim : Int)) L) (hs : 0 ≤ size) {i : Nat} (hi : i ≤ x.k) (hnd : (R i).all.Nodup)
    {c : Int} (hc : c ∈ (R i).all) (hw : c ∉ (R i).white) : c ≠ at' := by
  have t1 := hI.t1
  cases h with
  | white j hC hj l hwj hR ht hM =>
    have hm : at' ∈ (R j).white := by rw [hwj]; exact List.mem_cons_self ..
    intro e
    by_cases ej : i = j
    · subst ej
      exact hw (e ▸ hm)
    · have h1 := hI.far i hi j (by omega) ej c hc at' (List.mem_append_left _ hm)
      omega
  | fresh j hC hj hwj hr ha hR ht hM =>
    intro e
    by_cases ek : i = x.k
    · subst ek
      have := (hI.big c hc).1
      have := hI.sz j hj
      omega
    · have := hI.cell i (by omega) c hc
      have := hI.sz i (by omega)
      omega
  | big hC he ha hR ht hM =>
    obtain ⟨s1, s2, s3⟩ := spot_cov hG (by omega) he
    rw [← ha] at s1 s2 s3
    intro e
    by_cases ek : i = x.k
    · subst ek
      exact (hI.big c hc).2.2 c (Int.le_refl _) (by have := wid_three hI x.k c; omega) (s3 c (by omega) (by omega))
    · have := hI.cell i (by omega) c hc
      have := hI.sz i (by omega)
      omega
theorem Cls.wid {x : HSpot} {D : Nat → Int} {size : Int} {i : Nat} {c : Int} (hC : Cls x.sz x.k size i) (h : i = x.k → Ce.sb (D c.toNat) = size) : size + 3 ≤ wid x D i c := by
  unfold Go.Proofs.Ythcgmfcibjinlaa.wid
  have := hC.le
  by_cases g : i < x.k
  · have := hC.fits g
    rw [if_pos g]
    omega
  · rw [if_neg g, h (by omega)]
    omega

theorem putW_other {D : Nat → Int} {i v : Int} {m : Nat} (h : m ≠ i.toNat) : putW D i v m = D m := if_neg h
theorem putW_same {D : Nat → Int} {i v : Int} : putW D i v i.toNat = v := if_pos rfl
theorem Head.other {D : Nat → Int} {c k s a m i v : Int} (h : Head D c k s a m) (hc : c.toNat ≠ i.toNat) : Head (putW D i v) c k s a m := ⟨h.fit, (putW_other hc).trans h.word⟩

/-- What is not there yet is nobody's. -/
def retag (T : Nat → Nat) (z : Nat) : Nat → Nat := fun b => if b < z then T b else 1000
theorem HLies.retag {x : HSpot} {T : Nat → Nat} {D : Nat → Int} {R : Nat → Rows} {top par : Int} {L : List (Int × Int)} {w : World} (h : HLies x T D R top par L w) :
    HLies x (Go.Proofs.Ythcgmfcibjinlaa.retag T w.heap.size) D R top par L w ∧ HTurn T (Go.Proofs.Ythcgmfcibjinlaa.retag T w.heap.size) w w := by
  obtain ⟨cb, cap, g, hT, hc, hcs, hR⟩ := h.rest
  obtain ⟨u, hu⟩ := h.at
  have t : ∀ b, b < w.heap.size → Go.Proofs.Ythcgmfcibjinlaa.retag T w.heap.size b = T b := fun b hb => if_pos hb
  have lcb : cb < w.heap.size := World.block_lt_of_cell? _ _ (hcs 0 (by have := h.k1; omega)).1
  exact ⟨⟨h.arena, h.large, h.room, h.top, h.lim, h.par, h.fz, h.rings, h.sp, h.k1, h.k6, cb, cap, g, ⟨(t _ h.lh).trans hT.h, (t _ lcb).trans hT.cb, (t _ hu.lp).trans hT.p, (t _ hu.ld).trans hT.d, (t _ hR.lp).trans hT.rp, (t _ hR.lg).trans hT.g, fun i hi b hb => (t _ ((h.rings i hi).under.2.2 b hb)).trans (hT.s i hi b hb)⟩, hc, hcs, hR⟩,
    rfl, rfl, rfl, Nat.le_refl _, fun b hb hb2 => ⟨(t b hb).trans hb2, rfl⟩⟩

end Go.Proofs.Ythcgmfcibjinlaa

/- All rings, one behind the other: the heap's iterator. -/
namespace Go.Proofs.Ythcgmfcibjinlaa
open Go.RowKit Go.Shelf

attribute [local go_sem] Oper.semAt_some

/-- What the iterator reads of a heap. -/
structure Seen (x : HSpot) (bx : Nat) (W : World) : Prop where
  box : W.cell? ⟨bx, 0, none⟩ = some (.pointer (some ⟨x.h, 0, none⟩))
  large : W.cell? ⟨x.h, 2, none⟩ = some (.pointer (some ⟨(x.S x.k).r, 0, none⟩))
  cls : ∃ cb cap, W.cell? ⟨x.h, 1, none⟩ = some (.slice (some ⟨cb, 0, none⟩) x.k cap) ∧ ∀ i, i < x.k → W.cell? ⟨cb, i * 2, none⟩ = some (.int .i64 (x.sz i)) ∧ W.cell? ⟨cb, i * 2 + 1, none⟩ = some (.pointer (some ⟨(x.S i).r, 0, none⟩))

set_option maxRecDepth 100000 in
set_option maxHeartbeats 4000000 in
theorem rings_each (n : Nat) (hn : 2 ≤ n) (l bx : Nat) (x : HSpot) (k6 : x.k ≤ 6) (J : Nat → World → Prop) (cb cap : Nat)
    (hJ : ∀ m W, J m W → W.cell? ⟨bx, 0, none⟩ = some (.pointer (some ⟨x.h, 0, none⟩)) ∧ W.cell? ⟨x.h, 2, none⟩ = some (.pointer (some ⟨(x.S x.k).r, 0, none⟩)) ∧ W.cell? ⟨x.h, 1, none⟩ = some (.slice (some ⟨cb, 0, none⟩) x.k cap) ∧
      ∀ i, i < x.k → W.cell? ⟨cb, i * 2, none⟩ = some (.int .i64 (x.sz i)) ∧ W.cell? ⟨cb, i * 2 + 1, none⟩ = some (.pointer (some ⟨(x.S i).r, 0, none⟩)))
    (hA : ∀ m W o, J m W → J m (W.alloc o))
    (hY : ∀ m W, J m W → m ≤ x.k → YieldAt Fence.wide (n - 1) Try.prog l #[.pointer (some ⟨(x.S m).r, 0, none⟩)] W fun e W' => e = .returned (.bool true) ∧ J (m + 1) W')
    (W : World) (h0 : J 0 W) :
    CallsIn Fence.wide n Try.prog 90 #[.func (.yield l) #[] #[], .pointer (some ⟨bx, 0, none⟩)] W fun e W' => (∃ v, e = .returned v) ∧ J (x.k + 1) W' := by
  obtain ⟨hb0, hl0, hc0, -⟩ := hJ _ _ h0
  have h1n : 1 ≤ n := by omega
  have HJ := Lib.hid hJ
  have HA := Lib.hid hA
  have HY := Lib.hid hY
  have H0 := Lib.hid h0
  clear hJ hA hY h0 hl0
  refine callsIn_of_wp Try.func90 rfl trivial ?_ rfl
  simp only [Try.ntmps90, List.size_toArray, List.length_cons, List.length_nil, Nat.reduceAdd, Nat.reduceSub, Array.replicate_succ, Array.replicate_zero, List.push_toArray, List.append_toArray, List.nil_append, List.cons_append]
  gi_wp2_with fail
  clear hb0 hc0
  gi_loopw [10] (fun s10 wr => ∃ m : Nat, m ≤ x.k ∧ s10 = .int .i64 m ∧ J m wr) (fun s10 _ => x.k - (intOf s10).toNat)
  case atStart => exact ⟨0, Nat.zero_le _, rfl, H0.out⟩
  case round =>
    obtain ⟨m, hm, rfl, hj⟩ := hrel
    have HJM := Lib.hid hj
    obtain ⟨b0, l0, c1, hcs⟩ := HJ.out _ _ hj
    clear hj
    by_cases hlt : m < x.k
    · have hlt' : (m : Int) < (x.k : Int) := by omega
      obtain ⟨d0, d1⟩ := hcs m hlt
      have hja := HA.out m wr (.cells #[.int .i64 (x.sz m), .pointer (some ⟨(x.S m).r, 0, none⟩)] 101) HJM.out
      obtain ⟨fn, tmps, assign, body, hyy, hRR⟩ := HY.out _ _ hja (by omega)
      clear hcs
      gi_wp2_with fail
      refine hRR.mono ?_
      rintro e W3 ⟨rfl, hj3⟩
      have HJ3 := Lib.hid hj3
      clear hRR hyy hj3 hja
      gi_wp2_with fail
      exact ⟨⟨m + 1, by omega, by go_num, HJ3.out⟩, by simp [intOf]; omega⟩
    · obtain rfl : m = x.k := by omega
      obtain ⟨fn, tmps, assign, body, hyy, hRR⟩ := HY.out _ _ HJM.out (Nat.le_refl _)
      clear hcs
      gi_wp2_with fail
      refine hRR.mono ?_
      rintro e W3 ⟨rfl, hj3⟩
      have HJ3 := Lib.hid hj3
      clear hRR hyy hj3
      gi_wp2_with fail
      go_end0
      exact ⟨⟨_, rfl⟩, HJ3.out⟩

set_option maxHeartbeats 1000000 in
set_option maxRecDepth 100000 in
theorem rings_any (h : Nat) (w : World) :
    Calls Try.prog 65 #[.pointer (some ⟨h, 0, none⟩)] w fun e w' => e = .returned (.func (.func 90) #[] #[.pointer (some ⟨w.heap.size, 0, none⟩)]) ∧ w' = w.alloc (.cells #[.pointer (some ⟨h, 0, none⟩)] 46) := by
  have hmf := mkfunc2
  go_enter Try.func65, Try.ntmps65
  go_wp2_with fail
  go_ret
  exact ⟨rfl, rfl⟩

/-- It lies on where the blocks that were there stand: all later ones are nobody's. -/
theorem HLies.others {x : HSpot} {T : Nat → Nat} {D : Nat → Int} {R : Nat → Rows} {top par : Int} {L : List (Int × Int)} {w w' : World} {z : Nat} (h : HLies x T D R top par L w) (hT : ∀ b, z ≤ b → T b = 1000) (hk : ∀ b, b < z → w'.heap[b]? = w.heap[b]?) (hs : w.heap.size ≤ w'.heap.size) : HLies x T D R top par L w' := by
  obtain ⟨u, hu⟩ := h.at
  obtain ⟨cb, cap, g, ht, -⟩ := h.rest
  have lt : ∀ b, T b ≠ 1000 → b < z := fun b hb => Nat.lt_of_not_le fun e => hb (hT b e)
  exact h.anew hs (fun b _ hb => hk b (lt b (by have := h.k6; omega))) ⟨u, hu.move (hk _ (lt _ (by rw [ht.p]; omega))) (hk _ (lt _ (by rw [ht.d]; omega))) hs⟩ (fun _ _ _ _ => rfl)

/-- Some rings have turned. -/
def mix (F : Rows → Rows) (R : Nat → Rows) (m : Nat) : Nat → Rows := fun j => if j < m then F (R j) else R j

/-- In the midst of each. -/
structure EachI (x : HSpot) (T : Nat → Nat) (D : Nat → Int) (R : Nat → Rows) (F : Rows → Rows) (top par : Int) (L : List (Int × Int)) (gf cb cap : Nat) (w : World) (m : Nat) (W : World) : Prop where
  lies : HLies x T D (mix F R m) top par L W
  b0 : W.cell? ⟨w.heap.size, 0, none⟩ = some (.func (.func gf) #[] #[])
  b1 : W.cell? ⟨w.heap.size + 1, 0, none⟩ = some (.pointer (some ⟨x.h, 0, none⟩))
  cl : W.cell? ⟨x.h, 1, none⟩ = some (.slice (some ⟨cb, 0, none⟩) x.k cap)
  turn : HTurn T T w W
  size : w.heap.size + 2 ≤ W.heap.size
theorem EachI.same {x : HSpot} {T : Nat → Nat} {D : Nat → Int} {R : Nat → Rows} {F : Rows → Rows} {top par : Int} {L : List (Int × Int)} {gf cb cap : Nat} {w W W' : World} {m : Nat} (h : EachI x T D R F top par L gf cb cap w m W) (hT : ∀ b, w.heap.size ≤ b → T b = 1000) (hk : ∀ b, b < w.heap.size + 2 → W'.heap[b]? = W.heap[b]?) (hs : W.heap.size ≤ W'.heap.size)
    (h1 : W'.os = W.os) (h2 : W'.tape = W.tape) (h3 : W'.output = W.output) : EachI x T D R F top par L gf cb cap w m W' :=
  ⟨h.lies.others hT (fun b hb => hk b (by omega)) hs, (World.cell?_of_block (w := W) (hk _ (by simp only; omega))).trans h.b0, (World.cell?_of_block (w := W) (hk _ (by simp only; omega))).trans h.b1,
    (World.cell?_of_block (w := W) (hk _ (by
      obtain ⟨_, _, _, ht, _⟩ := h.lies.rest
      have : x.h < w.heap.size := Nat.lt_of_not_le fun e => by have := hT _ e; rw [ht.h] at this; omega
      simp only; omega))).trans h.cl,
    ⟨h1.trans h.turn.os, h2.trans h.turn.tape, h3.trans h.turn.output, Nat.le_trans h.turn.size hs, fun b hb ht => ⟨ht, (hk b (by omega)).trans (h.turn.block b hb ht).2⟩⟩, Nat.le_trans h.size hs⟩

theorem EachI.seen {x : HSpot} {T : Nat → Nat} {D : Nat → Int} {R : Nat → Rows} {F : Rows → Rows} {top par : Int} {L : List (Int × Int)} {gf cb cap : Nat} {w W : World} {m : Nat} (h : EachI x T D R F top par L gf cb cap w m W) :
    ∀ i, i < x.k → W.cell? ⟨cb, i * 2, none⟩ = some (.int .i64 (x.sz i)) ∧ W.cell? ⟨cb, i * 2 + 1, none⟩ = some (.pointer (some ⟨(x.S i).r, 0, none⟩)) := by
  obtain ⟨cb', cap', g, -, hc, hcs, -⟩ := h.lies.rest
  have e := hc.symm.trans h.cl
  simp only [Option.some.injEq, Value.slice.injEq, Addr.mk.injEq, and_true, true_and] at e
  obtain ⟨rfl, _⟩ := e
  exact hcs
theorem keeps_turn {s : Spot} {R : Rows} {D : Nat → Int} {W W' : World} (h : RingD s R D W) (ht : Turn s W W') (hn : 0 < s.n) : KeepsOthers W W' := by
  obtain ⟨C, F, hL, -⟩ := h
  obtain ⟨u, hA⟩ := hL.words
  refine ⟨ht.size, fun k o hk ho => ?_⟩
  have no : ∀ b j v, W.cell? ⟨b, j, none⟩ = some v → k ≠ b := fun b j v hv e => by
    obtain ⟨o', h1, h2⟩ := cells_of_cell hv
    subst e
    rw [hk] at h1
    cases h1
    rw [ho] at h2
    cases h2
  refine (ht.block k (Array.getElem?_eq_some_iff.1 hk).1 (no _ _ _ hL.arena) (no _ _ _ hA.words) ?_).trans hk
  exact no _ _ _ (hA.data 0 hn)
theorem EachI.step {x : HSpot} {T : Nat → Nat} {D : Nat → Int} {R : Nat → Rows} {F : Rows → Rows} {top par : Int} {L : List (Int × Int)} {gf cb cap : Nat} {w W W' : World} {m : Nat} (h : EachI x T D R F top par L gf cb cap w m W) (hm : m ≤ x.k) (hn : 0 < x.n) (hT : ∀ b, w.heap.size ≤ b → T b = 1000)
    (h0 : RingD (x.S m) (R m) D W) (hR : RingD (x.S m) (F (R m)) D W') (ht : Turn (x.S m) W W') : KeepsOthers W W' ∧ EachI x T D R F top par L gf cb cap w (m + 1) W' := by
  obtain ⟨h1, t1⟩ := h.lies.ring hm hR ht (fun _ _ _ _ _ => rfl)
  have e : (fun j => if j = m then F (R m) else mix F R m j) = mix F R (m + 1) := by
    funext j
    unfold mix
    by_cases g : j = m
    · subst g
      rw [if_pos rfl, if_pos (Nat.lt_succ_self _)]
    · rw [if_neg g]
      by_cases g2 : j < m
      · rw [if_pos g2, if_pos (by omega)]
      · rw [if_neg g2, if_neg (by omega)]
  rw [e] at h1
  obtain ⟨cb', cap', g, hTg, -⟩ := h.lies.rest
  have nb : ∀ b, T b = 1000 ∨ T b = 0 → b < W.heap.size → W'.heap[b]? = W.heap[b]? := fun b hb hl => by
    obtain ⟨e1, e2, e3⟩ := h.lies.sp m hm
    have k6 := h.lies.k6
    refine ht.block b hl (fun e => ?_) (fun e => ?_) (fun e => ?_)
    · have := hTg.s m hm _ (Or.inl rfl)
      rw [e] at hb
      omega
    · rw [e1] at e
      have := hTg.p
      rw [e] at hb
      omega
    · rw [e2] at e
      have := hTg.d
      rw [e] at hb
      omega
  have sz := h.size
  exact ⟨keeps_turn h0 ht (by rw [(h.lies.sp m hm).2.2]; exact hn), h1, (World.cell?_of_block (w := W) (nb _ (Or.inl (hT _ (Nat.le_refl _))) (by simp only; omega))).trans h.b0, (World.cell?_of_block (w := W) (nb _ (Or.inl (hT _ (by simp only; omega))) (by simp only; omega))).trans h.b1,
    (World.cell?_of_block (w := W) (nb _ (Or.inr hTg.h) h.lies.lh)).trans h.cl, h.turn.trans t1, Nat.le_trans h.size ht.size⟩
theorem prefix_range {pre : List Nat} {y n : Nat} (h : pre ++ [y] <+: List.range n) : y = pre.length ∧ pre.length < n := by
  obtain ⟨t, ht⟩ := h
  have h1 := congrArg (fun l => l[pre.length]?) ht
  have h2 := congrArg List.length ht
  simp at h1 h2
  have hl : pre.length < n := by omega
  rw [List.getElem?_range hl] at h1
  exact ⟨by simpa using h1, hl⟩
theorem range_one {m k : Nat} (h : m ≤ k) : List.range m ++ [m] <+: List.range (k + 1) := by
  rw [← List.range_succ]
  have e : List.range (m + 1) = (List.range (k + 1)).take (m + 1) := by
    rw [List.take_range]
    congr 1
    omega
  rw [e]
  exact List.take_prefix _ _

set_option maxRecDepth 100000 in
set_option maxHeartbeats 8000000 in
theorem each_any (x : HSpot) (T : Nat → Nat) (D : Nat → Int) (R : Nat → Rows) (top par : Int) (L : List (Int × Int)) (w : World) (h : HLies x T D R top par L w) (hn : 0 < x.n) (gf : Nat) (F : Rows → Rows) (eg : ∀ args w, (callFunc gf args).run Try.prog w = .ok (.enter gf args) w)
    (hg : ∀ i, i ≤ x.k → ∀ W, RingD (x.S i) (R i) D W → Calls Try.prog gf #[.pointer (some ⟨(x.S i).r, 0, none⟩)] W fun e W' => e = .returned (.int .i64 0) ∧ (∃ D', RingD (x.S i) (F (R i)) D' W' ∧ D' = D) ∧ Turn (x.S i) W W') :
    Calls Try.prog 62 #[.pointer (some ⟨x.h, 0, none⟩), .func (.func gf) #[] #[]] w fun e w' => (∃ v, e = .returned v) ∧ ∃ T', HLies x T' D (mix F R (x.k + 1)) top par L w' ∧ HTurn T T' w w' := by
  have H := Lib.hid h
  have HG := Lib.hid hg
  clear h hg
  refine (callsIn_wide (n := 4)).1 ?_
  refine callsIn_of_wp_marks Try.func62 rfl trivial ?_ rfl
  simp only [Try.ntmps62, List.size_toArray, List.length_cons, List.length_nil, Nat.reduceAdd, Nat.reduceSub, Array.replicate_succ, Array.replicate_zero, List.push_toArray, List.append_toArray, List.nil_append, List.cons_append]
  gi_wp2_with fail
  refine ⟨trivial, ?_⟩
  refine (callsIn_wide.2 (rings_any x.h _)).mono ?_
  rintro e w' ⟨rfl, rfl⟩
  gi_wp2_with fail
  obtain ⟨cb, cap, g, hTg, hcl, -, -⟩ := H.out.rest
  have k6 := H.out.k6
  obtain ⟨h1, t1⟩ := H.out.retag
  have hT : ∀ b, w.heap.size ≤ b → retag T w.heap.size b = 1000 := fun b hb => if_neg (by omega)
  have hb0 : Below w.heap.size w ((w.alloc (.cells #[.func (.func gf) #[] #[]] 116)).alloc (.cells #[.pointer (some ⟨x.h, 0, none⟩)] 46)) := ((Below.refl _ _).alloc (Nat.le_refl _) _).alloc (by simp) _
  have hE0 : EachI x (retag T w.heap.size) D R F top par L gf cb cap w 0 ((w.alloc (.cells #[.func (.func gf) #[] #[]] 116)).alloc (.cells #[.pointer (some ⟨x.h, 0, none⟩)] 46)) :=
    ⟨h1.later hb0, by simp [go_sem], by simp [go_sem], later' hb0 hcl, HTurn.of_below hb0, by simp⟩
  have hs0 : ((w.alloc (.cells #[.func (.func gf) #[] #[]] 116)).alloc (.cells #[.pointer (some ⟨x.h, 0, none⟩)] 46)).heap.size = w.heap.size + 2 := by simp
  have HE0 := Lib.hid hE0
  have HT := Lib.hid (And.intro t1 hT)
  clear h1 t1 hT hb0 hE0 H hcl hTg g
  generalize ((w.alloc (.cells #[.func (.func gf) #[] #[]] 116)).alloc (.cells #[.pointer (some ⟨x.h, 0, none⟩)] 46)) = w0 at *
  generalize retag T w.heap.size = T1 at *
  refine range_by (gf := 90) (lb := #[.pointer (some ⟨w.heap.size + 1, 0, none⟩)]) rfl (enters_of Try.func90 (by kernel_rfl) rfl) (fun i : Nat => #[.pointer (some ⟨(x.S i).r, 0, none⟩)]) (fun _ => rfl) (List.range (x.k + 1)) (fun pre W => EachI x T1 D R F top par L gf cb cap w pre.length W) ?hput ?h0
    (fun i => { tmps := #[.pointer (some ⟨x.h, 0, none⟩), .func (.func gf) #[] #[], undef, .pointer (some ⟨w.heap.size, 0, none⟩), .pointer (some ⟨(x.S i).r, 0, none⟩), .pointer (some ⟨x.h, 0, none⟩), .func (.func 90) #[] #[.pointer (some ⟨w.heap.size + 1, 0, none⟩)], .pointer (some ⟨(x.S i).r, 0, none⟩), undef, undef, undef], defers := [] }) ?assign ?body ?iter ?done
  case hput =>
    intro pre W l o o' hm hl ho hoc
    exact hm.same HT.out.2 (fun b hb => World.putObj_heap_other (by omega)) (by simp) rfl rfl rfl
  case h0 =>
    intro o o'
    have hb := ((Below.refl w0.heap.size w0).alloc (Nat.le_refl _) o).alloc (by simp) o'
    exact HE0.out.same HT.out.2 (fun b hb' => hb.block b (by omega)) hb.size hb.os hb.tape hb.output
  case assign =>
    intro l y W K hK
    gi_wp2
    exact hK
  case body =>
    intro l pre y W hm hp
    obtain ⟨rfl, hlt⟩ := prefix_range hp
    have hlen : (pre ++ [pre.length]).length = pre.length + 1 := by simp
    rw [hlen]
    clear hp hlen
    generalize pre.length = m at *
    have hb := hm.b0
    have hr : RingD (x.S m) (R m) D W := by
      have := hm.lies.rings m (by omega)
      rwa [show mix F R m m = R m from if_neg (Nat.lt_irrefl _)] at this
    have HR := Lib.hid (HG.out m (by omega) W hr)
    have HM := Lib.hid (And.intro hm hr)
    clear hm hr
    gi_wp2_with fail
    refine ⟨trivial, (CallsIn.inRound l (callsIn_wide.2 HR.out)).mono ?_⟩
    rintro e W3 ⟨rfl, ⟨D3, h3, rfl⟩, ht⟩
    have HE := Lib.hid (And.intro h3 ht)
    clear h3 ht HR hb
    gi_wp2_with fail
    exact HM.out.1.step (by omega) hn HT.out.2 HM.out.2 HE.out.1 HE.out.2
  case iter =>
    intro r W1 hY h0 hB
    have hlen : (List.range (x.k + 1)).length = x.k + 1 := by simp
    rw [hlen]
    refine (rings_each 3 (by decide) (w0.heap.size + 1) (w.heap.size + 1) x k6 (fun m W => EachI x T1 D R F top par L gf cb cap w m W ∧ Book w0.heap.size r W) cb cap (fun m W h => ⟨h.1.b1, h.1.lies.large, h.1.cl, h.1.seen⟩) ?_ ?_ W1 ⟨h0, hB⟩).mono ?_
    · rintro m W o ⟨hm, hb⟩
      have hbl := (Below.refl W.heap.size W).alloc (Nat.le_refl _) o
      have hlt := hb.lt
      exact ⟨hm.same HT.out.2 (fun b hb' => hbl.block b (by have := hm.size; omega)) hbl.size hbl.os hbl.tape hbl.output, hb.kept (hbl.block _ (by omega)) (hbl.block _ (by omega))⟩
    · rintro m W ⟨hm, hb⟩ hmk
      obtain ⟨fn, tmps, assign, body, h1, h2⟩ := hY (List.range m) m W (by rw [List.length_range]; exact hm) hb (range_one hmk)
      refine ⟨fn, tmps, assign, body, h1, h2.mono ?_⟩
      rintro e W' ⟨rfl, h3, h4⟩
      have : (List.range m ++ [m]).length = m + 1 := by simp
      rw [this] at h3
      exact ⟨rfl, h3, h4⟩
    · rintro e W' ⟨h1, h2, h3⟩
      exact ⟨h1, h2, h3⟩
  case done =>
    intro D' W hD hm hK
    have hlen : (List.range (x.k + 1)).length = x.k + 1 := by simp
    rw [hlen] at hm
    have HM := Lib.hid hm
    clear hm
    gi_wp2
    refine ⟨by simp, .inl ⟨_, _, rfl, run_takeDeferred hK, ?_⟩⟩
    have hf := HM.out.same HT.out.2 (W' := W.putObj D' (.deferred none)) (fun b hb => World.putObj_heap_other (by omega)) (by simp) rfl rfl rfl
    have HF := Lib.hid (show HLies x T1 D (mix F R (x.k + 1)) top par L (W.putObj D' (.deferred none)) ∧ HTurn T T1 w (W.putObj D' (.deferred none)) from ⟨hf.lies, HT.out.1.trans hf.turn⟩)
    clear hf
    exact ⟨.tuple #[], by simp [results, Try.results62, go_sem], ⟨_, rfl⟩, T1, HF.out.1, HF.out.2⟩

end Go.Proofs.Ythcgmfcibjinlaa
