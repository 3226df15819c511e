/- What holds of the cells behind an Alloc. -/
import Derived.Test.YtbjlpmjalidfkaaHpI
namespace Go.Proofs.Ytbjlpmjalidfkaa
open Go.RowKit

theorem wid_class {x : HSpot} {D D' : Nat → Int} {i : Nat} (hi : i < x.k) (a : Int) : wid x D i a = wid x D' i a := by
  unfold wid
  rw [if_pos hi, if_pos hi]
theorem wid_same {x : HSpot} {D D' : Nat → Int} {i : Nat} {a : Int} (h : D' a.toNat = D a.toNat) : wid x D' i a = wid x D i a := by
  unfold wid
  rw [h]

theorem alloc_inv {x : HSpot} {D D' : Nat → Int} {R : Nat → Rows} {top : Int} {L : List (Int × Int)} {size at' word : Int} {R' : Nat → Rows} {top' : Int} {M : List (Int × Int)} (hI : HInv x D R top L) (hG : Ex.Good x.lim (x.lim + (x.n - x.lim : Int)) L)
    (hA : AllocP x R top L size at' R' top' M) (hW : Wrote x R' D D' at' size word) (hs : 0 ≤ size) (hsb : Ce.sb word = size) (hlen : ∀ i, i ≤ x.k → (R i).all.length < 999) : HInv x D' R' top' M := by
  obtain ⟨r1, r2, hcl⟩ := hA.room hI hG hs
  obtain ⟨i, hi, hC, hat, hne, hmem, hln⟩ := hA.cells
  have t0 := hI.t0
  have t1 := hI.t1
  have old : ∀ j, j ≤ x.k → ∀ a, a ∈ (R' j).all → (j = i ∧ a = at') ∨ a ∈ (R j).all := fun j hj a ha => by
    by_cases e : j = i
    · subst e
      rcases (hmem a).1 ha with h | h
      · exact Or.inl ⟨rfl, h⟩
      · exact Or.inr h
    · rw [hne j e] at ha
      exact Or.inr ha
  have new : ∀ j, j ≤ x.k → ∀ a, a ∈ (R j).all → a ∈ (R' j).all := fun j hj a ha => by
    by_cases e : j = i
    · subst e
      exact (hmem a).2 (Or.inr ha)
    · rw [hne j e]; exact ha
  -- headers of other cells stand
  have hdr : ∀ j, j ≤ x.k → ∀ a, a ∈ (R j).all → a ≠ at' → D' a.toNat = D a.toNat := fun j hj a ha hna => by
    have h1 := hI.one j hj a ha
    have h2 := hcl j hj a (new j hj a ha)
    refine hW.keep a.toNat (by omega) fun m hm => ?_
    rintro ⟨c, hc, hl⟩
    rcases old m hm c hc with ⟨_, e⟩ | hc'
    · omega
    · by_cases e : m = j ∧ c = a
      · omega
      · have h3 := hI.apart m hm j hj c hc' a ha (fun e1 e2 => e ⟨e1, e2⟩)
        have h4 := wid_three hI m c
        have h5 := wid_three hI j a
        omega
  have hw : ∀ j, j ≤ x.k → ∀ a, a ∈ (R j).all → (a ≠ at' ∨ j < x.k) → wid x D' j a = wid x D j a := fun j hj a ha h => by
    rcases h with h | h
    · exact wid_same (hdr j hj a ha h)
    · exact wid_class h a
  have hwk : wid x D' x.k at' = size + 3 := by
    unfold wid
    rw [if_neg (Nat.lt_irrefl _), hW.hd, hsb]
  have lens : ∀ j, j ≤ x.k → (R' j).all.length < 1000 := fun j hj => by
    have := hlen j hj
    by_cases e : j = i
    · subst e; omega
    · rw [hne j e]; omega
  have ones : ∀ j, j ≤ x.k → ∀ a, a ∈ (R' j).all → 1 ≤ a := fun j hj a ha => by
    rcases old j hj a ha with ⟨_, rfl⟩ | h
    · exact r1
    · exact hI.one j hj a h
  -- the new cell, and an old one
  have pair : (∀ j, j ≤ x.k → ∀ b, b ∈ (R j).all → (i = j → at' ≠ b) → at' + wid x D' i at' ≤ b ∨ b + wid x D' j b ≤ at') → ∀ i', i' ≤ x.k → ∀ j, j ≤ x.k → ∀ a, a ∈ (R' i').all → ∀ b, b ∈ (R' j).all → (i' = j → a ≠ b) → a + wid x D' i' a ≤ b ∨ b + wid x D' j b ≤ a := by
    intro hp i' hi' j hj a ha b hb hab
    rcases old i' hi' a ha with ⟨e1, e2⟩ | ha'
    · have hab' : i = j → at' ≠ b := fun e => by
        have := hab (e1.trans e)
        rwa [e2] at this
      rw [e1, e2]
      rcases old j hj b hb with ⟨e3, e4⟩ | hb'
      · exact absurd e4.symm (hab' e3.symm)
      · exact hp j hj b hb' hab'
    · rcases old j hj b hb with ⟨e3, e4⟩ | hb'
      · rw [e3, e4]
        exact (hp i' hi' a ha' (fun e e' => hab (e.symm.trans e3.symm) (e'.symm.trans e4.symm))).symm
      · by_cases q1 : a = at' ∧ i' = i
        · rw [q1.1, q1.2]
          exact hp j hj b hb' (fun e => by have := hab (q1.2.trans e); rwa [q1.1] at this)
        · by_cases q2 : b = at' ∧ j = i
          · rw [q2.1, q2.2]
            exact (hp i' hi' a ha' (fun e e' => hab (e.symm.trans q2.2.symm) (e'.symm.trans q2.1.symm))).symm
          · have h1 := hI.apart i' hi' j hj a ha' b hb' hab
            have h2 := wid_three hI i' a
            have h3 := wid_three hI j b
            have h4 : a ≠ at' := fun e => by
              by_cases e5 : i' = i
              · exact q1 ⟨e, e5⟩
              · have := hcl i' hi' a ha
                have h6 := hp i' hi' a ha' (fun e6 => absurd e6.symm e5)
                rw [e] at h6
                have h7 : 3 ≤ wid x D' i at' := by
                  unfold wid
                  by_cases g : i < x.k
                  · have := hI.sz i g; rw [if_pos g]; omega
                  · have := sb_nonneg (D' at'.toNat); rw [if_neg g]; omega
                have h8 : 3 ≤ wid x D' i' at' := by
                  unfold wid
                  by_cases g : i' < x.k
                  · have := hI.sz i' g; rw [if_pos g]; omega
                  · have := sb_nonneg (D' at'.toNat); rw [if_neg g]; omega
                omega
            have h5 : b ≠ at' := fun e => by
              by_cases e5 : j = i
              · exact q2 ⟨e, e5⟩
              · have h6 := hp j hj b hb' (fun e6 => absurd e6.symm e5)
                rw [e] at h6
                have h7 : 3 ≤ wid x D' i at' := by
                  unfold wid
                  by_cases g : i < x.k
                  · have := hI.sz i g; rw [if_pos g]; omega
                  · have := sb_nonneg (D' at'.toNat); rw [if_neg g]; omega
                have h8 : 3 ≤ wid x D' j at' := by
                  unfold wid
                  by_cases g : j < x.k
                  · have := hI.sz j g; rw [if_pos g]; omega
                  · have := sb_nonneg (D' at'.toNat); rw [if_neg g]; omega
                omega
            rw [hw i' hi' a ha' (Or.inl h4), hw j hj b hb' (Or.inl h5)]
            exact h1
  cases hA with
  | white i2 hC2 hi2 l hwh hR ht hM =>
    subst ht hM
    have hm : at' ∈ (R i2).all := List.mem_append_left _ (by rw [hwh]; exact List.mem_cons_self ..)
    have same : ∀ j, j ≤ x.k → ∀ a, a ∈ (R' j).all → a ∈ (R j).all := fun j hj a ha => by
      rw [hR] at ha
      unfold put1 at ha
      by_cases e : j = i2
      · rw [if_pos e, alloced_mem hwh] at ha
        rw [e]; exact ha
      · rwa [if_neg e] at ha
    have c1 := hI.cell i2 hi2 at' hm
    have big : ∀ a, a ∈ (R x.k).all → a ≠ at' := fun a ha => by
      have := (hI.big a ha).1
      have := hI.sz i2 hi2
      omega
    have hw' : ∀ j, j ≤ x.k → ∀ a, a ∈ (R j).all → wid x D' j a = wid x D j a := fun j hj a ha => by
      by_cases e : j = x.k
      · subst e
        exact hw _ hj a ha (Or.inl (big a ha))
      · exact hw j hj a ha (Or.inr (by omega))
    refine ⟨t0, t1, hI.ln, hI.n6, hI.sz, ones, fun j hj a ha => hI.cell j hj a (same j (by omega) a ha), fun a ha => ?_, fun i' hi' j hj a ha b hb hab => ?_, lens⟩
    · have ha' := same x.k (Nat.le_refl _) a ha
      rw [hw' x.k (Nat.le_refl _) a ha']
      exact hI.big a ha'
    · have ha' := same i' hi' a ha
      have hb' := same j hj b hb
      rw [hw' i' hi' a ha', hw' j hj b hb']
      exact hI.apart i' hi' j hj a ha' b hb' hab
  | fresh i2 hC2 hi2 hwh hr ha2 hR ht hM =>
    subst ht hM
    have hz := hI.sz i2 hi2
    have e2 : i = i2 := by
      by_cases e : i = i2
      · exact e
      · exfalso
        rw [hR] at hat
        unfold put1 at hat
        rw [if_neg e] at hat
        by_cases g : i = x.k
        · rw [g] at hat
          have := (hI.big at' hat).1
          omega
        · have := hI.cell i (by omega) at' hat
          have := hI.sz i (by omega)
          omega
    subst e2
    have hwi : wid x D' i at' = x.sz i + 3 := by unfold wid; rw [if_pos hi2]
    refine ⟨by omega, by omega, hI.ln, hI.n6, hI.sz, ones, fun j hj a ha => ?_, fun a ha => ?_, pair fun j hj b hb _ => ?_, lens⟩
    · rcases old j (by omega) a ha with ⟨e1, e3⟩ | h
      · subst e1 e3; omega
      · have := hI.cell j hj a h; omega
    · rcases old x.k (Nat.le_refl _) a ha with ⟨e1, e3⟩ | h
      · omega
      · rw [hw x.k (Nat.le_refl _) a h (Or.inl (by have := (hI.big a h).1; omega))]
        exact hI.big a h
    · rw [hwi]
      by_cases g : j = x.k
      · subst g
        have := (hI.big b hb).1
        omega
      · have h1 := hI.cell j (by omega) b hb
        have h2 : wid x D' j b = x.sz j + 3 := by unfold wid; rw [if_pos (by omega)]
        omega
  | big hC2 he ha2 hR ht hM =>
    subst ht
    obtain ⟨s1, s2, s3⟩ := spot_cov hG (by omega) he
    rw [← ha2] at s1 s2 s3
    obtain ⟨-, hM2, -⟩ := hM
    have e2 : i = x.k := by
      by_cases e : i = x.k
      · exact e
      · exfalso
        rw [hR] at hat
        unfold put1 at hat
        rw [if_neg e] at hat
        have := hI.cell i (by omega) at' hat
        have := hI.sz i (by omega)
        omega
    subst e2
    have hnot : ∀ a, a ∈ (R x.k).all → a ≠ at' := fun a ha e => (hI.big a ha).2.2 a (Int.le_refl _) (by have := wid_three hI x.k a; omega) (s3 a (by omega) (by omega))
    refine ⟨t0, t1, hI.ln, hI.n6, hI.sz, ones, fun j hj a ha => ?_, fun a ha => ?_, pair fun j hj b hb hjb => ?_, lens⟩
    · rcases old j (by omega) a ha with ⟨e1, e3⟩ | h
      · omega
      · exact hI.cell j hj a h
    · rcases old x.k (Nat.le_refl _) a ha with ⟨e1, e3⟩ | h
      · subst e3
        rw [hwk]
        refine ⟨s1, by omega, fun m h1 h2 => ?_⟩
        rw [hM2, ← ha2]
        exact fun h => h.2 he ⟨h1, by omega⟩
      · rw [hw x.k (Nat.le_refl _) a h (Or.inl (hnot a h))]
        obtain ⟨b1, b2, b3⟩ := hI.big a h
        refine ⟨b1, b2, fun m h1 h2 => ?_⟩
        rw [hM2]
        exact fun h => b3 m h1 h2 h.1
    · rw [hwk]
      by_cases g : j = x.k
      · subst g
        rw [hw x.k (Nat.le_refl _) b hb (Or.inl (hnot b hb))]
        have h1 := (hI.big b hb).2.2
        have h2 := wid_three hI x.k b
        by_cases q1 : at' + (size + 3) ≤ b
        · exact Or.inl q1
        · by_cases q2 : b + wid x D x.k b ≤ at'
          · exact Or.inr q2
          · exfalso
            by_cases q3 : b ≤ at'
            · exact h1 at' q3 (by omega) (s3 at' (by omega) (by omega))
            · exact h1 b (by omega) (by omega) (s3 b (by omega) (by omega))
      · have h1 := hI.cell j (by omega) b hb
        have h2 : wid x D' j b = x.sz j + 3 := by unfold wid; rw [if_pos (by omega)]
        omega

end Go.Proofs.Ytbjlpmjalidfkaa
