/- The document's room, place by place: the runs that are told of it; in numbers alone. -/
import Derived.Test.YtpnojoldcfghfaaExR
namespace Go.Proofs.Ytpnojoldcfghfaa

def cnt (B : Nat → Bool) : Nat → Int
  | 0 => 0
  | i + 1 => cnt B i + if B i then 1 else 0
/-- The runs of the first i places. -/
structure Reads (F : Int) (B : Nat → Bool) (i : Nat) (R : List (Int × Int)) : Prop where
  good : Good F (F + i) R
  cov : ∀ x, Cov R x ↔ ∃ q : Nat, q < i ∧ x = F + q ∧ B q = true
  sum : total R = cnt B i

theorem reads_start (F : Int) (B : Nat → Bool) : Reads F B 0 [] := ⟨trivial, fun x => ⟨fun h => absurd h (cov_nil x), fun ⟨q, h, _⟩ => by omega⟩, rfl⟩
theorem Reads.skip {F : Int} {B : Nat → Bool} {i : Nat} {R : List (Int × Int)} (h : Reads F B i R) (hb : B i = false) : Reads F B (i + 1) R := by
  refine ⟨good_mono h.good (Int.le_refl _) (by omega), fun x => (h.cov x).trans ⟨fun ⟨q, h1, h2, h3⟩ => ⟨q, by omega, h2, h3⟩, fun ⟨q, h1, h2, h3⟩ => ⟨q, ?_, h2, h3⟩⟩, by rw [h.sum]; simp [cnt, hb]⟩
  by_cases e : q = i
  · subst e; rw [hb] at h3; cases h3
  · omega
theorem Reads.new {F : Int} {B : Nat → Bool} {i : Nat} {R : List (Int × Int)} (h : Reads F B i R) (hb : B i = true) (hp : i = 0 ∨ B (i - 1) = false) : Reads F B (i + 1) (R ++ [(F + i, 1)]) := by
  have hR : Good F (F + i - 1) R := by
    refine good_hi h.good fun x hx => ?_
    have hm := good_mem h.good hx
    have hc : Cov R (x.1 + x.2 - 1) := cov_of_mem hx (by omega) (by omega)
    obtain ⟨q, h1, h2, h3⟩ := (h.cov _).1 hc
    by_cases e : q = i - 1
    · subst e
      rcases hp with rfl | hp
      · omega
      · rw [hp] at h3; cases h3
    · omega
  refine ⟨good_join (x := (F + i, 1)) hR (by simp only; omega) (by simp only; omega) (by simp only; omega) trivial, fun x => ?_, by rw [total_append, h.sum]; simp [total, cnt, hb]⟩
  rw [cov_append, cov_cons, h.cov]
  simp only
  constructor
  · rintro (⟨q, h1, h2, h3⟩ | h1 | h1)
    · exact ⟨q, by omega, h2, h3⟩
    · exact ⟨i, by omega, by omega, hb⟩
    · exact absurd h1 (cov_nil x)
  · rintro ⟨q, h1, h2, h3⟩
    by_cases e : q = i
    · subst e; exact Or.inr (Or.inl (by omega))
    · exact Or.inl ⟨q, by omega, h2, h3⟩
theorem Reads.more {F : Int} {B : Nat → Bool} {i : Nat} {R : List (Int × Int)} (h : Reads F B i R) (hb : B i = true) (h0 : 0 < i) (hp : B (i - 1) = true) : ∃ (A : List (Int × Int)) (a k : Int), R = A ++ [(a, k)] ∧ 0 ≤ k ∧ k ≤ i ∧ Reads F B (i + 1) (A ++ [(a, k + 1)]) := by
  obtain ⟨y, hy, y1, y2⟩ := (h.cov (F + (i - 1 : Nat))).2 ⟨i - 1, by omega, rfl, hp⟩
  have hm := good_mem h.good hy
  obtain ⟨A, Z, rfl⟩ := List.append_of_mem hy
  have hz : Z = [] := by
    cases Z with
    | nil => rfl
    | cons z Z =>
      have h5 := (good_mid h.good).2.2.2.2
      obtain ⟨a1, a2, a3, _⟩ := h5
      omega
  subst hz
  obtain ⟨g1, g2, g3, g4, _⟩ := good_mid h.good
  obtain ⟨ya, yk⟩ := y
  simp only at y1 y2 hm g1 g2 g3 g4
  refine ⟨A, ya, yk, rfl, by omega, by omega, good_join (x := (ya, yk + 1)) g1 g2 (by simp only; omega) (by simp only; omega) trivial, fun x => ?_, ?_⟩
  · have hc := h.cov x
    rw [cov_append, cov_cons] at hc ⊢
    simp only at hc ⊢
    constructor
    · rintro (e | e | e)
      · obtain ⟨q, h1, h2, h3⟩ := hc.1 (Or.inl e)
        exact ⟨q, by omega, h2, h3⟩
      · by_cases hx : x < ya + yk
        · obtain ⟨q, h1, h2, h3⟩ := hc.1 (Or.inr (Or.inl ⟨e.1, hx⟩))
          exact ⟨q, by omega, h2, h3⟩
        · exact ⟨i, by omega, by omega, hb⟩
      · exact absurd e (cov_nil x)
    · rintro ⟨q, h1, h2, h3⟩
      by_cases e : q = i
      · subst e; exact Or.inr (Or.inl (by omega))
      · rcases hc.2 ⟨q, by omega, h2, h3⟩ with e | e | e
        · exact Or.inl e
        · exact Or.inr (Or.inl (by omega))
        · exact absurd e (cov_nil x)
  · have hs := h.sum
    rw [total_append] at hs ⊢
    simp only [total, cnt, hb, if_true] at hs ⊢
    omega

/-- A row of places, and the runs of room, tell the same. -/
def Link (F : Int) (n : Nat) (B : Nat → Bool) (L : List (Int × Int)) : Prop := ∀ q : Nat, q < n → (B q = true ↔ Cov L (F + q))
theorem reads_eq {F : Int} {n : Nat} {B : Nat → Bool} {R L : List (Int × Int)} (h : Reads F B n R) (hG : Good F (F + n) L) (hL : Link F n B L) : R = L := by
  refine good_unique h.good hG fun x => (h.cov x).trans ⟨fun ⟨q, h1, h2, h3⟩ => h2 ▸ (hL q h1).1 h3, fun hx => ?_⟩
  have hb := good_cov hG hx
  have e : x = F + ((x - F).toNat : Nat) := by omega
  exact ⟨(x - F).toNat, by omega, e, (hL _ (by omega)).2 (e ▸ hx)⟩
theorem link_start (F : Int) (n : Nat) : Link F n (fun _ => true) (wholeQ F n) := fun q hq => by
  refine ⟨fun _ => ?_, fun _ => rfl⟩
  unfold wholeQ
  rw [if_neg (by omega)]
  exact ⟨(F, n), List.mem_cons_self, by simp only; omega, by simp only; omega⟩
/-- The places behind a take. -/
def unset (F a n : Int) (B : Nat → Bool) : Nat → Bool := fun q => if a ≤ F + q ∧ F + q < a + n then false else B q
def reset (F a n : Int) (B : Nat → Bool) : Nat → Bool := fun q => if a ≤ F + q ∧ F + q < a + n then true else B q
theorem link_take {F n : Int} {m : Nat} {B : Nat → Bool} {L M : List (Int × Int)} (hL : Link F m B L) (hT : Took F (F + m) n L M) (he : tErr n L = 0) : Link F m (unset F (tAt n L) n B) M := fun q hq => by
  rw [hT.2.1, ← hL q hq]
  simp only [he, forall_const]
  unfold unset
  by_cases hc : tAt n L ≤ F + q ∧ F + q < tAt n L + n
  · simp [hc]
  · rw [if_neg hc]; simp only [hc, not_false_eq_true, and_true]
theorem link_same {F n : Int} {m : Nat} {B : Nat → Bool} {L M : List (Int × Int)} (hL : Link F m B L) (hT : Took F (F + m) n L M) (he : tErr n L ≠ 0) : Link F m B M := fun q hq => by
  rw [hT.2.1, ← hL q hq]
  simp [he]
theorem link_give {F a n : Int} {m : Nat} {B : Nat → Bool} {L M : List (Int × Int)} (hL : Link F m B L) (hT : Given F (F + m) F m a n L M) (he : gErr F m a n L = 0) : Link F m (reset F a n B) M := fun q hq => by
  rw [hT.2.1, ← hL q hq]
  unfold reset
  by_cases hc : a ≤ F + q ∧ F + q < a + n
  · simp [hc, he]
  · rw [if_neg hc]; simp [hc]
theorem link_kept {F a n : Int} {m : Nat} {B : Nat → Bool} {L M : List (Int × Int)} (hL : Link F m B L) (hT : Given F (F + m) F m a n L M) (he : gErr F m a n L ≠ 0) : Link F m B M := fun q hq => by
  rw [hT.2.1, ← hL q hq]
  simp [he]
/-- Of n places from a on one is free, or none is. -/
theorem link_hits {F a n : Int} {m : Nat} {B : Nat → Bool} {L : List (Int × Int)} (hL : Link F m B L) (hw : within F m a n) {j : Nat} (hj : (j : Int) < n) (hb : B ((a - F).toNat + j) = true) : gErr F m a n L = 5 := by
  obtain ⟨h1, h2, h3⟩ := hw
  have hc := (hL ((a - F).toNat + j) (by omega)).1 hb
  rw [gErr, if_pos ⟨h1, h2, h3⟩, hits_of_cov (i := F + (((a - F).toNat + j : Nat) : Int)) hc (by omega) (by omega)]
  rfl
theorem link_free {F a n : Int} {m : Nat} {B : Nat → Bool} {L : List (Int × Int)} (hL : Link F m B L) (hG : Good F (F + m) L) (hw : within F m a n) (hb : ∀ j : Nat, (j : Int) < n → B ((a - F).toNat + j) = false) : gErr F m a n L = 0 := by
  have hh : hits a n L = false := by
    cases e : hits a n L with
    | false => rfl
    | true =>
      obtain ⟨i, h1, h2, h3⟩ := cov_of_hits hG hw.1 e
      have hbd := good_cov hG h3
      obtain ⟨w1, w2, w3⟩ := hw
      have e1 : i = F + ((i - F).toNat : Nat) := by omega
      have e2 : (i - F).toNat = (a - F).toNat + (i - a).toNat := by omega
      have := (hL (i - F).toNat (by omega)).2 (e1 ▸ h3)
      rw [e2, hb (i - a).toNat (by omega)] at this
      cases this
  rw [gErr, if_pos hw, hh]
  rfl

end Go.Proofs.Ytpnojoldcfghfaa
