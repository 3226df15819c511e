/- What was taken and not given back has no place twice; all given back, there is one run: in numbers alone. -/
import Derived.Test.YtpnojoldcfghfaaExQ
namespace Go.Proofs.Ytpnojoldcfghfaa

/-- The runs that are free, and those that are out: together the whole, none twice. -/
structure Inv (F N : Int) (L R : List (Int × Int)) : Prop where
  all : ∀ x, F ≤ x → x < F + N → Cov L x ∨ Cov R x
  one : ∀ x, Cov L x → ¬ Cov R x
  fit : ∀ y, y ∈ R → 1 ≤ y.2 ∧ F ≤ y.1 ∧ y.1 + y.2 ≤ F + N
  far : R.Pairwise fun y z => y.1 + y.2 ≤ z.1 ∨ z.1 + z.2 ≤ y.1
def wholeQ (F N : Int) : List (Int × Int) := if N = 0 then [] else [(F, N)]

theorem cov_of_mem {L : List (Int × Int)} {y : Int × Int} (h : y ∈ L) {i : Int} (h1 : y.1 ≤ i) (h2 : i < y.1 + y.2) : Cov L i := ⟨y, h, h1, h2⟩
theorem inv_start {F N : Int} : Inv F N (wholeQ F N) [] := by
  refine ⟨fun x h1 h2 => Or.inl ?_, fun x _ => cov_nil x, fun y hy => (by cases hy), List.Pairwise.nil⟩
  unfold wholeQ
  rw [if_neg (by omega)]
  exact ⟨(F, N), List.mem_cons_self, h1, h2⟩
theorem Inv.keep {F N : Int} {L M R : List (Int × Int)} (h : Inv F N L R) (e : ∀ i, Cov M i ↔ Cov L i) : Inv F N M R :=
  ⟨fun x h1 h2 => (h.all x h1 h2).imp_left (e x).2, fun x hx => h.one x ((e x).1 hx), h.fit, h.far⟩
theorem Inv.stays {F N n : Int} {L M R : List (Int × Int)} (h : Inv F N L R) (hT : Took F (F + N) n L M) (he : tErr n L ≠ 0) : Inv F N M R ∧ total M = total L :=
  ⟨h.keep fun i => by rw [hT.2.1]; simp [he], by rw [hT.2.2]; simp [he]⟩
/-- A take that is not refused: where it lies. -/
theorem take_lies {F N n : Int} {L : List (Int × Int)} (hG : Good F (F + N) L) (he : tErr n L = 0) : 1 ≤ n ∧ F ≤ tAt n L ∧ tAt n L + n ≤ F + N ∧ ∀ i, tAt n L ≤ i → i < tAt n L + n → Cov L i := by
  by_cases hn : n < 1
  · have := (tErr_le (L := L) hn).1
    omega
  · rcases spot_cases n L with h | ⟨A, a, k, B, rfl, hA, hk⟩
    · rw [tErr, if_neg hn, spot_none h] at he
      simp at he
    · have e2 : tAt n (A ++ (a, k) :: B) = a := by rw [tAt, if_neg hn, spot_some hA hk]; rfl
      rw [e2]
      have := good_mem hG (x := (a, k)) (by simp)
      simp only at this
      exact ⟨by omega, by omega, by omega, fun i h1 h2 => cov_of_mem (y := (a, k)) (by simp) h1 (by simp only; omega)⟩
theorem Inv.take {F N n : Int} {L M R : List (Int × Int)} (h : Inv F N L R) (hG : Good F (F + N) L) (hT : Took F (F + N) n L M) (he : tErr n L = 0) :
    Inv F N M (R ++ [(tAt n L, n)]) ∧ total M = total L - n ∧ ∀ y, y ∈ R → ¬ (y.1 < tAt n L + n ∧ tAt n L < y.1 + y.2) := by
  obtain ⟨h1, h2, h3, h4⟩ := take_lies hG he
  have hno : ∀ y, y ∈ R → ¬ (y.1 < tAt n L + n ∧ tAt n L < y.1 + y.2) := fun y hy ⟨e1, e2⟩ => by
    have := h.fit y hy
    by_cases hc : y.1 ≤ tAt n L
    · exact h.one (tAt n L) (h4 _ (Int.le_refl _) (by omega)) (cov_of_mem hy hc e2)
    · exact h.one y.1 (h4 _ (by omega) e1) (cov_of_mem hy (Int.le_refl _) (by omega))
  have hc : ∀ i, Cov M i ↔ Cov L i ∧ ¬ (tAt n L ≤ i ∧ i < tAt n L + n) := fun i => by rw [hT.2.1]; simp [he]
  refine ⟨⟨fun x e1 e2 => ?_, fun x hx => ?_, fun y hy => ?_, ?_⟩, by rw [hT.2.2]; simp [he], hno⟩
  · rw [hc, cov_append, cov_cons]
    simp only
    rcases h.all x e1 e2 with e | e
    · by_cases hi : tAt n L ≤ x ∧ x < tAt n L + n
      · exact Or.inr (Or.inr (Or.inl hi))
      · exact Or.inl ⟨e, hi⟩
    · exact Or.inr (Or.inl e)
  · rw [cov_append, cov_cons]
    simp only
    obtain ⟨e1, e2⟩ := (hc x).1 hx
    rintro (e | e | e)
    · exact h.one x e1 e
    · exact e2 e
    · exact cov_nil x e
  · rcases List.mem_append.1 hy with hy | hy
    · exact h.fit y hy
    · simp at hy
      subst hy
      exact ⟨h1, h2, h3⟩
  · refine List.pairwise_append.2 ⟨h.far, List.pairwise_singleton _ _, fun y hy z hz => ?_⟩
    simp at hz
    subst hz
    have := hno y hy
    simp only
    omega

theorem hits_of_cov {a n : Int} {L : List (Int × Int)} {i : Int} (h : Cov L i) (h1 : a ≤ i) (h2 : i < a + n) : hits a n L = true := by
  obtain ⟨z, hz, e1, e2⟩ := h
  rw [hits, List.any_eq_true]
  exact ⟨z, hz, by simp; omega⟩
theorem cov_of_hits {lo hi a n : Int} {L : List (Int × Int)} (hG : Good lo hi L) (hn : 1 ≤ n) (h : hits a n L = true) : ∃ i, a ≤ i ∧ i < a + n ∧ Cov L i := by
  rw [hits, List.any_eq_true] at h
  obtain ⟨z, hz, e⟩ := h
  simp at e
  have := good_mem hG hz
  by_cases hc : z.1 ≤ a
  · exact ⟨a, Int.le_refl _, by omega, cov_of_mem hz hc e.1⟩
  · exact ⟨z.1, by omega, e.2, cov_of_mem hz (Int.le_refl _) (by omega)⟩

/-- One that is out is given back: it is free, and no other one is; given once more it is refused. -/
theorem Inv.give {F N : Int} {L P Q : List (Int × Int)} {x : Int × Int} (h : Inv F N L (P ++ x :: Q)) (hG : Good F (F + N) L) :
    gErr F N x.1 x.2 L = 0 ∧ ∀ M, Given F (F + N) F N x.1 x.2 L M → gErr F N x.1 x.2 M = 5 ∧ ∀ M', Given F (F + N) F N x.1 x.2 M M' → Inv F N M' (P ++ Q) := by
  obtain ⟨f1, f2, f3⟩ := h.fit x (by simp)
  have hw : within F N x.1 x.2 := ⟨f1, f2, f3⟩
  have hx : ∀ i, x.1 ≤ i → i < x.1 + x.2 → Cov (P ++ x :: Q) i := fun i e1 e2 => cov_of_mem (y := x) (by simp) e1 e2
  have hh : hits x.1 x.2 L = false := by
    cases e : hits x.1 x.2 L with
    | false => rfl
    | true =>
      obtain ⟨i, e1, e2, e3⟩ := cov_of_hits hG f1 e
      exact absurd (hx i e1 e2) (h.one i e3)
  have e0 : gErr F N x.1 x.2 L = 0 := by rw [gErr, if_pos hw, hh]; rfl
  refine ⟨e0, fun M hM => ?_⟩
  have hc : ∀ i, Cov M i ↔ Cov L i ∨ (x.1 ≤ i ∧ i < x.1 + x.2) := fun i => by rw [hM.2.1]; simp [e0]
  have e5 : gErr F N x.1 x.2 M = 5 := by rw [gErr, if_pos hw, hits_of_cov ((hc x.1).2 (Or.inr ⟨Int.le_refl _, by omega⟩)) (Int.le_refl _) (by omega)]; rfl
  refine ⟨e5, fun M' hM' => ?_⟩
  have hc' : ∀ i, Cov M' i ↔ Cov L i ∨ (x.1 ≤ i ∧ i < x.1 + x.2) := fun i => by rw [hM'.2.1, hc]; simp [e5]
  have far := h.far
  rw [List.pairwise_append] at far
  obtain ⟨far1, far2, far3⟩ := far
  rw [List.pairwise_cons] at far2
  obtain ⟨far4, far5⟩ := far2
  refine ⟨fun y e1 e2 => ?_, fun y hy => ?_, fun y hy => h.fit y ?_, List.pairwise_append.2 ⟨far1, far5, fun y hy z hz => far3 y hy z (List.mem_cons_of_mem _ hz)⟩⟩
  · rw [hc', cov_append]
    rcases h.all y e1 e2 with e | e
    · exact Or.inl (Or.inl e)
    · rw [cov_append, cov_cons] at e
      rcases e with e | e | e
      · exact Or.inr (Or.inl e)
      · exact Or.inl (Or.inr e)
      · exact Or.inr (Or.inr e)
  · rcases (hc' y).1 hy with e | e
    · have := h.one y e
      rw [cov_append, cov_cons] at this
      rw [cov_append]
      exact fun e' => this (e'.imp_right Or.inr)
    · rw [cov_append]
      rintro (⟨z, hz, z1, z2⟩ | ⟨z, hz, z1, z2⟩)
      · have := far3 z hz x List.mem_cons_self
        omega
      · have := far4 z hz
        omega
  · rcases List.mem_append.1 hy with hy | hy
    · exact List.mem_append_left _ hy
    · exact List.mem_append_right _ (List.mem_cons_of_mem _ hy)

theorem Inv.done {F N : Int} {L : List (Int × Int)} (h : Inv F N L []) (hG : Good F (F + N) L) (hN : 0 ≤ N) : L = wholeQ F N := by
  have hw : Good F (F + N) (wholeQ F N) := by
    unfold wholeQ
    split
    · trivial
    · exact good_start (by omega)
  refine good_unique hG hw fun i => ⟨fun hi => ?_, fun hi => ?_⟩
  · have := good_cov hG hi
    exact (inv_start.all i this.1 this.2).elim id fun e => absurd e (cov_nil i)
  · have := good_cov hw hi
    exact (h.all i this.1 this.2).elim id fun e => absurd e (cov_nil i)

/-- What is out still, after i were given back. -/
def left (turned : Bool) (G : List (Int × Int)) (i : Nat) : List (Int × Int) := if turned then G.take (G.length - i) else G.drop i
theorem left_start (turned : Bool) (G : List (Int × Int)) : left turned G 0 = G := by unfold left; split <;> simp
theorem left_end (turned : Bool) (G : List (Int × Int)) : left turned G G.length = [] := by unfold left; split <;> simp
def which (turned : Bool) (m i : Nat) : Nat := if turned then m - 1 - i else i
theorem left_step (turned : Bool) (G : List (Int × Int)) {i : Nat} (hi : i < G.length) {x : Int × Int} (hx : G[which turned G.length i]? = some x) : ∃ P Q, left turned G i = P ++ x :: Q ∧ left turned G (i + 1) = P ++ Q := by
  unfold left which at *
  cases turned with
  | true =>
    simp only [if_true] at *
    have hk : G.length - 1 - i < G.length := (List.getElem?_eq_some_iff.1 hx).1
    have e : G[G.length - 1 - i] = x := by rw [List.getElem?_eq_getElem hk] at hx; simpa using hx
    refine ⟨G.take (G.length - 1 - i), [], ?_, by simp [show G.length - (i + 1) = G.length - 1 - i by omega]⟩
    rw [show G.length - i = G.length - 1 - i + 1 by omega, List.take_succ_eq_append_getElem hk, e]
  | false =>
    simp only [Bool.false_eq_true, if_false] at *
    have e : G[i] = x := by rw [List.getElem?_eq_getElem hi] at hx; simpa using hx
    exact ⟨[], G.drop (i + 1), by rw [List.drop_eq_getElem_cons hi, e]; rfl, rfl⟩

end Go.Proofs.Ytpnojoldcfghfaa
