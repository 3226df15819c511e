/- What a call answers of the runs, and what they are behind it: in numbers alone. -/
import Derived.Test.YtbjlpmjalidfkaaExP
namespace Go.Proofs.Ytbjlpmjalidfkaa.Ex

/-- The first run that has n places. -/
def spot (n : Int) : List (Int × Int) → Option Int
  | [] => none
  | x :: r => if n ≤ x.2 then some x.1 else spot n r
def tErr (n : Int) (L : List (Int × Int)) : Int := if n < 1 then 1 else if (spot n L).isNone then 2 else 0
def tAt (n : Int) (L : List (Int × Int)) : Int := if n < 1 then 0 else (spot n L).getD 0
def within (F N a n : Int) : Prop := 1 ≤ n ∧ F ≤ a ∧ a + n ≤ F + N
instance (F N a n : Int) : Decidable (within F N a n) := by unfold within; infer_instance
def hits (a n : Int) (L : List (Int × Int)) : Bool := L.any fun x => decide (a < x.1 + x.2) && decide (x.1 < a + n)
def gErr (F N a n : Int) (L : List (Int × Int)) : Int := if within F N a n then (if hits a n L then 5 else 0) else 1

/-- What a take leaves. -/
def Took (lo hi n : Int) (L M : List (Int × Int)) : Prop :=
  Good lo hi M ∧ (∀ i, Cov M i ↔ Cov L i ∧ (tErr n L = 0 → ¬ (tAt n L ≤ i ∧ i < tAt n L + n))) ∧ total M = total L - (if tErr n L = 0 then n else 0)
/-- What a give leaves. -/
def Given (lo hi F N a n : Int) (L M : List (Int × Int)) : Prop :=
  Good lo hi M ∧ (∀ i, Cov M i ↔ Cov L i ∨ (gErr F N a n L = 0 ∧ a ≤ i ∧ i < a + n)) ∧ total M = total L + (if gErr F N a n L = 0 then n else 0)

theorem spot_none {n : Int} {L : List (Int × Int)} (h : ∀ x, x ∈ L → x.2 < n) : spot n L = none := by
  induction L with
  | nil => rfl
  | cons y L ih =>
    have := h y List.mem_cons_self
    rw [spot, if_neg (by omega)]
    exact ih fun x hx => h x (List.mem_cons_of_mem _ hx)
theorem spot_some {n : Int} {A B : List (Int × Int)} {a k : Int} (h : ∀ x, x ∈ A → x.2 < n) (hk : n ≤ k) : spot n (A ++ (a, k) :: B) = some a := by
  induction A with
  | nil => simp [spot, hk]
  | cons y A ih =>
    have := h y List.mem_cons_self
    rw [List.cons_append, spot, if_neg (by omega)]
    exact ih fun x hx => h x (List.mem_cons_of_mem _ hx)
/-- Either none has so many, or there is a first one. -/
theorem spot_cases (n : Int) (L : List (Int × Int)) : (∀ x, x ∈ L → x.2 < n) ∨ ∃ A a k B, L = A ++ (a, k) :: B ∧ (∀ x, x ∈ A → x.2 < n) ∧ n ≤ k := by
  induction L with
  | nil => exact Or.inl fun x hx => by cases hx
  | cons y L ih =>
    by_cases hy : n ≤ y.2
    · exact Or.inr ⟨[], y.1, y.2, L, rfl, (fun x hx => by cases hx), hy⟩
    · rcases ih with h | ⟨A, a, k, B, rfl, h, hk⟩
      · refine Or.inl fun x hx => ?_
        rcases List.mem_cons.1 hx with rfl | hx
        · omega
        · exact h x hx
      · refine Or.inr ⟨y :: A, a, k, B, rfl, fun x hx => ?_, hk⟩
        rcases List.mem_cons.1 hx with rfl | hx
        · omega
        · exact h x hx
theorem hits_cases (a n : Int) (L : List (Int × Int)) :
    (hits a n L = false ∧ ∀ y, y ∈ L → (decide (a < y.1 + y.2) && decide (y.1 < a + n)) = false) ∨
    (hits a n L = true ∧ ∃ A x B, L = A ++ x :: B ∧ (∀ y, y ∈ A → (decide (a < y.1 + y.2) && decide (y.1 < a + n)) = false) ∧ (decide (a < x.1 + x.2) && decide (x.1 < a + n)) = true) := by
  induction L with
  | nil => exact Or.inl ⟨rfl, (fun y hy => by cases hy)⟩
  | cons y L ih =>
    cases hy : (decide (a < y.1 + y.2) && decide (y.1 < a + n)) with
    | true => exact Or.inr ⟨by simp only [hits, List.any_cons, hy, Bool.true_or], [], y, L, rfl, (fun x hx => by cases hx), hy⟩
    | false =>
      have e : hits a n (y :: L) = hits a n L := by simp only [hits, List.any_cons, hy, Bool.false_or]
      rw [e]
      rcases ih with ⟨h, hh⟩ | ⟨h, A, x, B, rfl, hh, hx⟩
      · refine Or.inl ⟨h, fun x hx => ?_⟩
        rcases List.mem_cons.1 hx with rfl | hx
        · exact hy
        · exact hh x hx
      · refine Or.inr ⟨h, y :: A, x, B, rfl, fun z hz => ?_, hx⟩
        rcases List.mem_cons.1 hz with rfl | hz
        · exact hy
        · exact hh z hz
/-- The list, parted where a run that begins at a goes. -/
theorem part_at {lo hi : Int} (a : Int) {L : List (Int × Int)} (h : Good lo hi L) : ∃ A B, L = A ++ B ∧ (∀ x, x ∈ A → x.1 ≤ a) ∧ (∀ y B', B = y :: B' → a < y.1) ∧ (∀ x, x ∈ B → a < x.1) := by
  induction L generalizing lo with
  | nil => exact ⟨[], [], rfl, (fun x hx => by cases hx), (fun y B' e => by cases e), (fun x hx => by cases hx)⟩
  | cons y L ih =>
    obtain ⟨h1, h2, h3, h4⟩ := h
    by_cases hy : a < y.1
    · refine ⟨[], y :: L, rfl, (fun x hx => by cases hx), (fun z B' e => by cases e; exact hy), fun x hx => ?_⟩
      rcases List.mem_cons.1 hx with rfl | hx
      · exact hy
      · have := good_mem h4 hx; omega
    · obtain ⟨A, B, rfl, p1, p2, p3⟩ := ih h4
      refine ⟨y :: A, B, rfl, fun x hx => ?_, p2, p3⟩
      rcases List.mem_cons.1 hx with rfl | hx
      · omega
      · exact p1 x hx

theorem tErr_le {n : Int} {L : List (Int × Int)} (h : n < 1) : tErr n L = 1 ∧ tAt n L = 0 := by simp [tErr, tAt, h]
theorem took_same {lo hi n : Int} {L : List (Int × Int)} (h : Good lo hi L) (he : tErr n L ≠ 0) : Took lo hi n L L :=
  ⟨h, fun i => by simp [he], by simp [he]⟩
theorem given_same {lo hi F N a n : Int} {L : List (Int × Int)} (h : Good lo hi L) (he : gErr F N a n L ≠ 0) : Given lo hi F N a n L L :=
  ⟨h, fun i => by simp [he], by simp [he]⟩
def cutAt (A : List (Int × Int)) (a k : Int) (B : List (Int × Int)) (n : Int) : List (Int × Int) := if k = n then A ++ B else A ++ (a + n, k - n) :: B
theorem took_cut {lo hi n a k : Int} {A B : List (Int × Int)} (h : Good lo hi (A ++ (a, k) :: B)) (hn : 1 ≤ n) (hA : ∀ x, x ∈ A → x.2 < n) (hk : n ≤ k) :
    tErr n (A ++ (a, k) :: B) = 0 ∧ tAt n (A ++ (a, k) :: B) = a ∧ Took lo hi n (A ++ (a, k) :: B) (cutAt A a k B n) := by
  have hs := spot_some (B := B) (a := a) hA hk
  have e1 : tErr n (A ++ (a, k) :: B) = 0 := by rw [tErr, if_neg (by omega), hs]; rfl
  have e2 : tAt n (A ++ (a, k) :: B) = a := by rw [tAt, if_neg (by omega), hs]; rfl
  refine ⟨e1, e2, ?_⟩
  unfold Took cutAt
  rw [e1, e2]
  by_cases hkn : k = n
  · subst hkn
    obtain ⟨h1, h2, h3⟩ := take_whole h
    rw [if_pos rfl]
    exact ⟨h1, fun i => by simpa using h2 i, by simpa using h3⟩
  · obtain ⟨h1, h2, h3⟩ := take_part (n := n) h hn (by simp only; omega)
    rw [if_neg hkn]
    exact ⟨h1, fun i => by simpa using h2 i, by simpa using h3⟩

theorem given_join {lo hi F N a n k : Int} {A B B' M : List (Int × Int)} (h : Good lo hi (A ++ B)) (hw : within F N a n) (hlo : lo ≤ a) (hhi : a + n ≤ hi) (hh : hits a n (A ++ B) = false) (hA : Good lo a A) (hB : Good (a + n) hi B)
    (hg : giveB A (a, n) B = A ++ (a, k) :: B') (hM : (A = [] ∧ M = (a, k) :: B') ∨ ∃ A' z, A = A' ++ [z] ∧ M = joined A' z (a, k) B') : Given lo hi F N a n (A ++ B) M := by
  have e : gErr F N a n (A ++ B) = 0 := by simp [gErr, hw, hh]
  obtain ⟨k', B'', hg', k1, k2, k3, k4, k5⟩ := give_good (A := A) hB hw.1 hhi
  have ee : A ++ (a, k') :: B'' = A ++ (a, k) :: B' := hg'.symm.trans hg
  have ee2 := List.append_cancel_left ee
  simp only [List.cons.injEq, Prod.mk.injEq, true_and] at ee2
  obtain ⟨rfl, rfl⟩ := ee2
  unfold Given
  rw [e]
  rcases hM with ⟨rfl, rfl⟩ | ⟨A', z, rfl, rfl⟩
  · exact ⟨give_first hlo k1 k2 k3, fun i => by simpa using k4 i, by simpa using k5⟩
  · have hz := good_mem hA (x := z) (by simp)
    refine ⟨give_last hA k1 k2 k3, fun i => ?_, ?_⟩
    · rw [cov_joined _ _ _ _ (by omega) (by simp only; omega)]
      have := k4 i
      simpa using this
    · rw [total_joined]
      have := k5
      simpa using this

theorem good_length {lo hi : Int} {L : List (Int × Int)} (h : Good lo hi L) (hl : lo ≤ hi) : (L.length : Int) ≤ hi - lo := by
  induction L generalizing lo with
  | nil => simp; omega
  | cons x r ih =>
    obtain ⟨a, b, c, d⟩ := h
    by_cases e : x.1 + x.2 + 1 ≤ hi
    · have := ih d e
      simp; omega
    · cases r with
      | nil => simp; omega
      | cons y r => obtain ⟨a', b', c', _⟩ := d; omega
theorem good_total {lo hi : Int} {L : List (Int × Int)} (h : Good lo hi L) (hl : lo ≤ hi) : 0 ≤ total L ∧ total L ≤ hi - lo := by
  induction L generalizing lo with
  | nil => simp [total]; omega
  | cons x r ih =>
    obtain ⟨a, b, c, d⟩ := h
    simp only [total]
    by_cases e : x.1 + x.2 + 1 ≤ hi
    · have := ih d e
      omega
    · cases r with
      | nil => simp [total]; omega
      | cons y r => obtain ⟨a', b', c', _⟩ := d; omega
theorem good_start {F N : Int} (h : 0 < N) : Good F (F + N) [(F, N)] := ⟨Int.le_refl _, by simp only; omega, Int.le_refl _, trivial⟩

end Go.Proofs.Ytbjlpmjalidfkaa.Ex
