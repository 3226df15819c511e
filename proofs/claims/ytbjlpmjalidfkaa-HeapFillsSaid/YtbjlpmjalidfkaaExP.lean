/- Runs of places as a list: they rise, none touches the next; what is covered tells the list; taken from and given back to. Nothing of the program. -/
namespace Go.Proofs.Ytbjlpmjalidfkaa.Ex

/-- Runs, the first place and how many: each has a place, all lie from lo on and end by hi, none touches the next. -/
def Good (lo hi : Int) : List (Int × Int) → Prop
  | [] => True
  | x :: r => lo ≤ x.1 ∧ 1 ≤ x.2 ∧ x.1 + x.2 ≤ hi ∧ Good (x.1 + x.2 + 1) hi r
def Cov (L : List (Int × Int)) (i : Int) : Prop := ∃ x, x ∈ L ∧ x.1 ≤ i ∧ i < x.1 + x.2
def total : List (Int × Int) → Int
  | [] => 0
  | x :: r => x.2 + total r

theorem cov_nil (i : Int) : ¬ Cov [] i := by rintro ⟨x, h, _⟩; cases h
theorem cov_cons (x : Int × Int) (L : List (Int × Int)) (i : Int) : Cov (x :: L) i ↔ (x.1 ≤ i ∧ i < x.1 + x.2) ∨ Cov L i := by
  constructor
  · rintro ⟨y, hy, h⟩
    rcases List.mem_cons.1 hy with rfl | hy
    · exact Or.inl h
    · exact Or.inr ⟨y, hy, h⟩
  · rintro (h | ⟨y, hy, h⟩)
    · exact ⟨x, List.mem_cons_self, h⟩
    · exact ⟨y, List.mem_cons_of_mem _ hy, h⟩
theorem cov_append (A B : List (Int × Int)) (i : Int) : Cov (A ++ B) i ↔ Cov A i ∨ Cov B i := by
  induction A with
  | nil => simp [cov_nil]
  | cons x A ih => rw [List.cons_append, cov_cons, cov_cons, ih]; exact or_assoc.symm
theorem total_append (A B : List (Int × Int)) : total (A ++ B) = total A + total B := by
  induction A with
  | nil => simp [total]
  | cons x A ih => simp only [List.cons_append, total, ih]; omega

theorem good_mono {lo hi lo' hi' : Int} {L : List (Int × Int)} (h : Good lo hi L) (h1 : lo' ≤ lo) (h2 : hi ≤ hi') : Good lo' hi' L := by
  induction L generalizing lo lo' with
  | nil => trivial
  | cons x r ih => obtain ⟨a, b, c, d⟩ := h; exact ⟨by omega, b, by omega, ih d (Int.le_refl _)⟩
theorem good_mem {lo hi : Int} {L : List (Int × Int)} (h : Good lo hi L) {x : Int × Int} (hx : x ∈ L) : lo ≤ x.1 ∧ 1 ≤ x.2 ∧ x.1 + x.2 ≤ hi := by
  induction L generalizing lo with
  | nil => cases hx
  | cons y r ih =>
    obtain ⟨a, b, c, d⟩ := h
    rcases List.mem_cons.1 hx with rfl | hx
    · exact ⟨a, b, c⟩
    · have := ih d hx; exact ⟨by omega, this.2⟩
theorem good_cov {lo hi : Int} {L : List (Int × Int)} (h : Good lo hi L) {i : Int} (hi' : Cov L i) : lo ≤ i ∧ i < hi := by
  obtain ⟨x, hx, h1, h2⟩ := hi'
  have := good_mem h hx
  omega
theorem good_unique {lo hi : Int} : ∀ {L M : List (Int × Int)} {lo' : Int}, Good lo hi L → Good lo' hi M → (∀ i, Cov L i ↔ Cov M i) → L = M
  | [], [], _, _, _, _ => rfl
  | [], y :: M, _, _, h, e => absurd ((e y.1).2 ((cov_cons _ _ _).2 (Or.inl ⟨Int.le_refl _, by have := h.2.1; omega⟩))) (cov_nil _)
  | x :: L, [], _, h, _, e => absurd ((e x.1).1 ((cov_cons _ _ _).2 (Or.inl ⟨Int.le_refl _, by have := h.2.1; omega⟩))) (cov_nil _)
  | x :: L, y :: M, lo', hL, hM, e => by
    obtain ⟨a1, a2, a3, a4⟩ := hL
    obtain ⟨b1, b2, b3, b4⟩ := hM
    have e1 := (cov_cons _ _ _).1 ((e x.1).1 ((cov_cons _ _ _).2 (Or.inl ⟨Int.le_refl _, by omega⟩)))
    have e2 := (cov_cons _ _ _).1 ((e y.1).2 ((cov_cons _ _ _).2 (Or.inl ⟨Int.le_refl _, by omega⟩)))
    have f1 : y.1 ≤ x.1 := by
      rcases e1 with h | h
      · omega
      · have := good_cov b4 h; omega
    have f2 : x.1 ≤ y.1 := by
      rcases e2 with h | h
      · omega
      · have := good_cov a4 h; omega
    have f3 : ¬ x.2 < y.2 := fun hlt => by
      rcases (cov_cons _ _ _).1 ((e (x.1 + x.2)).2 ((cov_cons _ _ _).2 (Or.inl ⟨by omega, by omega⟩))) with h | h
      · omega
      · have := good_cov a4 h; omega
    have f4 : ¬ y.2 < x.2 := fun hlt => by
      rcases (cov_cons _ _ _).1 ((e (y.1 + y.2)).1 ((cov_cons _ _ _).2 (Or.inl ⟨by omega, by omega⟩))) with h | h
      · omega
      · have := good_cov b4 h; omega
    obtain ⟨x1, x2⟩ := x
    obtain ⟨y1, y2⟩ := y
    simp only at *
    obtain rfl : x1 = y1 := by omega
    obtain rfl : x2 = y2 := by omega
    congr 1
    refine good_unique a4 b4 fun i => ⟨fun h => ?_, fun h => ?_⟩
    · have := good_cov a4 h
      rcases (cov_cons _ _ _).1 ((e i).1 ((cov_cons _ _ _).2 (Or.inr h))) with h' | h'
      · simp only at h'; omega
      · exact h'
    · have := good_cov b4 h
      rcases (cov_cons _ _ _).1 ((e i).2 ((cov_cons _ _ _).2 (Or.inr h))) with h' | h'
      · simp only at h'; omega
      · exact h'

theorem good_mid {lo hi : Int} {A B : List (Int × Int)} {x : Int × Int} (h : Good lo hi (A ++ x :: B)) : Good lo (x.1 - 1) A ∧ lo ≤ x.1 ∧ 1 ≤ x.2 ∧ x.1 + x.2 ≤ hi ∧ Good (x.1 + x.2 + 1) hi B := by
  induction A generalizing lo with
  | nil => exact ⟨trivial, h⟩
  | cons y A ih =>
    obtain ⟨a, b, c, d⟩ := h
    obtain ⟨h1, h2, h3, h4, h5⟩ := ih d
    exact ⟨⟨a, b, by omega, h1⟩, by omega, h3, h4, h5⟩
theorem good_join {lo hi : Int} {A B : List (Int × Int)} {x : Int × Int} (h1 : Good lo (x.1 - 1) A) (h2 : lo ≤ x.1) (h3 : 1 ≤ x.2) (h4 : x.1 + x.2 ≤ hi) (h5 : Good (x.1 + x.2 + 1) hi B) : Good lo hi (A ++ x :: B) := by
  induction A generalizing lo with
  | nil => exact ⟨h2, h3, h4, h5⟩
  | cons y A ih =>
    obtain ⟨a, b, c, d⟩ := h1
    exact ⟨a, b, by omega, ih d (by omega)⟩
theorem good_app {lo mid hi : Int} {A B : List (Int × Int)} (h1 : Good lo mid A) (h2 : Good (mid + 1) hi B) (h3 : lo ≤ mid + 1) (h4 : mid ≤ hi) : Good lo hi (A ++ B) := by
  induction A generalizing lo with
  | nil => exact good_mono h2 h3 (Int.le_refl _)
  | cons y A ih =>
    obtain ⟨a, b, c, d⟩ := h1
    exact ⟨a, b, by omega, ih d (by omega)⟩
theorem good_left {lo hi : Int} {A B : List (Int × Int)} (h : Good lo hi (A ++ B)) : Good lo hi A := by
  induction A generalizing lo with
  | nil => trivial
  | cons y A ih => obtain ⟨a, b, c, d⟩ := h; exact ⟨a, b, c, ih d⟩
theorem good_right {lo hi : Int} {A B : List (Int × Int)} (h : Good lo hi (A ++ B)) : Good lo hi B := by
  induction A generalizing lo with
  | nil => exact h
  | cons y A ih => obtain ⟨a, b, c, d⟩ := h; exact good_mono (ih d) (by omega) (Int.le_refl _)
theorem good_hi {lo hi h : Int} {A : List (Int × Int)} (hA : Good lo hi A) (hh : ∀ x, x ∈ A → x.1 + x.2 ≤ h) : Good lo h A := by
  induction A generalizing lo with
  | nil => trivial
  | cons y A ih =>
    obtain ⟨a, b, c, d⟩ := hA
    exact ⟨a, b, hh y List.mem_cons_self, ih d fun x hx => hh x (List.mem_cons_of_mem _ hx)⟩
theorem good_lo {lo hi l : Int} {B : List (Int × Int)} (hB : Good lo hi B) (hl : ∀ x, x ∈ B → l ≤ x.1) : Good l hi B := by
  cases B with
  | nil => trivial
  | cons y B => obtain ⟨a, b, c, d⟩ := hB; exact ⟨hl y List.mem_cons_self, b, c, d⟩

/-- A TAKE: of a run its first n places are taken. -/
theorem take_whole {lo hi : Int} {A B : List (Int × Int)} {x : Int × Int} (h : Good lo hi (A ++ x :: B)) :
    Good lo hi (A ++ B) ∧ (∀ i, Cov (A ++ B) i ↔ Cov (A ++ x :: B) i ∧ ¬ (x.1 ≤ i ∧ i < x.1 + x.2)) ∧ total (A ++ B) = total (A ++ x :: B) - x.2 := by
  obtain ⟨h1, h2, h3, h4, h5⟩ := good_mid h
  refine ⟨good_app h1 (good_mono h5 (by omega) (Int.le_refl _)) (by omega) (by omega), fun i => ?_, by simp only [total_append, total]; omega⟩
  rw [cov_append, cov_append, cov_cons]
  constructor
  · rintro (h | h)
    · have := good_cov h1 h; exact ⟨Or.inl h, by omega⟩
    · have := good_cov h5 h; exact ⟨Or.inr (Or.inr h), by omega⟩
  · rintro ⟨h | h | h, hn⟩
    · exact Or.inl h
    · exact absurd h hn
    · exact Or.inr h
theorem take_part {lo hi n : Int} {A B : List (Int × Int)} {x : Int × Int} (h : Good lo hi (A ++ x :: B)) (hn : 1 ≤ n) (hx : n < x.2) :
    Good lo hi (A ++ (x.1 + n, x.2 - n) :: B) ∧ (∀ i, Cov (A ++ (x.1 + n, x.2 - n) :: B) i ↔ Cov (A ++ x :: B) i ∧ ¬ (x.1 ≤ i ∧ i < x.1 + n)) ∧ total (A ++ (x.1 + n, x.2 - n) :: B) = total (A ++ x :: B) - n := by
  obtain ⟨h1, h2, h3, h4, h5⟩ := good_mid h
  refine ⟨good_join (good_mono h1 (Int.le_refl _) (by simp only; omega)) (by simp only; omega) (by simp only; omega) (by simp only; omega) (good_mono h5 (by simp only; omega) (Int.le_refl _)), fun i => ?_, by simp only [total_append, total]; omega⟩
  rw [cov_append, cov_append, cov_cons, cov_cons]
  simp only
  constructor
  · rintro (h | h | h)
    · have := good_cov h1 h; exact ⟨Or.inl h, by omega⟩
    · exact ⟨Or.inr (Or.inl (by omega)), by omega⟩
    · have := good_cov h5 h; exact ⟨Or.inr (Or.inr h), by omega⟩
  · rintro ⟨h | h | h, hn⟩
    · exact Or.inl h
    · exact Or.inr (Or.inl (by omega))
    · exact Or.inr (Or.inr h)

/-- Two runs that touch are one. -/
def joined (A : List (Int × Int)) (x y : Int × Int) (B : List (Int × Int)) : List (Int × Int) := if y.1 = x.1 + x.2 then A ++ (x.1, x.2 + y.2) :: B else A ++ x :: y :: B
theorem total_joined (A : List (Int × Int)) (x y : Int × Int) (B : List (Int × Int)) : total (joined A x y B) = total (A ++ x :: y :: B) := by
  unfold joined; split
  · simp only [total_append, total]; omega
  · rfl
theorem cov_joined (A : List (Int × Int)) (x y : Int × Int) (B : List (Int × Int)) (h1 : 0 ≤ x.2) (h2 : 0 ≤ y.2) (i : Int) : Cov (joined A x y B) i ↔ Cov (A ++ x :: y :: B) i := by
  unfold joined; split
  · rw [cov_append, cov_append, cov_cons, cov_cons, cov_cons]
    simp only
    constructor
    · rintro (h | h | h)
      · exact Or.inl h
      · by_cases hi : i < x.1 + x.2
        · exact Or.inr (Or.inl ⟨h.1, hi⟩)
        · exact Or.inr (Or.inr (Or.inl (by omega)))
      · exact Or.inr (Or.inr (Or.inr h))
    · rintro (h | h | h | h)
      · exact Or.inl h
      · exact Or.inr (Or.inl (by omega))
      · exact Or.inr (Or.inl (by omega))
      · exact Or.inr (Or.inr h)
  · rfl

/-- A GIVE, its first join: behind the run that is given. -/
def giveB (A : List (Int × Int)) (g : Int × Int) : List (Int × Int) → List (Int × Int)
  | [] => A ++ [g]
  | y :: B => joined A g y B
/-- .. and its second one: ahead of it. -/
theorem give_good {hi a n : Int} {A B : List (Int × Int)} (hB : Good (a + n) hi B) (h2 : 1 ≤ n) (h3 : a + n ≤ hi) :
    ∃ m B', giveB A (a, n) B = A ++ (a, m) :: B' ∧ 1 ≤ m ∧ a + m ≤ hi ∧ Good (a + m + 1) hi B' ∧ (∀ i, Cov (A ++ (a, m) :: B') i ↔ Cov (A ++ B) i ∨ (a ≤ i ∧ i < a + n)) ∧ total (A ++ (a, m) :: B') = total (A ++ B) + n := by
  have hc : ∀ i, Cov (A ++ (a, n) :: B) i ↔ Cov (A ++ B) i ∨ (a ≤ i ∧ i < a + n) := fun i => by
    rw [cov_append, cov_append, cov_cons]
    simp only
    constructor
    · rintro (h | h | h)
      · exact Or.inl (Or.inl h)
      · exact Or.inr h
      · exact Or.inl (Or.inr h)
    · rintro ((h | h) | h)
      · exact Or.inl h
      · exact Or.inr (Or.inr h)
      · exact Or.inr (Or.inl h)
  have ht : total (A ++ (a, n) :: B) = total (A ++ B) + n := by simp only [total_append, total]; omega
  cases B with
  | nil => exact ⟨n, [], rfl, h2, h3, trivial, hc, ht⟩
  | cons y B =>
    obtain ⟨b1, b2, b3, b4⟩ := hB
    by_cases e : y.1 = a + n
    · refine ⟨n + y.2, B, by simp [giveB, joined, e], by omega, by omega, good_mono b4 (by omega) (Int.le_refl _), fun i => ?_, ?_⟩
      · have := cov_joined A (a, n) y B (by simp only; omega) (by omega) i
        rw [show joined A (a, n) y B = A ++ (a, n + y.2) :: B by simp [joined, e]] at this
        exact this.trans (hc i)
      · have := total_joined A (a, n) y B
        rw [show joined A (a, n) y B = A ++ (a, n + y.2) :: B by simp [joined, e]] at this
        exact this.trans ht
    · exact ⟨n, y :: B, by simp [giveB, joined, e], h2, h3, ⟨by omega, b2, b3, b4⟩, hc, ht⟩
theorem give_last {lo hi a m : Int} {A B : List (Int × Int)} {z : Int × Int} (hA : Good lo a (A ++ [z])) (h2 : 1 ≤ m) (h3 : a + m ≤ hi) (hB : Good (a + m + 1) hi B) : Good lo hi (joined A z (a, m) B) := by
  obtain ⟨g1, g2, g3, g4, _⟩ := good_mid hA
  unfold joined
  simp only
  split
  · exact good_join g1 g2 (by simp only; omega) (by simp only; omega) (by simp only; exact good_mono hB (by omega) (Int.le_refl _))
  · exact good_join g1 g2 g3 (by omega) ⟨by simp only; omega, by simp only; omega, by simp only; omega, by simpa using hB⟩
theorem give_first {lo hi a m : Int} {B : List (Int × Int)} (h1 : lo ≤ a) (h2 : 1 ≤ m) (h3 : a + m ≤ hi) (hB : Good (a + m + 1) hi B) : Good lo hi ((a, m) :: B) := ⟨h1, h2, h3, hB⟩

end Go.Proofs.Ytbjlpmjalidfkaa.Ex
