import Derived.Laws.OwnMore
import Derived.Laws.CopyRow
import Derived.Lib.SliceRun
import Derived.Lib.AppendZerosOnto
import Derived.Lib.Overlaps
import Derived.Laws.Externs
import Derived.Laws.IdiomCopy
import Derived.Deep.RegionLaw
import Derived.Deep.AppendLies
import Derived.Lib.Hide
import Derived.Test.YthcgmfcibjinlaaMg4
/- Runs of places as a list: they rise, none touches the next; what is covered tells the list; taken from and given back to. Nothing of the program. -/
namespace Go.Proofs.Ythcgmfcibjinlaa.Ex

/-- Runs, the first place and how many: each has a place, all lie from lo on and end by hi, none touches the next. -/
def Good (lo hi : Int) : List (Int × Int) → Prop
  | [] => True
  | x :: r => lo ≤ x.1 ∧ 1 ≤ x.2 ∧ x.1 + x.2 ≤ hi ∧ Good (x.1 + x.2 + 1) hi r
def Cov (L : List (Int × Int)) (i : Int) : Prop := ∃ x, x ∈ L ∧ x.1 ≤ i ∧ i < x.1 + x.2
def total : List (Int × Int) → Int
  | [] => 0
  | x :: r => x.2 + total r

theorem cov_nil (i : Int) : ¬ Cov [] i := by rintro ⟨x, h, _⟩; cases h
theorem cov_cons (x : Int × Int) (L : List (Int × Int)) (i : Int) : Cov (x :: L) i ↔ (x.1 ≤ i ∧ i < x.1 + x.2) ∨ Cov L i := by
  constructor
  · rintro ⟨y, hy, h⟩
    rcases List.mem_cons.1 hy with rfl | hy
    · exact Or.inl h
    · exact Or.inr ⟨y, hy, h⟩
  · rintro (h | ⟨y, hy, h⟩)
    · exact ⟨x, List.mem_cons_self, h⟩
    · exact ⟨y, List.mem_cons_of_mem _ hy, h⟩
theorem cov_append (A B : List (Int × Int)) (i : Int) : Cov (A ++ B) i ↔ Cov A i ∨ Cov B i := by
  induction A with
  | nil => simp [cov_nil]
  | cons x A ih => rw [List.cons_append, cov_cons, cov_cons, ih]; exact or_assoc.symm
theorem total_append (A B : List (Int × Int)) : total (A ++ B) = total A + total B := by
  induction A with
  | nil => simp [total]
  | cons x A ih => simp only [List.cons_append, total, ih]; omega

theorem good_mono {lo hi lo' hi' : Int} {L : List (Int × Int)} (h : Good lo hi L) (h1 : lo' ≤ lo) (h2 : hi ≤ hi') : Good lo' hi' L := by
  induction L generalizing lo lo' with
  | nil => trivial
  | cons x r ih => obtain ⟨a, b, c, d⟩ := h; exact ⟨by omega, b, by omega, ih d (Int.le_refl _)⟩
theorem good_mem {lo hi : Int} {L : List (Int × Int)} (h : Good lo hi L) {x : Int × Int} (hx : x ∈ L) : lo ≤ x.1 ∧ 1 ≤ x.2 ∧ x.1 + x.2 ≤ hi := by
  induction L generalizing lo with
  | nil => cases hx
  | cons y r ih =>
    obtain ⟨a, b, c, d⟩ := h
    rcases List.mem_cons.1 hx with rfl | hx
    · exact ⟨a, b, c⟩
    · have := ih d hx; exact ⟨by omega, this.2⟩
theorem good_cov {lo hi : Int} {L : List (Int × Int)} (h : Good lo hi L) {i : Int} (hi' : Cov L i) : lo ≤ i ∧ i < hi := by
  obtain ⟨x, hx, h1, h2⟩ := hi'
  have := good_mem h hx
  omega
theorem good_unique {lo hi : Int} : ∀ {L M : List (Int × Int)} {lo' : Int}, Good lo hi L → Good lo' hi M → (∀ i, Cov L i ↔ Cov M i) → L = M
  | [], [], _, _, _, _ => rfl
  | [], y :: M, _, _, h, e => absurd ((e y.1).2 ((cov_cons _ _ _).2 (Or.inl ⟨Int.le_refl _, by have := h.2.1; omega⟩))) (cov_nil _)
  | x :: L, [], _, h, _, e => absurd ((e x.1).1 ((cov_cons _ _ _).2 (Or.inl ⟨Int.le_refl _, by have := h.2.1; omega⟩))) (cov_nil _)
  | x :: L, y :: M, lo', hL, hM, e => by
    obtain ⟨a1, a2, a3, a4⟩ := hL
    obtain ⟨b1, b2, b3, b4⟩ := hM
    have e1 := (cov_cons _ _ _).1 ((e x.1).1 ((cov_cons _ _ _).2 (Or.inl ⟨Int.le_refl _, by omega⟩)))
    have e2 := (cov_cons _ _ _).1 ((e y.1).2 ((cov_cons _ _ _).2 (Or.inl ⟨Int.le_refl _, by omega⟩)))
    have f1 : y.1 ≤ x.1 := by
      rcases e1 with h | h
      · omega
      · have := good_cov b4 h; omega
    have f2 : x.1 ≤ y.1 := by
      rcases e2 with h | h
      · omega
      · have := good_cov a4 h; omega
    have f3 : ¬ x.2 < y.2 := fun hlt => by
      rcases (cov_cons _ _ _).1 ((e (x.1 + x.2)).2 ((cov_cons _ _ _).2 (Or.inl ⟨by omega, by omega⟩))) with h | h
      · omega
      · have := good_cov a4 h; omega
    have f4 : ¬ y.2 < x.2 := fun hlt => by
      rcases (cov_cons _ _ _).1 ((e (y.1 + y.2)).1 ((cov_cons _ _ _).2 (Or.inl ⟨by omega, by omega⟩))) with h | h
      · omega
      · have := good_cov b4 h; omega
    obtain ⟨x1, x2⟩ := x
    obtain ⟨y1, y2⟩ := y
    simp only at *
    obtain rfl : x1 = y1 := by omega
    obtain rfl : x2 = y2 := by omega
    congr 1
    refine good_unique a4 b4 fun i => ⟨fun h => ?_, fun h => ?_⟩
    · have := good_cov a4 h
      rcases (cov_cons _ _ _).1 ((e i).1 ((cov_cons _ _ _).2 (Or.inr h))) with h' | h'
      · simp only at h'; omega
      · exact h'
    · have := good_cov b4 h
      rcases (cov_cons _ _ _).1 ((e i).2 ((cov_cons _ _ _).2 (Or.inr h))) with h' | h'
      · simp only at h'; omega
      · exact h'

theorem good_mid {lo hi : Int} {A B : List (Int × Int)} {x : Int × Int} (h : Good lo hi (A ++ x :: B)) : Good lo (x.1 - 1) A ∧ lo ≤ x.1 ∧ 1 ≤ x.2 ∧ x.1 + x.2 ≤ hi ∧ Good (x.1 + x.2 + 1) hi B := by
  induction A generalizing lo with
  | nil => exact ⟨trivial, h⟩
  | cons y A ih =>
    obtain ⟨a, b, c, d⟩ := h
    obtain ⟨h1, h2, h3, h4, h5⟩ := ih d
    exact ⟨⟨a, b, by omega, h1⟩, by omega, h3, h4, h5⟩
theorem good_join {lo hi : Int} {A B : List (Int × Int)} {x : Int × Int} (h1 : Good lo (x.1 - 1) A) (h2 : lo ≤ x.1) (h3 : 1 ≤ x.2) (h4 : x.1 + x.2 ≤ hi) (h5 : Good (x.1 + x.2 + 1) hi B) : Good lo hi (A ++ x :: B) := by
  induction A generalizing lo with
  | nil => exact ⟨h2, h3, h4, h5⟩
  | cons y A ih =>
    obtain ⟨a, b, c, d⟩ := h1
    exact ⟨a, b, by omega, ih d (by omega)⟩
theorem good_app {lo mid hi : Int} {A B : List (Int × Int)} (h1 : Good lo mid A) (h2 : Good (mid + 1) hi B) (h3 : lo ≤ mid + 1) (h4 : mid ≤ hi) : Good lo hi (A ++ B) := by
  induction A generalizing lo with
  | nil => exact good_mono h2 h3 (Int.le_refl _)
  | cons y A ih =>
    obtain ⟨a, b, c, d⟩ := h1
    exact ⟨a, b, by omega, ih d (by omega)⟩
theorem good_left {lo hi : Int} {A B : List (Int × Int)} (h : Good lo hi (A ++ B)) : Good lo hi A := by
  induction A generalizing lo with
  | nil => trivial
  | cons y A ih => obtain ⟨a, b, c, d⟩ := h; exact ⟨a, b, c, ih d⟩
theorem good_right {lo hi : Int} {A B : List (Int × Int)} (h : Good lo hi (A ++ B)) : Good lo hi B := by
  induction A generalizing lo with
  | nil => exact h
  | cons y A ih => obtain ⟨a, b, c, d⟩ := h; exact good_mono (ih d) (by omega) (Int.le_refl _)
theorem good_hi {lo hi h : Int} {A : List (Int × Int)} (hA : Good lo hi A) (hh : ∀ x, x ∈ A → x.1 + x.2 ≤ h) : Good lo h A := by
  induction A generalizing lo with
  | nil => trivial
  | cons y A ih =>
    obtain ⟨a, b, c, d⟩ := hA
    exact ⟨a, b, hh y List.mem_cons_self, ih d fun x hx => hh x (List.mem_cons_of_mem _ hx)⟩
theorem good_lo {lo hi l : Int} {B : List (Int × Int)} (hB : Good lo hi B) (hl : ∀ x, x ∈ B → l ≤ x.1) : Good l hi B := by
  cases B with
  | nil => trivial
  | cons y B => obtain ⟨a, b, c, d⟩ := hB; exact ⟨hl y List.mem_cons_self, b, c, d⟩

/-- A TAKE: of a run its first n places are taken. -/
theorem take_whole {lo hi : Int} {A B : List (Int × Int)} {x : Int × Int} (h : Good lo hi (A ++ x :: B)) :
    Good lo hi (A ++ B) ∧ (∀ i, Cov (A ++ B) i ↔ Cov (A ++ x :: B) i ∧ ¬ (x.1 ≤ i ∧ i < x.1 + x.2)) ∧ total (A ++ B) = total (A ++ x :: B) - x.2 := by
  obtain ⟨h1, h2, h3, h4, h5⟩ := good_mid h
  refine ⟨good_app h1 (good_mono h5 (by omega) (Int.le_refl _)) (by omega) (by omega), fun i => ?_, by simp only [total_append, total]; omega⟩
  rw [cov_append, cov_append, cov_cons]
  constructor
  · rintro (h | h)
    · have := good_cov h1 h; exact ⟨Or.inl h, by omega⟩
    · have := good_cov h5 h; exact ⟨Or.inr (Or.inr h), by omega⟩
  · rintro ⟨h | h | h, hn⟩
    · exact Or.inl h
    · exact absurd h hn
    · exact Or.inr h
theorem take_part {lo hi n : Int} {A B : List (Int × Int)} {x : Int × Int} (h : Good lo hi (A ++ x :: B)) (hn : 1 ≤ n) (hx : n < x.2) :
    Good lo hi (A ++ (x.1 + n, x.2 - n) :: B) ∧ (∀ i, Cov (A ++ (x.1 + n, x.2 - n) :: B) i ↔ Cov (A ++ x :: B) i ∧ ¬ (x.1 ≤ i ∧ i < x.1 + n)) ∧ total (A ++ (x.1 + n, x.2 - n) :: B) = total (A ++ x :: B) - n := by
  obtain ⟨h1, h2, h3, h4, h5⟩ := good_mid h
  refine ⟨good_join (good_mono h1 (Int.le_refl _) (by simp only; omega)) (by simp only; omega) (by simp only; omega) (by simp only; omega) (good_mono h5 (by simp only; omega) (Int.le_refl _)), fun i => ?_, by simp only [total_append, total]; omega⟩
  rw [cov_append, cov_append, cov_cons, cov_cons]
  simp only
  constructor
  · rintro (h | h | h)
    · have := good_cov h1 h; exact ⟨Or.inl h, by omega⟩
    · exact ⟨Or.inr (Or.inl (by omega)), by omega⟩
    · have := good_cov h5 h; exact ⟨Or.inr (Or.inr h), by omega⟩
  · rintro ⟨h | h | h, hn⟩
    · exact Or.inl h
    · exact Or.inr (Or.inl (by omega))
    · exact Or.inr (Or.inr h)

/-- Two runs that touch are one. -/
def joined (A : List (Int × Int)) (x y : Int × Int) (B : List (Int × Int)) : List (Int × Int) := if y.1 = x.1 + x.2 then A ++ (x.1, x.2 + y.2) :: B else A ++ x :: y :: B
theorem total_joined (A : List (Int × Int)) (x y : Int × Int) (B : List (Int × Int)) : total (joined A x y B) = total (A ++ x :: y :: B) := by
  unfold joined; split
  · simp only [total_append, total]; omega
  · rfl
theorem cov_joined (A : List (Int × Int)) (x y : Int × Int) (B : List (Int × Int)) (h1 : 0 ≤ x.2) (h2 : 0 ≤ y.2) (i : Int) : Cov (joined A x y B) i ↔ Cov (A ++ x :: y :: B) i := by
  unfold joined; split
  · rw [cov_append, cov_append, cov_cons, cov_cons, cov_cons]
    simp only
    constructor
    · rintro (h | h | h)
      · exact Or.inl h
      · by_cases hi : i < x.1 + x.2
        · exact Or.inr (Or.inl ⟨h.1, hi⟩)
        · exact Or.inr (Or.inr (Or.inl (by omega)))
      · exact Or.inr (Or.inr (Or.inr h))
    · rintro (h | h | h | h)
      · exact Or.inl h
      · exact Or.inr (Or.inl (by omega))
      · exact Or.inr (Or.inl (by omega))
      · exact Or.inr (Or.inr h)
  · rfl

/-- A GIVE, its first join: behind the run that is given. -/
def giveB (A : List (Int × Int)) (g : Int × Int) : List (Int × Int) → List (Int × Int)
  | [] => A ++ [g]
  | y :: B => joined A g y B
/-- .. and its second one: ahead of it. -/
theorem give_good {hi a n : Int} {A B : List (Int × Int)} (hB : Good (a + n) hi B) (h2 : 1 ≤ n) (h3 : a + n ≤ hi) :
    ∃ m B', giveB A (a, n) B = A ++ (a, m) :: B' ∧ 1 ≤ m ∧ a + m ≤ hi ∧ Good (a + m + 1) hi B' ∧ (∀ i, Cov (A ++ (a, m) :: B') i ↔ Cov (A ++ B) i ∨ (a ≤ i ∧ i < a + n)) ∧ total (A ++ (a, m) :: B') = total (A ++ B) + n := by
  have hc : ∀ i, Cov (A ++ (a, n) :: B) i ↔ Cov (A ++ B) i ∨ (a ≤ i ∧ i < a + n) := fun i => by
    rw [cov_append, cov_append, cov_cons]
    simp only
    constructor
    · rintro (h | h | h)
      · exact Or.inl (Or.inl h)
      · exact Or.inr h
      · exact Or.inl (Or.inr h)
    · rintro ((h | h) | h)
      · exact Or.inl h
      · exact Or.inr (Or.inr h)
      · exact Or.inr (Or.inl h)
  have ht : total (A ++ (a, n) :: B) = total (A ++ B) + n := by simp only [total_append, total]; omega
  cases B with
  | nil => exact ⟨n, [], rfl, h2, h3, trivial, hc, ht⟩
  | cons y B =>
    obtain ⟨b1, b2, b3, b4⟩ := hB
    by_cases e : y.1 = a + n
    · refine ⟨n + y.2, B, by simp [giveB, joined, e], by omega, by omega, good_mono b4 (by omega) (Int.le_refl _), fun i => ?_, ?_⟩
      · have := cov_joined A (a, n) y B (by simp only; omega) (by omega) i
        rw [show joined A (a, n) y B = A ++ (a, n + y.2) :: B by simp [joined, e]] at this
        exact this.trans (hc i)
      · have := total_joined A (a, n) y B
        rw [show joined A (a, n) y B = A ++ (a, n + y.2) :: B by simp [joined, e]] at this
        exact this.trans ht
    · exact ⟨n, y :: B, by simp [giveB, joined, e], h2, h3, ⟨by omega, b2, b3, b4⟩, hc, ht⟩
theorem give_last {lo hi a m : Int} {A B : List (Int × Int)} {z : Int × Int} (hA : Good lo a (A ++ [z])) (h2 : 1 ≤ m) (h3 : a + m ≤ hi) (hB : Good (a + m + 1) hi B) : Good lo hi (joined A z (a, m) B) := by
  obtain ⟨g1, g2, g3, g4, _⟩ := good_mid hA
  unfold joined
  simp only
  split
  · exact good_join g1 g2 (by simp only; omega) (by simp only; omega) (by simp only; exact good_mono hB (by omega) (Int.le_refl _))
  · exact good_join g1 g2 g3 (by omega) ⟨by simp only; omega, by simp only; omega, by simp only; omega, by simpa using hB⟩
theorem give_first {lo hi a m : Int} {B : List (Int × Int)} (h1 : lo ≤ a) (h2 : 1 ≤ m) (h3 : a + m ≤ hi) (hB : Good (a + m + 1) hi B) : Good lo hi ((a, m) :: B) := ⟨h1, h2, h3, hB⟩

end Go.Proofs.Ythcgmfcibjinlaa.Ex

/- The runs as they lie in one block, two words a run; what append, copy and clear make of such a block; slices.Delete of one run. -/
namespace Go.Proofs.Ythcgmfcibjinlaa.Ex
open Go.RowKit Go.Sort

def flat : List (Int × Int) → List Value
  | [] => []
  | x :: r => .int .i64 x.1 :: .int .i64 x.2 :: flat r
theorem flat_length (L : List (Int × Int)) : (flat L).length = L.length * 2 := by
  induction L with
  | nil => rfl
  | cons x r ih => simp only [flat, List.length_cons, ih]; omega
theorem flat_append (A B : List (Int × Int)) : flat (A ++ B) = flat A ++ flat B := by
  induction A with
  | nil => rfl
  | cons x r ih => simp only [List.cons_append, flat, ih]
theorem flat_one (L : List (Int × Int)) : ∀ u ∈ flat L, u.oneCell' = true := by
  induction L with
  | nil => intro u hu; cases hu
  | cons x r ih =>
    intro u hu
    simp only [flat, List.mem_cons] at hu
    rcases hu with rfl | rfl | hu
    · rfl
    · rfl
    · exact ih u hu
theorem flat_get {L : List (Int × Int)} {k : Nat} {x : Int × Int} (h : L[k]? = some x) : (flat L)[k * 2]? = some (.int .i64 x.1) ∧ (flat L)[k * 2 + 1]? = some (.int .i64 x.2) := by
  induction L generalizing k with
  | nil => simp at h
  | cons y r ih =>
    cases k with
    | zero => simp only [List.getElem?_cons_zero, Option.some.injEq] at h; subst h; exact ⟨rfl, rfl⟩
    | succ k =>
      simp only [List.getElem?_cons_succ] at h
      have := ih h
      rw [show (k + 1) * 2 = k * 2 + 1 + 1 by omega, show k * 2 + 1 + 1 + 1 = (k * 2 + 1) + 1 + 1 by omega]
      simp only [flat, List.getElem?_cons_succ]
      exact this

/-- Runs in a block. -/
def Own (T : TypeId) (w : World) (g cap : Nat) (L : List (Int × Int)) : Prop := w.ownsRow 0 T 2 (.slice (some ⟨g, 0, none⟩) L.length cap) L.length (flat L)

section
variable {T : TypeId} {w w' : World} {g cap : Nat} {L : List (Int × Int)}
theorem Own.heap (h : Own T w g cap L) : ∃ S : List Value, w.heap[g]? = some (.cells (flat L ++ S).toArray T (0, 0)) ∧ (flat L ++ S).length = cap * 2 ∧ L.length ≤ cap ∧ cap ≤ maxLen := by
  rcases h.2 with ⟨h', _⟩ | ⟨g', cap', cur, h', _, hg, hn, hm, hs, htake⟩
  · simp at h'
  · simp only [Value.slice.injEq, Option.some.injEq, Addr.mk.injEq, and_true, true_and] at h'
    obtain ⟨rfl, rfl⟩ := h'
    refine ⟨cur.toList.drop (L.length * 2), ?_, ?_, hn, hm⟩
    · rw [← htake, List.take_append_drop]; exact hg
    · rw [← htake, List.take_append_drop]; simpa using hs
theorem Own.mk {S : List Value} (hg : w.heap[g]? = some (.cells (flat L ++ S).toArray T (0, 0))) (hs : (flat L ++ S).length = cap * 2) (hm : cap ≤ maxLen) : Own T w g cap L := by
  refine ⟨flat_length L, .inr ⟨g, cap, _, rfl, Nat.zero_le _, hg, ?_, hm, by simpa using hs, ?_⟩⟩
  · rw [List.length_append, flat_length] at hs; omega
  · rw [← flat_length]; simp
theorem Own.lt (h : Own T w g cap L) : g < w.heap.size := by
  obtain ⟨S, hg, _⟩ := h.heap
  rcases Nat.lt_or_ge g w.heap.size with h' | h'
  · exact h'
  · rw [Array.getElem?_eq_none h'] at hg; cases hg
theorem Own.move (h : Own T w g cap L) (e : w'.heap[g]? = w.heap[g]?) : Own T w' g cap L := by
  obtain ⟨S, hg, hs, _, hm⟩ := h.heap
  exact Own.mk (e.trans hg) hs hm
theorem Own.cell (h : Own T w g cap L) {k : Nat} {x : Int × Int} (hx : L[k]? = some x) : w.cell? ⟨g, k * 2, none⟩ = some (.int .i64 x.1) ∧ w.cell? ⟨g, k * 2 + 1, none⟩ = some (.int .i64 x.2) := by
  have hk : k < L.length := (List.getElem?_eq_some_iff.1 hx).1
  have := flat_get hx
  exact ⟨(World.ownsRow.cellAt h (k * 2) (by omega)).trans this.1, (World.ownsRow.cellAt h (k * 2 + 1) (by omega)).trans this.2⟩
theorem Own.frozen (h : Own T w g cap L) (j : Nat) : w.frozen? ⟨g, j, none⟩ = false := World.ownsRow.frozenAt h j
theorem flat_set {A B : List (Int × Int)} {x y : Int × Int} {k : Nat} (hk : A.length = k) : ((flat (A ++ x :: B)).set (k * 2) (.int .i64 y.1)).set (k * 2 + 1) (.int .i64 y.2) = flat (A ++ y :: B) := by
  rw [flat_append, flat_append, List.set_append, if_neg (by rw [flat_length]; omega), List.set_append, if_neg (by rw [flat_length]; omega), flat_length, hk, Nat.sub_self, Nat.add_sub_cancel_left]
  rfl
theorem Own.put {A B : List (Int × Int)} {x y : Int × Int} {k : Nat} (hk : A.length = k) (h : Own T w g cap (A ++ x :: B)) :
    Own T ((w.setCell ⟨g, k * 2, none⟩ (.int .i64 y.1)).setCell ⟨g, k * 2 + 1, none⟩ (.int .i64 y.2)) g cap (A ++ y :: B) := by
  have h1 := (World.ownsRow.stored h (k * 2) (.int .i64 y.1)).1
  have h2 := (World.ownsRow.stored h1 (k * 2 + 1) (.int .i64 y.2)).1
  rw [flat_set hk] at h2
  have e : (A ++ y :: B).length = (A ++ x :: B).length := by simp
  unfold Own
  rw [e]
  exact h2
end

section
variable {P : Program} (w : World)
/-- copy, two words an element, within a block that is known whole. -/
theorem run_copy_pairs (dT sT ty elem : TypeId) (g o dLen dCap : Nat) (a : Addr) (sLen sCap k : Nat) (cur : Array Value) (t : TypeId) (cs : List Value)
    (hu : P.underlying dT = some (.slice elem)) (hs : (P.info? elem).map (·.size) = some 2)
    (hg : w.heap[g]? = some (.cells cur t (0, 0))) (hk : Nat.min sLen dLen = k) (hn : cs.length = k * 2)
    (hsrc : ∀ j v, cs[j]? = some v → w.cell? (a.add j) = some v) (hfit : o + cs.length ≤ cur.size) (h1 : ∀ v ∈ cs, v.oneCell' = true) :
    (Builtin.copy_ #[dT, sT] ty #[.slice (some ⟨g, o, none⟩) dLen dCap, .slice (some a) sLen sCap]).run P w =
      .ok (goInt k) (w.setRow g (cur.toList.take o ++ cs ++ cur.toList.drop (o + cs.length)).toArray) := by
  have hl := run_loadCells_list (P := P) w a cs hsrc
  have hst := run_storeCells_at P g o t cs 0 cur w hg (by simpa using hfit) h1
  cases hq : P.info? elem with
  | none => simp [hq] at hs
  | some i =>
    have hi : i.size = 2 := by simpa [hq] using hs
    simp [Builtin.copy_, run_underlying hu, Builtin.lenOf, Builtin.firstCells, sizeOf, typeInfo, hq, hi, hk, ← hn, hl, hst]

/-- clear of one element of two words. -/
theorem run_clear_pair (t e ty : TypeId) (z : Value) (z0 z1 : Value) (ht : P.underlying t = some (.slice e)) (hv : ∀ w, (zeroValue e).run P w = .ok z w) (hz : z.cells = #[z0, z1]) (h0 : z0.oneCell' = true) (h1 : z1.oneCell' = true)
    (g o c : Nat) (cur : Array Value) (T : TypeId) (hg : w.heap[g]? = some (.cells cur T (0, 0))) (hfit : o + 2 ≤ cur.size) :
    (Builtin.clear_ #[t] ty #[.slice (some ⟨g, o, none⟩) 1 c]).run P w = .ok (.tuple #[]) (w.setRow g (cur.toList.take o ++ [z0, z1] ++ cur.toList.drop (o + 2)).toArray) := by
  have hzc : (Builtin.zeroCells z.cells 1).toList = [z0, z1] := by rw [hz]; simp [Builtin.zeroCells, List.range_succ]
  have hst := run_storeCells_at P g o T [z0, z1] 0 cur w hg (by simpa using hfit) (by intro v hv'; simp at hv'; rcases hv' with rfl | rfl <;> assumption)
  simp only [Nat.add_zero] at hst
  simp [Builtin.clear_, run_underlying ht, hv, hzc, hst]

theorem wp_clear_run {o : Oper} {a : Act} {K : Act → World → Prop} {Q : Exit → Act → World → Prop} (d : Operand) (t : TypeId)
    (ho : o.op = .call { callee := .builtin .clear, args := #[d], argTypes := #[t] }) (v : Value) (hd : a.eval d = v) {v' : Value} {w' : World}
    (hr : (Builtin.clear_ #[t] o.type #[v]).run P w = .ok v' w') (h : K (a.put o.dst v') w') : o.wp P a w K Q := by
  unfold Oper.wp execOp
  simp only [ho, resolve, invoke, builtin, Sem.run_bind, Sem.run_pure, Result.andThen_ok, List.map_toArray, List.map_cons, List.map_nil, hd, hr]
  exact h

theorem wp_copy_run {o : Oper} {a : Act} {K : Act → World → Prop} {Q : Exit → Act → World → Prop} (d s : Operand) (t t' : TypeId)
    (ho : o.op = .call { callee := .builtin .copy, args := #[d, s], argTypes := #[t, t'] }) (v u : Value) (hd : a.eval d = v) (hs : a.eval s = u) {v' : Value} {w' : World}
    (hr : (Builtin.copy_ #[t, t'] o.type #[v, u]).run P w = .ok v' w') (h : K (a.put o.dst v') w') : o.wp P a w K Q := by
  unfold Oper.wp execOp
  simp only [ho, resolve, invoke, builtin, Sem.run_bind, Sem.run_pure, Result.andThen_ok, List.map_toArray, List.map_cons, List.map_nil, hd, hs, hr]
  exact h
theorem wpList_copy_run {ops : Array Oper} {rest : List Oper} {o : Oper} {a : Act} {Q : Exit → Act → World → Prop} (hgd : o.guard = none) (d s : Operand) (t t' : TypeId)
    (ho : o.op = .call { callee := .builtin .copy, args := #[d, s], argTypes := #[t, t'] }) (v u : Value) (hd : a.eval d = v) (hs : a.eval s = u) {v' : Value} {w' : World}
    (hr : (Builtin.copy_ #[t, t'] o.type #[v, u]).run P w = .ok v' w') (h : wpList P ops Q rest (a.put o.dst v') w') : wpList P ops Q (o :: rest) a w :=
  wpList_plain hgd fun _ hK => wp_copy_run w d s t t' ho v u hd hs hr (hK _ _ h)
theorem step_copy_run {ops : Array Oper} {o : Oper} {a : Act} {K : Act → World → Prop} {Q : Exit → Act → World → Prop} {E : Prop}
    (hg : o.guard = none) (d x : Operand) (dT sT : TypeId) (hop : o.op = Op.call { callee := Callee.builtin Builtin.copy, args := #[d, x], argTypes := #[dT, sT] })
    (v u : Value) (hd : a.eval d = v) (hx : a.eval x = u) {v' : Value} {w' : World} (hr : (Builtin.copy_ #[dT, sT] o.type #[v, u]).run P w = .ok v' w') (hK : K (a.put o.dst v') w') :
    if Region.wanted o (yielded ops a.tmps) = true then Oper.wp P o a w K Q else E := by
  have hw : Region.wanted o (yielded ops a.tmps) = true := by simp [Region.wanted, hg]
  rw [if_pos hw]
  exact wp_copy_run w d x dT sT hop v u hd hx hr hK
theorem step_append_run {ops : Array Oper} {o : Oper} {a : Act} {K : Act → World → Prop} {Q : Exit → Act → World → Prop} {E : Prop}
    (hg : o.guard = none) (d x : Operand) (dT sT : TypeId) (hop : o.op = Op.call { callee := Callee.builtin Builtin.append, args := #[d, x], argTypes := #[dT, sT] })
    (v u : Value) (hd : a.eval d = v) (hx : a.eval x = u) {v' : Value} {w' : World} (hr : (Builtin.append_ #[dT, sT] o.type #[v, u]).run P w = .ok v' w') (hK : K (a.put o.dst v') w') :
    if Region.wanted o (yielded ops a.tmps) = true then Oper.wp P o a w K Q else E := by
  have hw : Region.wanted o (yielded ops a.tmps) = true := by simp [Region.wanted, hg]
  rw [if_pos hw]
  exact Lib.wp_append_run w d x dT sT hop v u hd hx _ _ hr hK
end

theorem Try.info_pair : (Try.prog.info? 145).map (fun i => (i.zero, i.size, i.bytes)) = some (some (.agg #[.int .i64 0, .int .i64 0]), 2, 16) := by kernel_rfl

set_option maxHeartbeats 4000000 in
set_option maxRecDepth 100000 in
/-- slices.Delete of one run: what stood behind it comes forward; in place. -/
theorem delete_any (w : World) (g cap i j n : Nat) (A B : List (Int × Int)) (x : Int × Int) (hO : Own 145 w g cap (A ++ x :: B)) (hA : A.length = i) (hj : i + 1 = j) (hB : B.length = n - j) (hjn : j ≤ n) :
    Calls Try.prog 112 #[.slice (some ⟨g, 0, none⟩) n cap, .int .i64 i, .int .i64 j] w fun e w' =>
      e = .returned (.slice (some ⟨g, 0, none⟩) (n - 1) cap) ∧ Own 145 w' g cap (A ++ B) ∧ w.grownBy w' (some g) := by
  obtain ⟨i0, hi0, hz0, hzs, hzb⟩ := info_parts Try.info_pair
  obtain ⟨S, hg, hs, hn, hm⟩ := hO.heap
  have hl : (A ++ x :: B).length = n := by simp; omega
  have fA := flat_length A
  have fB := flat_length B
  rw [hl] at hn
  unfold maxLen at hm
  rw [hA] at fA
  rw [hB] at fB
  -- the row behind the append, and behind clear
  have e0 : flat (A ++ x :: B) ++ S = flat A ++ ([.int .i64 x.1, .int .i64 x.2] ++ flat B ++ S) := by rw [flat_append]; simp [flat]
  have hsz : (flat A ++ ([Value.int .i64 x.1, .int .i64 x.2] ++ flat B ++ S)).length = cap * 2 := by rw [← e0]; exact hs
  rw [e0] at hg
  generalize hcur : (flat A ++ ([Value.int .i64 x.1, .int .i64 x.2] ++ flat B ++ S)).toArray = cur at hg
  have hcl : cur.toList = flat A ++ ([Value.int .i64 x.1, .int .i64 x.2] ++ flat B ++ S) := by rw [← hcur]
  have hcs : cur.size = cap * 2 := by rw [← hsz, ← hcur]; simp
  have hgd : w.drew.heap[g]? = some (.cells cur 145 (0, 0)) := hg
  obtain ⟨W1, hW1⟩ : ∃ W1, W1 = w.drew.setRow g (flat A ++ flat B ++ cur.toList.drop ((i + (n - j)) * 2)).toArray := ⟨_, rfl⟩
  have happ : ∀ (ad : Addr) c, (∀ k u, (flat B)[k]? = some u → w.drew.cell? (ad.add k) = some u) → ∀ ty, (Builtin.append_ #[146, 146] ty #[.slice (some ⟨g, 0, none⟩) i cap, .slice (some ad) (n - j) c]).run Try.prog w.drew =
      .ok (.slice (some ⟨g, 0, none⟩) (i + (n - j)) cap) W1 := fun ad c hsrc ty => by
    have h := run_append_room (P := Try.prog) w.drew 146 ty 145 i0 Try.underlying146 hi0 g i cap cur hgd ad (n - j) c (flat B) (by rw [hzs]; exact fB) hsrc (flat_one B) (by omega) (by rw [hzs, fB, hcs]; omega)
    rw [hzs, fB, show cur.toList.take (i * 2) = flat A by rw [hcl, ← fA]; simp, show i * 2 + (n - j) * 2 = (i + (n - j)) * 2 by omega] at h
    rw [hW1]
    exact h
  have hnew : ∀ k u, (flat B)[k]? = some u → w.drew.cell? ⟨g, j * 2 + k, none⟩ = some u := fun k u hk => by
    rw [show w.drew.cell? ⟨g, j * 2 + k, none⟩ = w.cell? ⟨g, j * 2 + k, none⟩ from rfl, cell_of_row w g _ cur _ _ hg, ← Array.getElem?_toList, hcl, List.getElem?_append_right (by omega), fA, show j * 2 + k - i * 2 = k + 1 + 1 by omega]
    have hkl := (List.getElem?_eq_some_iff.1 hk).1
    simp only [List.cons_append, List.nil_append, List.getElem?_cons_succ]
    rw [List.getElem?_append_left hkl]
    exact hk
  have g1 : W1.heap[g]? = some (.cells (flat A ++ flat B ++ cur.toList.drop ((i + (n - j)) * 2)).toArray 145 (0, 0)) := by rw [hW1]; exact setRow_heap w.drew g cur _ _ _ hgd
  have hl1 : (flat A ++ flat B ++ cur.toList.drop ((i + (n - j)) * 2)).length = cap * 2 := by simp [fA, fB, hcs]; omega
  have hclr : ∀ c ty, (Builtin.clear_ #[146] ty #[.slice (some ⟨g, (i + (n - j)) * 2, none⟩) 1 c]).run Try.prog W1 =
      .ok (.tuple #[]) (W1.setRow g (flat (A ++ B) ++ ([Value.int .i64 0, .int .i64 0] ++ cur.toList.drop ((i + (n - j)) * 2 + 2))).toArray) := fun c ty => by
    have h := run_clear_pair (P := Try.prog) W1 146 145 ty (.agg #[.int .i64 0, .int .i64 0]) (.int .i64 0) (.int .i64 0) Try.underlying146 Try.zeroValue145 rfl rfl rfl g ((i + (n - j)) * 2) c _ _ g1 (by simp only [List.size_toArray, hl1]; omega)
    rw [h]
    congr 3
    have hAB : (flat A ++ flat B).length = (i + (n - j)) * 2 := by rw [List.length_append, fA, fB]; omega
    rw [show (flat A ++ flat B ++ cur.toList.drop ((i + (n - j)) * 2)).toArray.toList = flat A ++ flat B ++ cur.toList.drop ((i + (n - j)) * 2) from rfl, List.take_append_of_le_length (by omega), List.take_of_length_le (by omega), List.drop_append, hAB, List.drop_drop, flat_append, List.append_assoc]
    rw [List.drop_eq_nil_of_le (by omega), List.nil_append, Nat.add_sub_cancel_left]
  obtain ⟨W2, hW2⟩ : ∃ W2, W2 = W1.setRow g (flat (A ++ B) ++ ([Value.int .i64 0, .int .i64 0] ++ cur.toList.drop ((i + (n - j)) * 2 + 2))).toArray := ⟨_, rfl⟩
  rw [← hW2] at hclr
  have hEnd : Own 145 W2 g cap (A ++ B) ∧ w.grownBy W2 (some g) := by
    refine ⟨Own.mk (by rw [hW2]; exact setRow_heap W1 g _ _ _ _ g1) ?_ (by unfold maxLen; omega), ?_⟩
    · simp [flat_append, fA, fB, hcs]; omega
    · rw [hW2, hW1]
      exact ⟨rfl, rfl, rfl, by simp [World.setRow], fun k _ hk => (setRow_other _ g k _ (fun e => hk (by simp [e]))).trans (setRow_other w.drew g k _ (fun e => hk (by simp [e])))⟩
  have hne : ¬ i = j := by omega
  have hin : i ≤ cap := by omega
  have hjc : j ≤ cap := by omega
  have hij : i ≤ j := by omega
  have hlt : i + (n - j) ≤ n := by omega
  have HE := Lib.hid hEnd
  have h1 : n - (i + (n - j)) = 1 := by omega
  obtain ⟨ad, had, hap⟩ : ∃ ad : Addr, Hid ((if cap = j then some (⟨g, 0, none⟩ : Addr) else some ⟨g, j * 2, none⟩) = some ad) ∧ Hid (∀ c ty, (Builtin.append_ #[146, 146] ty #[.slice (some ⟨g, 0, none⟩) i cap, .slice (some ad) (n - j) c]).run Try.prog w.drew = .ok (.slice (some ⟨g, 0, none⟩) (i + (n - j)) cap) W1) := by
    by_cases hc : cap = j
    · refine ⟨⟨g, 0, none⟩, (by simp [hc] : _ = _), fun c ty => happ _ c (fun k u hk => ?_) ty⟩
      have : flat B = [] := List.eq_nil_of_length_eq_zero (by omega)
      rw [this] at hk
      simp at hk
    · exact ⟨⟨g, j * 2, none⟩, (by simp [hc] : _ = _), fun c ty => happ _ c (fun k u hk => by rw [Addr.add_lit]; exact hnew k u hk) ty⟩
  have HC := Lib.hid hclr
  clear hEnd hclr happ hnew g1 hl1 hW2 hW1 hcur hcl hcs hgd hsz e0 hg hs hl fA fB hA hB hj hO
  go_enter Try.func112, Try.ntmps112
  go_wp2_with fail
  go_region_law (refine step_append_run _ rfl (.tmp 22) (.tmp 25) 146 146 rfl (.slice (some ⟨g, 0, none⟩) i cap) (.slice (some ad) (n - j) (cap - j)) (by simp [Act.eval, Act.put]) (by simp [Act.eval, Act.put, had.out]) (hap.out _ _) ?_)
  all_goals replace HC := HC.out
  all_goals go_wp2_with fail
  all_goals go_ret
  all_goals rw [show n - 1 = i + (n - j) by omega]
  all_goals first
    | exact ⟨rfl, HE.out⟩
    | (have e : cap = j := by assumption
       subst e
       exact ⟨rfl, HE.out⟩)

end Go.Proofs.Ythcgmfcibjinlaa.Ex

/- slices.Insert of one run into a row of runs: at the end; in place; into a new row. -/
namespace Go.Proofs.Ythcgmfcibjinlaa.Ex
open Go.RowKit Go.Sort

/-- What Insert leaves: the runs, in the old row or in a new one; no other block has turned. -/
def Laid (w : World) (g n : Nat) (M : List (Int × Int)) (e : Ending) (w' : World) : Prop :=
  ∃ g' cap', e = .returned (.slice (some ⟨g', 0, none⟩) (n + 1) cap') ∧ Own 145 w' g' cap' M ∧ w.grownBy w' (some g) ∧ (g' = g ∨ w.heap.size ≤ g')

theorem new_pair {w : World} {vb : Nat} {a k : Int} (hv : w.heap[vb]? = some (.cells #[.int .i64 a, .int .i64 k] 145 (0, 0))) : ∀ j u, [Value.int .i64 a, .int .i64 k][j]? = some u → w.cell? ((⟨vb, 0, none⟩ : Addr).add j) = some u :=
  fun j u hu => World.news_of_block hv j u hu

theorem laid_end {w w1 : World} {g g' cap cap' : Nat} {A : List (Int × Int)} {a k : Int} (hown : w1.ownsRow 0 145 2 (.slice (some ⟨g', 0, none⟩) (A.length + 1) cap') (A.length + 1) (flat A ++ [.int .i64 a, .int .i64 k]))
    (hgr : w.grownBy w1 (Value.ownBlock (.slice (some ⟨g, 0, none⟩) A.length cap))) (hat : Value.ownBlock (.slice (some ⟨g, 0, none⟩) A.length cap) = some g' ∨ g' = w.heap.size) :
    Laid w g A.length (A ++ [(a, k)]) (.returned (.slice (some ⟨g', 0, none⟩) (A.length + 1) cap')) w1 := by
  refine ⟨g', cap', rfl, ?_, hgr, ?_⟩
  · unfold Own
    rw [List.length_append, flat_append]
    exact hown
  · rcases hat with h | h
    · simp [Value.ownBlock] at h
      exact Or.inl h.symm
    · exact Or.inr (Nat.le_of_eq h.symm)

set_option maxHeartbeats 4000000 in
set_option maxRecDepth 100000 in
/-- At the end. -/
theorem insert_end (w : World) (g cap n vb : Nat) (A : List (Int × Int)) (a k : Int) (hO : Own 145 w g cap A) (hA : A.length = n) (hn : n ≤ 100000)
    (hv : w.heap[vb]? = some (.cells #[.int .i64 a, .int .i64 k] 145 (0, 0))) :
    Calls Try.prog 96 #[.slice (some ⟨g, 0, none⟩) n cap, .int .i64 n, .slice (some ⟨vb, 0, none⟩) 1 1] w (Laid w g n (A ++ [(a, k)])) := by
  obtain ⟨i0, hi0, hz0, hzs, hzb⟩ := info_parts Try.info_pair
  obtain ⟨S, hg, hs, hnc, hm⟩ := hO.heap
  subst hA
  unfold maxLen at hm
  have HO := Lib.hid hO
  have HV := Lib.hid (new_pair hv)
  clear hO hv hg hs S
  go_enter Try.func96, Try.ntmps96
  go_wp2_with (at_builtin; refine wpList_append_lies _ rfl _ _ 146 rfl 0 145 i0 (.agg #[.int .i64 0, .int .i64 0]) 2 16 Try.underlying146 hi0 hz0 hzs hzb rfl (by decide) _ A.length (flat A) rfl HO.out ⟨vb, 0, none⟩ 1 1 [Value.int .i64 a, .int .i64 k] rfl rfl HV.out (by intro u hu; simp at hu; rcases hu with rfl | rfl <;> rfl) (by decide) (by unfold maxLen; omega) (by omega) (Nat.zero_le _) w.heap.size rfl ?_; intro g' cap' w1 hown hgr hat hlt)
  all_goals go_ret
  all_goals exact laid_end hown hgr hat

theorem list3 {α : Type} (A B C : List α) (i : Nat) (h : A.length = i) : (A ++ B ++ C).take i = A := by
  rw [List.append_assoc, List.take_append_of_le_length (by omega), List.take_of_length_le (by omega)]
theorem drop2 {α : Type} (A C : List α) (i k : Nat) (h : A.length = i) : (A ++ C).drop (i + k) = C.drop k := by
  rw [List.drop_append, List.drop_eq_nil_of_le (by omega), List.nil_append, show i + k - A.length = k by omega]

set_option maxHeartbeats 4000000 in
set_option maxRecDepth 100000 in
/-- In place: there is room behind the runs. -/
theorem insert_room (w : World) (g cap i n vb : Nat) (A B : List (Int × Int)) (a k : Int) (hO : Own 145 w g cap (A ++ B)) (hA : A.length = i) (hB : B.length = n - i) (hi : i < n) (hroom : n < cap) (hn : n ≤ 100000)
    (hv : w.heap[vb]? = some (.cells #[.int .i64 a, .int .i64 k] 145 (0, 0))) (hvg : vb ≠ g) :
    Calls Try.prog 96 #[.slice (some ⟨g, 0, none⟩) n cap, .int .i64 i, .slice (some ⟨vb, 0, none⟩) 1 1] w (Laid w g n (A ++ (a, k) :: B)) := by
  obtain ⟨i0, hi0, hz0, hzs, hzb⟩ := info_parts Try.info_pair
  obtain ⟨S, hg, hs, hnc, hm⟩ := hO.heap
  have fA := flat_length A
  have fB := flat_length B
  rw [hA] at fA
  rw [hB] at fB
  have hl : (A ++ B).length = n := by simp; omega
  rw [hl] at hnc
  unfold maxLen at hm
  rw [flat_append] at hg hs
  have hsl : (flat A ++ flat B ++ S).length = cap * 2 := hs
  have hSl : S.length = (cap - n) * 2 := by simp [fA, fB] at hsl; omega
  generalize hcur : (flat A ++ flat B ++ S).toArray = cur at hg
  have hcl : cur.toList = flat A ++ flat B ++ S := by rw [← hcur]
  have hcs : cur.size = cap * 2 := by rw [← hsl, ← hcur]; simp
  have hsz : (Try.prog.info? 145).map (·.size) = some 2 := by rw [hi0]; simp [hzs]
  have hgd : w.drew.heap[g]? = some (.cells cur 145 (0, 0)) := hg
  -- the first copy: the runs from i on, one further
  obtain ⟨W1, hW1⟩ : ∃ W1, W1 = w.drew.setRow g (cur.toList.take ((i + 1) * 2) ++ flat B ++ cur.toList.drop ((i + 1) * 2 + (flat B).length)).toArray := ⟨_, rfl⟩
  have hsrc : ∀ j u, (flat B)[j]? = some u → w.drew.cell? ((⟨g, i * 2, none⟩ : Addr).add j) = some u := fun j u hj => by
    have hjl := (List.getElem?_eq_some_iff.1 hj).1
    rw [Addr.add_lit, show w.drew.cell? ⟨g, i * 2 + j, none⟩ = w.cell? ⟨g, i * 2 + j, none⟩ from rfl, cell_of_row w g _ cur _ _ hg, ← Array.getElem?_toList, hcl, List.append_assoc, List.getElem?_append_right (by omega), fA, Nat.add_sub_cancel_left, List.getElem?_append_left hjl]
    exact hj
  have hcp1 : ∀ dc sc ty, (Builtin.copy_ #[146, 146] ty #[.slice (some ⟨g, (i + 1) * 2, none⟩) (n - i) dc, .slice (some ⟨g, i * 2, none⟩) (n + 1 - i) sc]).run Try.prog w.drew = .ok (goInt ((n - i : Nat) : Int)) W1 := fun dc sc ty => by
    rw [hW1]
    exact run_copy_pairs (P := Try.prog) w.drew 146 146 ty 145 g ((i + 1) * 2) (n - i) dc ⟨g, i * 2, none⟩ (n + 1 - i) sc (n - i) cur _ (flat B) Try.underlying146 hsz hgd (by simp only [Nat.min_def]; split <;> omega) fB hsrc (by rw [fB, hcs]; omega) (flat_one B)
  have g1 : W1.heap[g]? = some (.cells (cur.toList.take ((i + 1) * 2) ++ flat B ++ cur.toList.drop ((i + 1) * 2 + (flat B).length)).toArray 145 (0, 0)) := by rw [hW1]; exact setRow_heap w.drew g cur _ _ _ hgd
  have hv1 : W1.heap[vb]? = some (.cells #[.int .i64 a, .int .i64 k] 145 (0, 0)) := by rw [hW1]; exact (setRow_other w.drew g vb _ hvg).trans hv
  -- the row behind it
  obtain ⟨R, hR⟩ : ∃ R, cur.toList.take ((i + 1) * 2) ++ flat B ++ cur.toList.drop ((i + 1) * 2 + (flat B).length) = flat A ++ (R ++ flat B ++ cur.toList.drop ((i + 1) * 2 + (flat B).length)) ∧ R.length = 2 := by
    refine ⟨(flat B ++ S).take 2, ?_, by simp [fB, hSl]; omega⟩
    have e : cur.toList.take ((i + 1) * 2) = flat A ++ (flat B ++ S).take 2 := by
      rw [hcl, List.append_assoc, List.take_append, fA, List.take_of_length_le (by omega), show (i + 1) * 2 - i * 2 = 2 by omega]
    rw [e]
    simp
  obtain ⟨hR, hRl⟩ := hR
  rw [hR] at g1
  have hZl0 : (cur.toList.take ((i + 1) * 2) ++ flat B ++ cur.toList.drop ((i + 1) * 2 + (flat B).length)).length = cap * 2 := by simp [fB, hcs]; omega
  generalize cur.toList.drop ((i + 1) * 2 + (flat B).length) = Z at g1 hR hW1 hZl0
  have hZl : (flat A ++ (R ++ flat B ++ Z)).length = cap * 2 := by rw [← hR]; exact hZl0
  obtain ⟨W2, hW2⟩ : ∃ W2, W2 = W1.setRow g (flat (A ++ (a, k) :: B) ++ Z).toArray := ⟨_, rfl⟩
  have hcp2 : ∀ dc ty, (Builtin.copy_ #[146, 146] ty #[.slice (some ⟨g, i * 2, none⟩) (n + 1 - i) dc, .slice (some ⟨vb, 0, none⟩) 1 1]).run Try.prog W1 = .ok (goInt 1) W2 := fun dc ty => by
    have h := run_copy_pairs (P := Try.prog) W1 146 146 ty 145 g (i * 2) (n + 1 - i) dc ⟨vb, 0, none⟩ 1 1 1 _ _ [Value.int .i64 a, .int .i64 k] Try.underlying146 hsz g1 (by simp only [Nat.min_def]; split <;> omega) rfl (new_pair hv1) (by simp only [List.size_toArray, hZl, List.length_cons, List.length_nil]; omega) (by intro u hu; simp at hu; rcases hu with rfl | rfl <;> rfl)
    rw [h, hW2]
    congr 3
    rw [show (flat A ++ (R ++ flat B ++ Z)).toArray.toList = flat A ++ (R ++ flat B ++ Z) from rfl, List.take_append_of_le_length (by omega), List.take_of_length_le (by omega), drop2 _ _ _ _ fA, List.append_assoc R, show [Value.int IntKind.i64 a, Value.int IntKind.i64 k].length = 2 from rfl, ← hRl, List.drop_left, flat_append]
    simp [flat]
  have hEnd : Laid w g n (A ++ (a, k) :: B) (.returned (.slice (some ⟨g, 0, none⟩) (n + 1) cap)) W2 := by
    refine ⟨g, cap, rfl, Own.mk (by rw [hW2]; exact setRow_heap W1 g _ _ _ _ g1) ?_ (by unfold maxLen; omega), ?_, Or.inl rfl⟩
    · rw [flat_append]
      simp [fA, fB, flat] at hZl ⊢
      omega
    · rw [hW2, hW1]
      exact ⟨rfl, rfl, rfl, by simp [World.setRow], fun k _ hk => (setRow_other _ g k _ (fun e => hk (by simp [e]))).trans (setRow_other w.drew g k _ (fun e => hk (by simp [e])))⟩
  have hgl : g < w.heap.size := hO.lt
  have hov : ∀ lb cb, (callFunc 109 #[.slice (some ⟨vb, 0, none⟩) 1 1, .slice (some ⟨g, (i + 1) * 2, none⟩) lb cb]).run Try.prog w = .ok (.value (.bool false)) w := fun lb cb => by
    rw [run_callFunc_extern Try.func109 (by kernel_rfl) (by kernel_rfl) (by kernel_rfl) (e := Extern.SlicesOverlaps.overlaps #[146, 146] #[4]) (by kernel_rfl),
      Lib.run_overlaps_apart w 146 4 145 Try.underlying146 2 Try.sizeOf145 ⟨vb, 0, none⟩ ⟨g, (i + 1) * 2, none⟩ 1 1 lb cb hvg 145 145 2 (cap * 2) (by simp [World.shape?, hv]) (by simp [World.shape?, hg, hcs]) (by omega) (frozen_of_row w vb 0 _ _ hv) (frozen_of_row w vb 2 _ _ hv)]
    rfl
  have HE := Lib.hid hEnd
  have HO := Lib.hid hov
  have H1 := Lib.hid hcp1
  have H2 := Lib.hid hcp2
  have hz2 : ¬ ((i : Int) = (n : Int)) := by omega
  have hw1 : IntKind.i64.wrap ((i : Int) + 1) = (i : Int) + 1 := by rw [IntKind.wrap_i64]; omega
  have hb1 : (0 : Int) ≤ (i : Int) + 1 := by omega
  have hin : i ≤ n := by omega
  have htn : ((i : Int) + 1).toNat = i + 1 := by omega
  have hb2 : ¬ (cap = i + 1) := by omega
  have hb3 : (i : Int) ≤ (n : Int) + 1 := by omega
  have hb4 : ¬ (cap = i) := by omega
  clear hEnd hov hcp1 hcp2 hZl hZl0 hR hRl g1 hv1 hsrc hW1 hW2 hgd hsz hcs hcl hcur hSl hsl hg hs hl fA fB hA hB hv hO
  replace HO := HO.out
  go_enter Try.func96, Try.ntmps96
  go_wp2_with (simp only [HO])
  replace H1 := H1.out
  go_region_law (fail)
  clear H1
  replace H2 := H2.out
  go_wp2_with fail
  go_ret
  exact HE.out

set_option maxHeartbeats 4000000 in
set_option maxRecDepth 100000 in
/-- Into a new row: there is no room. -/
theorem insert_grow (w : World) (g cap i n vb : Nat) (A B : List (Int × Int)) (a k : Int) (hO : Own 145 w g cap (A ++ B)) (hA : A.length = i) (hB : B.length = n - i) (hi : i < n) (hroom : cap < n + 1) (hn : n ≤ 100000)
    (hv : w.heap[vb]? = some (.cells #[.int .i64 a, .int .i64 k] 145 (0, 0))) :
    Calls Try.prog 96 #[.slice (some ⟨g, 0, none⟩) n cap, .int .i64 i, .slice (some ⟨vb, 0, none⟩) 1 1] w (Laid w g n (A ++ (a, k) :: B)) := by
  obtain ⟨i0, hi0, hz0, hzs, hzb⟩ := info_parts Try.info_pair
  obtain ⟨S, hg, hs, hnc, hm⟩ := hO.heap
  have fA := flat_length A
  have fB := flat_length B
  rw [hA] at fA
  rw [hB] at fB
  have hl : (A ++ B).length = n := by simp; omega
  rw [hl] at hnc
  unfold maxLen at hm
  rw [flat_append] at hg hs
  have hsl : (flat A ++ flat B ++ S).length = cap * 2 := hs
  generalize hcur : (flat A ++ flat B ++ S).toArray = cur at hg
  have hcl : cur.toList = flat A ++ flat B ++ S := by rw [← hcur]
  have hsz : (Try.prog.info? 145).map (·.size) = some 2 := by rw [hi0]; simp [hzs]
  have hgl : g < w.heap.size := hO.lt
  have hvl : vb < w.heap.size := by
    rcases Nat.lt_or_ge vb w.heap.size with h' | h'
    · exact h'
    · rw [Array.getElem?_eq_none h'] at hv; cases hv
  -- the new row
  obtain ⟨G, hG⟩ : ∃ G, G = grownCap w (n + 1) cap 145 := ⟨_, rfl⟩
  have hGn : n + 1 ≤ G := by rw [hG]; exact grownCap_ge w _ _ _
  have hGm : G ≤ maxLen := by rw [hG]; exact grownCap_le_maxLen w (n + 1) cap 145 (by unfold maxLen; omega)
  obtain ⟨Z0, hZ0⟩ : ∃ Z0 : List Value, Z0 = (Builtin.zeroCells (Value.agg #[.int .i64 0, .int .i64 0]).cells (n + 1 - i)).toList ++ (Builtin.zeroCells (Value.agg #[.int .i64 0, .int .i64 0]).cells (G - (n + 1))).toList := ⟨_, rfl⟩
  have hZl : Z0.length = (G - i) * 2 := by
    rw [hZ0, List.length_append, Array.length_toList, Array.length_toList, size_zeroCells, size_zeroCells, show (Value.agg #[.int .i64 0, .int .i64 0]).cells.size = 2 from rfl]
    omega
  obtain ⟨W1, hW1⟩ : ∃ W1, W1 = w.drew.alloc (.cells (flat A ++ Z0).toArray 145) := ⟨_, rfl⟩
  have hkk : (n : Int) + 1 - (i : Int) = ((n + 1 - i : Nat) : Int) := by omega
  have hik : i + (n + 1 - i) = n + 1 := by omega
  have hold : (Builtin.firstCells i0.size i (.slice (some ⟨g, 0, none⟩) i cap)).run Try.prog w.drew = .ok (flat A).toArray w.drew := by
    rw [hzs]
    exact run_firstCells_some w.drew 2 i ⟨g, 0, none⟩ i cap (flat A) fA (fun j v hj => by
      have hjl := (List.getElem?_eq_some_iff.1 hj).1
      rw [Addr.add_lit, Nat.zero_add, show w.drew.cell? ⟨g, j, none⟩ = w.cell? ⟨g, j, none⟩ from rfl, cell_of_row w g _ cur _ _ hg, ← Array.getElem?_toList, hcl, List.append_assoc, List.getElem?_append_left hjl]
      exact hj)
  have hrz : ∀ ty, (Builtin.append_ #[146, 3] ty #[.slice (some ⟨g, 0, none⟩) i cap, .int .i64 ((n : Int) + 1 - (i : Int))]).run Try.prog w = .ok (.slice (some ⟨w.heap.size, 0, none⟩) (n + 1) G) W1 := fun ty => by
    have h := Lib.run_append_grow_zeros w 146 3 ty 145 i0 _ .i64 .i64 Try.underlying146 Try.underlying3 hi0 hz0 (some ⟨g, 0, none⟩) i cap (flat A) hold (n + 1 - i) (by omega) (by omega) (by omega) (by omega) (by rw [hzb]; omega) (by rw [hzb, hik]; exact growslice_fits hroom (by omega))
    rw [hik, ← hG] at h
    rw [hkk, h, hW1, hZ0]
    congr 3
    simp
  have g1 : W1.heap[w.heap.size]? = some (.cells (flat A ++ Z0).toArray 145 (0, 0)) := by rw [hW1]; exact heap_alloc_new w.drew _
  have ho1 : ∀ b, b < w.heap.size → W1.heap[b]? = w.heap[b]? := fun b hb => by rw [hW1]; exact heap_alloc_old w.drew _ hb
  have hv1 : W1.heap[vb]? = some (.cells #[.int .i64 a, .int .i64 k] 145 (0, 0)) := (ho1 vb hvl).trans hv
  -- the run that is put in
  have hcp2 : ∀ dc ty, (Builtin.copy_ #[146, 146] ty #[.slice (some ⟨w.heap.size, i * 2, none⟩) (n + 1 - i) dc, .slice (some ⟨vb, 0, none⟩) 1 1]).run Try.prog W1 = .ok (goInt 1) (W1.setRow w.heap.size (flat A ++ ([Value.int .i64 a, .int .i64 k] ++ Z0.drop 2)).toArray) := fun dc ty => by
    have h := run_copy_pairs (P := Try.prog) W1 146 146 ty 145 w.heap.size (i * 2) (n + 1 - i) dc ⟨vb, 0, none⟩ 1 1 1 _ _ [Value.int .i64 a, .int .i64 k] Try.underlying146 hsz g1 (by simp only [Nat.min_def]; split <;> omega) rfl (new_pair hv1) (by simp only [List.size_toArray, List.length_append, hZl, fA, List.length_cons, List.length_nil]; omega) (by intro u hu; simp at hu; rcases hu with rfl | rfl <;> rfl)
    rw [h]
    congr 3
    rw [show (flat A ++ Z0).toArray.toList = flat A ++ Z0 from rfl, List.take_append_of_le_length (by omega), List.take_of_length_le (by omega), drop2 _ _ _ _ fA, List.append_assoc]
    rfl
  obtain ⟨W2, hW2⟩ : ∃ W2, W2 = W1.setRow w.heap.size (flat A ++ ([Value.int .i64 a, .int .i64 k] ++ Z0.drop 2)).toArray := ⟨_, rfl⟩
  rw [← hW2] at hcp2
  have g2 : W2.heap[w.heap.size]? = some (.cells (flat A ++ ([Value.int .i64 a, .int .i64 k] ++ Z0.drop 2)).toArray 145 (0, 0)) := by rw [hW2]; exact setRow_heap W1 _ _ _ _ _ g1
  have ho2 : ∀ b, b < w.heap.size → W2.heap[b]? = w.heap[b]? := fun b hb => by rw [hW2]; exact (setRow_other W1 _ b _ (by omega)).trans (ho1 b hb)
  -- what stood behind it
  have hsrc : ∀ j u, (flat B)[j]? = some u → W2.drew.cell? ((⟨g, i * 2, none⟩ : Addr).add j) = some u := fun j u hj => by
    have hjl := (List.getElem?_eq_some_iff.1 hj).1
    rw [Addr.add_lit, show W2.drew.cell? ⟨g, i * 2 + j, none⟩ = W2.cell? ⟨g, i * 2 + j, none⟩ from rfl, cell_of_row W2 g _ cur _ _ ((ho2 g hgl).trans hg), ← Array.getElem?_toList, hcl, List.append_assoc, List.getElem?_append_right (by omega), fA, Nat.add_sub_cancel_left, List.getElem?_append_left hjl]
    exact hj
  have hcp3 : ∀ dc sc ty, (Builtin.copy_ #[146, 146] ty #[.slice (some ⟨w.heap.size, (i + 1) * 2, none⟩) (n - i) dc, .slice (some ⟨g, i * 2, none⟩) (n - i) sc]).run Try.prog W2.drew = .ok (goInt ((n - i : Nat) : Int)) (W2.drew.setRow w.heap.size (flat (A ++ (a, k) :: B) ++ Z0.drop (2 + (n - i) * 2)).toArray) := fun dc sc ty => by
    have h := run_copy_pairs (P := Try.prog) W2.drew 146 146 ty 145 w.heap.size ((i + 1) * 2) (n - i) dc ⟨g, i * 2, none⟩ (n - i) sc (n - i) _ _ (flat B) Try.underlying146 hsz g2 (Nat.min_self _) fB hsrc (by simp only [List.size_toArray, List.length_append, List.length_drop, hZl, fA, fB, List.length_cons, List.length_nil]; omega) (flat_one B)
    rw [h]
    congr 3
    rw [show (flat A ++ ([Value.int IntKind.i64 a, Value.int .i64 k] ++ Z0.drop 2)).toArray.toList = (flat A ++ [Value.int IntKind.i64 a, Value.int .i64 k]) ++ Z0.drop 2 by simp]
    rw [List.take_append_of_le_length (by simp [fA]; omega), List.take_of_length_le (by simp [fA]; omega), drop2 _ _ ((i + 1) * 2) _ (by simp [fA]; omega), List.drop_drop, fB, flat_append]
    simp [flat]
  obtain ⟨W3, hW3⟩ : ∃ W3, W3 = W2.drew.setRow w.heap.size (flat (A ++ (a, k) :: B) ++ Z0.drop (2 + (n - i) * 2)).toArray := ⟨_, rfl⟩
  rw [← hW3] at hcp3
  have hEnd : Laid w g n (A ++ (a, k) :: B) (.returned (.slice (some ⟨w.heap.size, 0, none⟩) (n + 1) G)) W3 := by
    refine ⟨w.heap.size, G, rfl, Own.mk (by rw [hW3]; exact setRow_heap W2.drew _ _ _ _ _ g2) ?_ hGm, ?_, Or.inr (Nat.le_refl _)⟩
    · rw [flat_append]
      simp [fA, fB, flat, hZl]
      omega
    · refine ⟨by rw [hW3, hW2, hW1]; rfl, by rw [hW3, hW2, hW1]; rfl, by rw [hW3, hW2, hW1]; rfl, by rw [hW3, hW2, hW1]; simp [World.setRow], fun b hb _ => ?_⟩
      rw [hW3]
      exact (setRow_other W2.drew _ b _ (by omega)).trans (ho2 b hb)
  have HE := Lib.hid hEnd
  have HR := Lib.hid hrz
  have hz2 : ¬ ((i : Int) = (n : Int)) := by omega
  have hz3 : (cap : Int) < (n : Int) + 1 := by omega
  have hw1 : IntKind.i64.wrap ((i : Int) + 1) = (i : Int) + 1 := by rw [IntKind.wrap_i64]; omega
  have hb1 : (0 : Int) ≤ (i : Int) + 1 := by omega
  have hin : i ≤ n := by omega
  have htn : ((i : Int) + 1).toNat = i + 1 := by omega
  have hGi : ¬ (G = i) := by omega
  have hGim : ¬ (G = i + 1) := by omega
  have hci : ¬ (cap = i) := by omega
  have hG63 : G ≤ 9223372036854775807 := by unfold maxLen at hGm; omega
  clear hrz hEnd hkk hik hold hZl hsrc ho1 ho2 g1 g2 hv1 hW1 hW2 hW3 hZ0 hcl hcur hsl hg hs hl fA fB hA hB hv hO hGm hG hsz
  generalize w.heap.size = H at HR hcp2 hcp3 HE hgl hvl
  go_enter Try.func96, Try.ntmps96
  go_wp2_with (at_builtin; refine Lib.wpList_append_run _ rfl _ _ 146 3 rfl _ _ rfl rfl _ _ (HR.out _) ?_)
  go_region_law (fail)
  go_wp2_with fail
  go_ret
  exact HE.out

/-- slices.Insert of one run. -/
theorem insert_any (w : World) (g cap i n vb : Nat) (A B : List (Int × Int)) (a k : Int) (hO : Own 145 w g cap (A ++ B)) (hA : A.length = i) (hB : B.length = n - i) (hi : i ≤ n) (hn : n ≤ 100000)
    (hv : w.heap[vb]? = some (.cells #[.int .i64 a, .int .i64 k] 145 (0, 0))) (hvg : vb ≠ g) :
    Calls Try.prog 96 #[.slice (some ⟨g, 0, none⟩) n cap, .int .i64 i, .slice (some ⟨vb, 0, none⟩) 1 1] w (Laid w g n (A ++ (a, k) :: B)) := by
  by_cases he : i = n
  · subst he
    obtain rfl : B = [] := List.eq_nil_of_length_eq_zero (by omega)
    rw [List.append_nil] at hO
    exact insert_end w g cap i vb A a k hO hA hn hv
  · by_cases hr : n < cap
    · exact insert_room w g cap i n vb A B a k hO hA hB (by omega) hr hn hv hvg
    · exact insert_grow w g cap i n vb A B a k hO hA hB (by omega) (by omega) hn hv

end Go.Proofs.Ythcgmfcibjinlaa.Ex

/- slices.IndexFunc and slices.ContainsFunc over runs: the first one at which a question holds. -/
namespace Go.Proofs.Ythcgmfcibjinlaa.Ex
open Go.RowKit Go.Sort

/-- A question that is asked of the runs of a list: it answers, and leaves all as it was. -/
def Asks (G : Nat) (args : Value → Array Value) (f : Int × Int → Bool) (L : List (Int × Int)) (w : World) : Prop :=
  ∀ (W : World) (x : Int × Int), x ∈ L → Below w.heap.size w W → Calls Try.prog G (args (.agg #[.int .i64 x.1, .int .i64 x.2])) W fun e w' => e = .returned (.bool (f x)) ∧ Below W.heap.size W w'

set_option maxHeartbeats 4000000 in
set_option maxRecDepth 100000 in
theorem index_hit_post (w : World) (G : Nat) (c : Value) (f : Int × Int → Bool) (eg : ∀ args w, (callFunc G args).run Try.prog w = .ok (.enter G args) w)
    (g cap n i : Nat) (A B : List (Int × Int)) (x : Int × Int) (hO : Own 145 w g cap (A ++ x :: B)) (hf : Asks G (fun v => #[v, c]) f (A ++ x :: B) w) (hn : (A ++ x :: B).length = n) (hi : A.length = i) (hA : ∀ y, y ∈ A → f y = false) (hx : f x = true) :
    Calls Try.prog 102 #[.slice (some ⟨g, 0, none⟩) n cap, .func (.func G) #[] #[c]] w fun e w' => e = .returned (.int .i64 i) ∧ Below w.heap.size w w' := by
  have hbig : n ≤ 9223372036854775807 := by
    obtain ⟨S, _, _, h1, h2⟩ := hO.heap
    unfold maxLen at h2
    omega
  have hgl := hO.lt
  have hin : i < n := by rw [← hn, ← hi]; simp
  have hcell : ∀ k y, (A ++ x :: B)[k]? = some y → w.cell? ⟨g, k * 2, none⟩ = some (.int .i64 y.1) ∧ w.cell? ⟨g, k * 2 + 1, none⟩ = some (.int .i64 y.2) := fun k y h => hO.cell h
  have hlo : ∀ k, k < i → ∃ y, (A ++ x :: B)[k]? = some y ∧ y ∈ A ++ x :: B ∧ f y = false := fun k hk => by
    have h1 : (A ++ x :: B)[k]? = A[k]? := List.getElem?_append_left (by omega)
    have h2 : A[k]? = some A[k] := List.getElem?_eq_getElem (by omega)
    exact ⟨A[k], h1.trans h2, List.mem_append_left _ (List.getElem_mem _), hA _ (List.getElem_mem _)⟩
  have hat : (A ++ x :: B)[i]? = some x := by rw [List.getElem?_append_right (by omega), hi, Nat.sub_self]; rfl
  have hmem : x ∈ A ++ x :: B := by simp
  have HC := Lib.hid hcell
  have HL := Lib.hid hlo
  have HT := Lib.hid hat
  have HF := Lib.hid hf
  have HX := Lib.hid hx
  clear hcell hlo hat hf hx hA hi hn hO
  go_enter Try.func102, Try.ntmps102
  go_wp2_with fail
  go_loopw [5, 8] (fun _ s8 wr => ∃ k : Nat, k ≤ i ∧ s8 = .int .i64 k ∧ Below w.heap.size w wr) (fun _ s8 _ => n - (intOf s8).toNat)
  case atStart => exact ⟨0, Nat.zero_le _, rfl, Below.refl _ w⟩
  case round =>
    obtain ⟨k, hk, rfl, hB⟩ := hrel
    by_cases hlt : k < i
    · have hkn : k < n := by omega
      have hkn' : (k : Int) < (n : Int) := by omega
      obtain ⟨y, h1, h2, h3⟩ := HL.out k hlt
      obtain ⟨c0, c1⟩ := HC.out k y h1
      replace c0 := (hB.cell (p := ⟨g, k * 2, none⟩) hgl).trans c0
      replace c1 := (hB.cell (p := ⟨g, k * 2 + 1, none⟩) hgl).trans c1
      have hcall := HF.out wr y h2 hB
      rw [h3] at hcall
      have H := Lib.hid hcall
      clear hcall h1 h3
      go_wp2_with fail
      refine H.out.mono ?_
      rintro e w2 ⟨rfl, hb⟩
      replace hB := onB hB hb
      clear hb
      go_wp2_with fail
      go_roundw
      case rel => exact ⟨k + 1, by omega, by go_num, hB⟩
      case measure => simp [intOf]; omega
    · obtain rfl : k = i := by omega
      have hkn' : (k : Int) < (n : Int) := by omega
      obtain ⟨c0, c1⟩ := HC.out k x HT.out
      replace c0 := (hB.cell (p := ⟨g, k * 2, none⟩) hgl).trans c0
      replace c1 := (hB.cell (p := ⟨g, k * 2 + 1, none⟩) hgl).trans c1
      have hcall := HF.out wr x hmem hB
      rw [HX.out] at hcall
      have H := Lib.hid hcall
      clear hcall
      go_wp2_with fail
      refine H.out.mono ?_
      rintro e w2 ⟨rfl, hb⟩
      replace hB := onB hB hb
      clear hb
      go_wp2_with fail
      go_ret
      exact ⟨rfl, hB⟩

set_option maxHeartbeats 4000000 in
set_option maxRecDepth 100000 in
theorem index_miss_post (w : World) (G : Nat) (c : Value) (f : Int × Int → Bool) (eg : ∀ args w, (callFunc G args).run Try.prog w = .ok (.enter G args) w)
    (g cap n : Nat) (L : List (Int × Int)) (hO : Own 145 w g cap L) (hf : Asks G (fun v => #[v, c]) f L w) (hn : L.length = n) (hA : ∀ y, y ∈ L → f y = false) :
    Calls Try.prog 102 #[.slice (some ⟨g, 0, none⟩) n cap, .func (.func G) #[] #[c]] w fun e w' => e = .returned (.int .i64 (-1)) ∧ Below w.heap.size w w' := by
  have hbig : n ≤ 9223372036854775807 := by
    obtain ⟨S, _, _, h1, h2⟩ := hO.heap
    unfold maxLen at h2
    omega
  have hgl := hO.lt
  have hcell : ∀ k y, L[k]? = some y → w.cell? ⟨g, k * 2, none⟩ = some (.int .i64 y.1) ∧ w.cell? ⟨g, k * 2 + 1, none⟩ = some (.int .i64 y.2) := fun k y h => hO.cell h
  have hlo : ∀ k, k < n → ∃ y, L[k]? = some y ∧ y ∈ L ∧ f y = false := fun k hk => by
    have h2 : L[k]? = some L[k] := List.getElem?_eq_getElem (by omega)
    exact ⟨L[k], h2, List.getElem_mem _, hA _ (List.getElem_mem _)⟩
  have HC := Lib.hid hcell
  have HL := Lib.hid hlo
  have HF := Lib.hid hf
  clear hcell hlo hf hA hn hO
  go_enter Try.func102, Try.ntmps102
  go_wp2_with fail
  go_loopw [5, 8] (fun _ s8 wr => ∃ k : Nat, k ≤ n ∧ s8 = .int .i64 k ∧ Below w.heap.size w wr) (fun _ s8 _ => n - (intOf s8).toNat)
  case atStart => exact ⟨0, Nat.zero_le _, rfl, Below.refl _ w⟩
  case round =>
    obtain ⟨k, hk, rfl, hB⟩ := hrel
    by_cases hlt : k < n
    · have hkn : k < n := by omega
      have hkn' : (k : Int) < (n : Int) := by omega
      obtain ⟨y, h1, h2, h3⟩ := HL.out k hlt
      obtain ⟨c0, c1⟩ := HC.out k y h1
      replace c0 := (hB.cell (p := ⟨g, k * 2, none⟩) hgl).trans c0
      replace c1 := (hB.cell (p := ⟨g, k * 2 + 1, none⟩) hgl).trans c1
      have hcall := HF.out wr y h2 hB
      rw [h3] at hcall
      have H := Lib.hid hcall
      clear hcall h1 h3
      go_wp2_with fail
      refine H.out.mono ?_
      rintro e w2 ⟨rfl, hb⟩
      replace hB := onB hB hb
      clear hb
      go_wp2_with fail
      go_roundw
      case rel => exact ⟨k + 1, by omega, by go_num, hB⟩
      case measure => simp [intOf]; omega
    · obtain rfl : k = n := by omega
      go_wp2_with fail
      go_ret
      exact ⟨rfl, hB⟩

set_option maxHeartbeats 4000000 in
set_option maxRecDepth 100000 in
theorem index_hit_pre (w : World) (G : Nat) (c : Value) (f : Int × Int → Bool) (eg : ∀ args w, (callFunc G args).run Try.prog w = .ok (.enter G args) w)
    (g cap n i : Nat) (A B : List (Int × Int)) (x : Int × Int) (hO : Own 145 w g cap (A ++ x :: B)) (hf : Asks G (fun v => #[c, v]) f (A ++ x :: B) w) (hn : (A ++ x :: B).length = n) (hi : A.length = i) (hA : ∀ y, y ∈ A → f y = false) (hx : f x = true) :
    Calls Try.prog 102 #[.slice (some ⟨g, 0, none⟩) n cap, .func (.func G) #[c] #[]] w fun e w' => e = .returned (.int .i64 i) ∧ Below w.heap.size w w' := by
  have hbig : n ≤ 9223372036854775807 := by
    obtain ⟨S, _, _, h1, h2⟩ := hO.heap
    unfold maxLen at h2
    omega
  have hgl := hO.lt
  have hin : i < n := by rw [← hn, ← hi]; simp
  have hcell : ∀ k y, (A ++ x :: B)[k]? = some y → w.cell? ⟨g, k * 2, none⟩ = some (.int .i64 y.1) ∧ w.cell? ⟨g, k * 2 + 1, none⟩ = some (.int .i64 y.2) := fun k y h => hO.cell h
  have hlo : ∀ k, k < i → ∃ y, (A ++ x :: B)[k]? = some y ∧ y ∈ A ++ x :: B ∧ f y = false := fun k hk => by
    have h1 : (A ++ x :: B)[k]? = A[k]? := List.getElem?_append_left (by omega)
    have h2 : A[k]? = some A[k] := List.getElem?_eq_getElem (by omega)
    exact ⟨A[k], h1.trans h2, List.mem_append_left _ (List.getElem_mem _), hA _ (List.getElem_mem _)⟩
  have hat : (A ++ x :: B)[i]? = some x := by rw [List.getElem?_append_right (by omega), hi, Nat.sub_self]; rfl
  have hmem : x ∈ A ++ x :: B := by simp
  have HC := Lib.hid hcell
  have HL := Lib.hid hlo
  have HT := Lib.hid hat
  have HF := Lib.hid hf
  have HX := Lib.hid hx
  clear hcell hlo hat hf hx hA hi hn hO
  go_enter Try.func102, Try.ntmps102
  go_wp2_with fail
  go_loopw [5, 8] (fun _ s8 wr => ∃ k : Nat, k ≤ i ∧ s8 = .int .i64 k ∧ Below w.heap.size w wr) (fun _ s8 _ => n - (intOf s8).toNat)
  case atStart => exact ⟨0, Nat.zero_le _, rfl, Below.refl _ w⟩
  case round =>
    obtain ⟨k, hk, rfl, hB⟩ := hrel
    by_cases hlt : k < i
    · have hkn : k < n := by omega
      have hkn' : (k : Int) < (n : Int) := by omega
      obtain ⟨y, h1, h2, h3⟩ := HL.out k hlt
      obtain ⟨c0, c1⟩ := HC.out k y h1
      replace c0 := (hB.cell (p := ⟨g, k * 2, none⟩) hgl).trans c0
      replace c1 := (hB.cell (p := ⟨g, k * 2 + 1, none⟩) hgl).trans c1
      have hcall := HF.out wr y h2 hB
      rw [h3] at hcall
      have H := Lib.hid hcall
      clear hcall h1 h3
      go_wp2_with fail
      refine H.out.mono ?_
      rintro e w2 ⟨rfl, hb⟩
      replace hB := onB hB hb
      clear hb
      go_wp2_with fail
      go_roundw
      case rel => exact ⟨k + 1, by omega, by go_num, hB⟩
      case measure => simp [intOf]; omega
    · obtain rfl : k = i := by omega
      have hkn' : (k : Int) < (n : Int) := by omega
      obtain ⟨c0, c1⟩ := HC.out k x HT.out
      replace c0 := (hB.cell (p := ⟨g, k * 2, none⟩) hgl).trans c0
      replace c1 := (hB.cell (p := ⟨g, k * 2 + 1, none⟩) hgl).trans c1
      have hcall := HF.out wr x hmem hB
      rw [HX.out] at hcall
      have H := Lib.hid hcall
      clear hcall
      go_wp2_with fail
      refine H.out.mono ?_
      rintro e w2 ⟨rfl, hb⟩
      replace hB := onB hB hb
      clear hb
      go_wp2_with fail
      go_ret
      exact ⟨rfl, hB⟩

set_option maxHeartbeats 4000000 in
set_option maxRecDepth 100000 in
theorem index_miss_pre (w : World) (G : Nat) (c : Value) (f : Int × Int → Bool) (eg : ∀ args w, (callFunc G args).run Try.prog w = .ok (.enter G args) w)
    (g cap n : Nat) (L : List (Int × Int)) (hO : Own 145 w g cap L) (hf : Asks G (fun v => #[c, v]) f L w) (hn : L.length = n) (hA : ∀ y, y ∈ L → f y = false) :
    Calls Try.prog 102 #[.slice (some ⟨g, 0, none⟩) n cap, .func (.func G) #[c] #[]] w fun e w' => e = .returned (.int .i64 (-1)) ∧ Below w.heap.size w w' := by
  have hbig : n ≤ 9223372036854775807 := by
    obtain ⟨S, _, _, h1, h2⟩ := hO.heap
    unfold maxLen at h2
    omega
  have hgl := hO.lt
  have hcell : ∀ k y, L[k]? = some y → w.cell? ⟨g, k * 2, none⟩ = some (.int .i64 y.1) ∧ w.cell? ⟨g, k * 2 + 1, none⟩ = some (.int .i64 y.2) := fun k y h => hO.cell h
  have hlo : ∀ k, k < n → ∃ y, L[k]? = some y ∧ y ∈ L ∧ f y = false := fun k hk => by
    have h2 : L[k]? = some L[k] := List.getElem?_eq_getElem (by omega)
    exact ⟨L[k], h2, List.getElem_mem _, hA _ (List.getElem_mem _)⟩
  have HC := Lib.hid hcell
  have HL := Lib.hid hlo
  have HF := Lib.hid hf
  clear hcell hlo hf hA hn hO
  go_enter Try.func102, Try.ntmps102
  go_wp2_with fail
  go_loopw [5, 8] (fun _ s8 wr => ∃ k : Nat, k ≤ n ∧ s8 = .int .i64 k ∧ Below w.heap.size w wr) (fun _ s8 _ => n - (intOf s8).toNat)
  case atStart => exact ⟨0, Nat.zero_le _, rfl, Below.refl _ w⟩
  case round =>
    obtain ⟨k, hk, rfl, hB⟩ := hrel
    by_cases hlt : k < n
    · have hkn : k < n := by omega
      have hkn' : (k : Int) < (n : Int) := by omega
      obtain ⟨y, h1, h2, h3⟩ := HL.out k hlt
      obtain ⟨c0, c1⟩ := HC.out k y h1
      replace c0 := (hB.cell (p := ⟨g, k * 2, none⟩) hgl).trans c0
      replace c1 := (hB.cell (p := ⟨g, k * 2 + 1, none⟩) hgl).trans c1
      have hcall := HF.out wr y h2 hB
      rw [h3] at hcall
      have H := Lib.hid hcall
      clear hcall h1 h3
      go_wp2_with fail
      refine H.out.mono ?_
      rintro e w2 ⟨rfl, hb⟩
      replace hB := onB hB hb
      clear hb
      go_wp2_with fail
      go_roundw
      case rel => exact ⟨k + 1, by omega, by go_num, hB⟩
      case measure => simp [intOf]; omega
    · obtain rfl : k = n := by omega
      go_wp2_with fail
      go_ret
      exact ⟨rfl, hB⟩

set_option maxHeartbeats 1000000 in
set_option maxRecDepth 100000 in
theorem contains_hit (w : World) (G : Nat) (c : Value) (f : Int × Int → Bool) (eg : ∀ args w, (callFunc G args).run Try.prog w = .ok (.enter G args) w)
    (g cap n i : Nat) (A B : List (Int × Int)) (x : Int × Int) (hO : Own 145 w g cap (A ++ x :: B)) (hf : Asks G (fun v => #[c, v]) f (A ++ x :: B) w) (hn : (A ++ x :: B).length = n) (hi : A.length = i) (hA : ∀ y, y ∈ A → f y = false) (hx : f x = true) :
    Calls Try.prog 93 #[.slice (some ⟨g, 0, none⟩) n cap, .func (.func G) #[c] #[]] w fun e w' => e = .returned (.bool true) ∧ Below w.heap.size w w' := by
  have H := Lib.hid (index_hit_pre w G c f eg g cap n i A B x hO hf hn hi hA hx)
  clear hO hf hn hi hA hx
  go_enter Try.func93, Try.ntmps93
  go_wp2_with fail
  refine H.out.mono ?_
  rintro e w2 ⟨rfl, hb⟩
  go_wp2_with fail
  go_ret
  exact ⟨rfl, hb⟩

set_option maxHeartbeats 1000000 in
set_option maxRecDepth 100000 in
theorem contains_miss (w : World) (G : Nat) (c : Value) (f : Int × Int → Bool) (eg : ∀ args w, (callFunc G args).run Try.prog w = .ok (.enter G args) w)
    (g cap n : Nat) (L : List (Int × Int)) (hO : Own 145 w g cap L) (hf : Asks G (fun v => #[c, v]) f L w) (hn : L.length = n) (hA : ∀ y, y ∈ L → f y = false) :
    Calls Try.prog 93 #[.slice (some ⟨g, 0, none⟩) n cap, .func (.func G) #[c] #[]] w fun e w' => e = .returned (.bool false) ∧ Below w.heap.size w w' := by
  have H := Lib.hid (index_miss_pre w G c f eg g cap n L hO hf hn hA)
  clear hO hf hn hA
  go_enter Try.func93, Try.ntmps93
  go_wp2_with fail
  refine H.out.mono ?_
  rintro e w2 ⟨rfl, hb⟩
  go_wp2_with fail
  go_ret
  exact ⟨rfl, hb⟩

end Go.Proofs.Ythcgmfcibjinlaa.Ex
