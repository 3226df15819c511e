/- Two texts, the end of a line between: their tokens. -/
import Derived.Test.YtkeeglpbhjnmdaaDoorLxR
namespace Go.Proofs.YtkeeglpbhjnmdaaDoor
open Go.RowKit Go.Lib

def Res.join (R : Res) (S : List (Tk × Int) → Res) : Res :=
  match R with
  | .good A => S A
  | .bad e l => .bad e l

/-- The tokens of what stands behind. -/
def thenL (t : List UInt8) (n : Int) (A : List (Tk × Int)) : Res := lexA (t.length + 1) t n A

theorem index_ten : ∀ (l : List UInt8), (indexByte l 10 < 0 → l.count 10 = 0) ∧ (0 ≤ indexByte l 10 → (l.drop (indexByte l 10).toNat).count 10 = l.count 10)
  | [] => ⟨fun _ => rfl, fun _ => by simp⟩
  | c :: l => by
    obtain ⟨h1, h2⟩ := index_ten l
    obtain ⟨i1, i2, i3, -⟩ := index_le l 10
    unfold indexByte
    by_cases g : (c == 10) = true
    · rw [if_pos g]
      exact ⟨fun h => by omega, fun _ => rfl⟩
    · rw [if_neg g]
      have hc : (c :: l).count 10 = l.count 10 := List.count_cons_of_ne (by simpa using g)
      rw [hc]
      by_cases g2 : (indexByte l 10 == -1) = true
      · rw [if_pos g2]
        have g3 : indexByte l 10 = -1 := by simpa using g2
        exact ⟨fun _ => h1 (by omega), fun h => by omega⟩
      · rw [if_neg g2]
        have g3 : indexByte l 10 ≠ -1 := by simpa using g2
        refine ⟨fun h => by omega, fun _ => ?_⟩
        have e : (1 + indexByte l 10).toNat = (indexByte l 10).toNat + 1 := by omega
        first
        | rw [e, List.drop_succ_cons]
        | rw [show (indexByte l 10 + 1).toNat = (indexByte l 10).toNat + 1 by omega, List.drop_succ_cons]
        exact h2 (by omega)
theorem index_join (t : List UInt8) : ∀ (l : List UInt8), (indexByte l 10 < 0 → indexByte (l ++ 10 :: t) 10 = l.length) ∧ (0 ≤ indexByte l 10 → indexByte (l ++ 10 :: t) 10 = indexByte l 10)
  | [] => ⟨fun _ => by simp [indexByte], fun h => by simp [indexByte] at h⟩
  | c :: l => by
    obtain ⟨h1, h2⟩ := index_join t l
    obtain ⟨i1, i2, i3, -⟩ := index_le l 10
    rw [List.cons_append]
    unfold indexByte
    by_cases g : (c == 10) = true
    · rw [if_pos g, if_pos g]
      exact ⟨fun h => by omega, fun _ => rfl⟩
    · rw [if_neg g, if_neg g]
      by_cases g3 : indexByte l 10 < 0
      · have e := h1 g3
        have e2 : indexByte l 10 = -1 := i3 g3
        rw [e, e2]
        refine ⟨fun _ => ?_, fun h => ?_⟩
        · rw [if_neg (by simp <;> omega)]
          simp only [List.length_cons]
          omega
        · simp at h
      · have e := h2 (by omega)
        rw [e]
        exact ⟨fun h => by rw [if_neg (by simp <;> omega)] at h; omega, fun _ => rfl⟩
theorem count_drop {l u : List UInt8} (hu : u <+: l) (h : ∀ x, x ∈ u → ¬ Gap x) : (l.drop u.length).count 10 = l.count 10 := by
  obtain ⟨v, rfl⟩ := hu
  have h0 : u.count 10 = 0 := List.count_eq_zero.2 fun hx => h 10 hx (Or.inr rfl)
  simp [List.count_append, h0]

/-- THE TOKENS OF TWO TEXTS WITH THE END OF A LINE BETWEEN. -/
theorem lexA_join (t : List UInt8) : ∀ (f : Nat) (l : List UInt8) (line : Int) (acc : List (Tk × Int)) (g : Nat), l.length < f → (l ++ 10 :: t).length < g →
    lexA g (l ++ 10 :: t) line acc = (lexA f l line acc).join (thenL t (line + l.count 10 + 1))
  | 0, l, _, _, _, hf, _ => by omega
  | f + 1, [], line, acc, g, _, hg => by
    obtain ⟨g, rfl⟩ : ∃ k, g = k + 1 := ⟨g - 1, by omega⟩
    simp only [List.nil_append, List.length_cons] at hg ⊢
    have e : lexA (f + 1) [] line acc = .good acc := by unfold lexA; rfl
    rw [e]
    conv => lhs; unfold lexA
    rw [if_pos rfl]
    simp only [Res.join, thenL, List.count_nil, Int.natCast_zero, Int.add_zero]
    exact fuel _ _ _ _ _ (by omega) (by omega)
  | f + 1, c :: r, line, acc, g, hf, hg => by
    obtain ⟨g, rfl⟩ : ∃ k, g = k + 1 := ⟨g - 1, by omega⟩
    have hcr : c :: r ++ 10 :: t = c :: (r ++ 10 :: t) := rfl
    rw [hcr] at hg ⊢
    simp only [List.length_cons, List.length_append] at hf hg
    unfold lexA
    by_cases h10 : c = 10
    · rw [if_pos h10, if_pos h10, lexA_join t f r _ _ g (by omega) (by rw [List.length_append, List.length_cons]; omega)]
      have e : (c :: r).count 10 = r.count 10 + 1 := by rw [h10]; exact List.count_cons_self ..
      rw [e]
      have e2 : line + 1 + ((r.count 10 : Nat) : Int) + 1 = line + ((r.count 10 + 1 : Nat) : Int) + 1 := by omega
      rw [e2]
    · have hc : (c :: r).count 10 = r.count 10 := List.count_cons_of_ne h10
      rw [if_neg h10, if_neg h10]
      by_cases hbl : c = 9 ∨ c = 13 ∨ c = 32
      · rw [if_pos hbl, if_pos hbl, lexA_join t f r _ _ g (by omega) (by rw [List.length_append, List.length_cons]; omega), hc]
      · rw [if_neg hbl, if_neg hbl]
        have hpp : hasPrefix (c :: (r ++ 10 :: t)) [45, 45] = hasPrefix (c :: r) [45, 45] := by rw [← hcr]; exact pre_gap (by decide)
        rw [hpp]
        by_cases hp : hasPrefix (c :: r) [45, 45] = true
        · rw [if_pos hp, if_pos hp]
          obtain ⟨j1, j2⟩ := index_join t (c :: r)
          obtain ⟨k1, k2⟩ := index_ten (c :: r)
          rw [hcr] at j1 j2
          have hip := index_pos (r := r) h10
          obtain ⟨i1, i2, i3, -⟩ := index_le (c :: r) 10
          simp only [List.length_cons] at i1 j1
          by_cases hi : indexByte (c :: r) 10 < 0
          · rw [if_pos hi, j1 hi, if_neg (by omega)]
            have e : (((r.length + 1 : Nat) : Int)).toNat = (c :: r).length := by simp
            rw [e, ← hcr, List.drop_left]
            obtain ⟨g, rfl⟩ : ∃ k, g = k + 1 := ⟨g - 1, by omega⟩
            conv => lhs; unfold lexA
            rw [if_pos rfl]
            simp only [Res.join, thenL]
            rw [k1 hi]
            simp only [Int.natCast_zero, Int.add_zero]
            exact fuel _ _ _ _ _ (by omega) (by omega)
          · rw [if_neg hi, j2 (by omega), if_neg hi]
            have hq : (indexByte (c :: r) 10).toNat ≤ (c :: r).length := by simp only [List.length_cons]; omega
            have e : (c :: (r ++ 10 :: t)).drop (indexByte (c :: r) 10).toNat = (c :: r).drop (indexByte (c :: r) 10).toNat ++ 10 :: t := by
              rw [← hcr, List.drop_append_of_le_length hq]
            have hq1 : 1 ≤ (indexByte (c :: r) 10).toNat := by omega
            rw [e, lexA_join t f ((c :: r).drop (indexByte (c :: r) 10).toNat) line acc g (by rw [List.length_drop, List.length_cons]; omega) (by rw [List.length_append, List.length_drop, List.length_cons, List.length_cons]; omega), k2 (by omega)]
        · rw [if_neg hp, if_neg hp]
          have hrd : readL (c :: (r ++ 10 :: t)) = readL (c :: r) := by rw [← hcr]; exact read_gap (List.cons_ne_nil c r) (Or.inr rfl)
          rw [hrd]
          by_cases hr : (readL (c :: r)).2 = 0
          · rw [if_pos hr, if_pos hr]
            by_cases hm : acc.length = 4096
            · rw [if_pos hm, if_pos hm]
              rfl
            · rw [if_neg hm, if_neg hm]
              obtain ⟨-, h2, h3⟩ := read_own (List.cons_ne_nil c r) hr
              have hle := read_len hr
              have hc2 := count_drop h2 h3
              have e : (c :: (r ++ 10 :: t)).drop (readL (c :: r)).1.t.length = (c :: r).drop (readL (c :: r)).1.t.length ++ 10 :: t := by
                rw [← hcr, List.drop_append_of_le_length (by simpa using hle.2)]
              simp only [List.length_cons] at hle
              rw [e, lexA_join t f ((c :: r).drop (readL (c :: r)).1.t.length) line _ g (by rw [List.length_drop, List.length_cons]; omega) (by rw [List.length_append, List.length_drop, List.length_cons, List.length_cons]; omega), hc2]
          · rw [if_neg hr, if_neg hr]
            rfl

def Res.ahead (A : List (Tk × Int)) : Res → Res
  | .good B => .good (A ++ B)
  | .bad e l => .bad e l
theorem lexA_ahead (A : List (Tk × Int)) : ∀ (f : Nat) (l : List UInt8) (line : Int) (acc : List (Tk × Int)), A.length + acc.length + l.length ≤ 4096 → lexA f l line (A ++ acc) = (lexA f l line acc).ahead A
  | 0, l, line, acc, _ => by unfold lexA; rfl
  | f + 1, [], line, acc, _ => by unfold lexA; rfl
  | f + 1, c :: r, line, acc, h => by
    simp only [List.length_cons] at h
    unfold lexA
    split
    · exact lexA_ahead A f _ _ _ (by omega)
    · split
      · exact lexA_ahead A f _ _ _ (by omega)
      · split
        · split
          · rfl
          · exact lexA_ahead A f _ _ _ (by rw [List.length_drop, List.length_cons]; omega)
        · split
          · rename_i hr
            have hle := read_len hr
            rw [if_neg (by rw [List.length_append]; omega), if_neg (by omega), List.append_assoc]
            simp only [List.length_cons] at hle
            exact lexA_ahead A f _ _ _ (by simp only [List.length_append, List.length_drop, List.length_cons, List.length_nil]; omega)
          · rfl
theorem lexL_join (s t : List UInt8) (hs : s.length + t.length ≤ 4096) : lexL (s ++ 10 :: t) = (lexL s).join fun A => ((lexL t).shift (s.count 10 + 1)).ahead A := by
  have h := lexA_join t (s.length + 1) s 1 [] ((s ++ 10 :: t).length + 1) (by omega) (by omega)
  unfold lexL
  rw [h]
  cases hA : lexA (s.length + 1) s 1 [] with
  | bad e l => rfl
  | good A =>
    obtain ⟨ho, -, hb⟩ := lexL_own (l := s) (T := A) hA
    have hl := len_bytes A ho
    simp only [Res.join, thenL]
    have h1 := lexA_ahead A (t.length + 1) t (1 + (s.count 10 : Int) + 1) [] (by simp only [List.length_nil]; omega)
    rw [List.append_nil] at h1
    have h2 := lexA_shift ((s.count 10 : Int) + 1) (t.length + 1) t 1 []
    simp only [List.map_nil] at h2
    rw [h1, ← h2]
    have e : 1 + (s.count 10 : Int) + 1 = 1 + ((s.count 10 : Int) + 1) := by omega
    rw [e]
/-- A remark ahead. -/
theorem lexA_rem (m t : List UInt8) (hm : m.count 10 = 0) (g : Nat) (n : Int) (A : List (Tk × Int)) (hg : (45 :: 45 :: m ++ 10 :: t).length < g) : lexA g (45 :: 45 :: m ++ 10 :: t) n A = lexA (t.length + 1) t (n + 1) A := by
  have h := lexA_join t ((45 :: 45 :: m).length + 1) (45 :: 45 :: m) n A g (by omega) hg
  have h45 : ∀ m : List UInt8, (45 :: m).count 10 = m.count 10 := fun m => List.count_cons_of_ne (by decide)
  have hi : indexByte (45 :: 45 :: m) 10 < 0 := by
    by_cases g : indexByte (45 :: 45 :: m) 10 < 0
    · exact g
    · exfalso
      obtain ⟨i1, i2, i3, i4⟩ := index_le (45 :: 45 :: m) 10
      have hx : ∀ l : List UInt8, 0 ≤ indexByte l 10 → 1 ≤ l.count 10 := by
        intro l
        induction l with
        | nil => intro h; simp [indexByte] at h
        | cons c l ih =>
          intro h
          by_cases gc : c = 10
          · rw [gc, List.count_cons_self]; omega
          · rw [List.count_cons_of_ne gc]
            refine ih ?_
            unfold indexByte at h
            rw [if_neg (by simpa using gc)] at h
            split at h
            · omega
            · rename_i g2
              obtain ⟨_, k2, _, _⟩ := index_le l 10
              have : indexByte l 10 ≠ -1 := by simpa using g2
              omega
      have := hx (45 :: 45 :: m) (by omega)
      rw [h45, h45] at this
      omega
  have e : lexA ((45 :: 45 :: m).length + 1) (45 :: 45 :: m) n A = .good A := by
    unfold lexA
    rw [if_neg (by decide), if_neg (by decide), if_pos (by simp [hasPrefix]), if_pos hi]
  have hc : (45 :: 45 :: m : List UInt8).count 10 = 0 := by rw [h45, h45]; exact hm
  rw [h, e, hc]
  simp only [Res.join, thenL, Int.natCast_zero, Int.add_zero]
theorem lexL_join3 (s t m : List UInt8) (hs : s.length + t.length ≤ 4096) (hm : m.count 10 = 0) : lexL (s ++ 10 :: (45 :: 45 :: m ++ 10 :: t)) = (lexL s).join fun A => ((lexL t).shift (s.count 10 + 2)).ahead A := by
  have h := lexA_join (45 :: 45 :: m ++ 10 :: t) (s.length + 1) s 1 [] ((s ++ 10 :: (45 :: 45 :: m ++ 10 :: t)).length + 1) (by omega) (by omega)
  unfold lexL
  rw [h]
  cases hA : lexA (s.length + 1) s 1 [] with
  | bad e l => rfl
  | good A =>
    obtain ⟨ho, -, hb⟩ := lexL_own (l := s) (T := A) hA
    have hl := len_bytes A ho
    simp only [Res.join, thenL]
    rw [lexA_rem m t hm _ _ _ (by omega)]
    have h1 := lexA_ahead A (t.length + 1) t (1 + (s.count 10 : Int) + 1 + 1) [] (by simp only [List.length_nil]; omega)
    rw [List.append_nil] at h1
    have h2 := lexA_shift ((s.count 10 : Int) + 2) (t.length + 1) t 1 []
    simp only [List.map_nil] at h2
    rw [h1, ← h2]
    have e : 1 + (s.count 10 : Int) + 1 + 1 = 1 + ((s.count 10 : Int) + 2) := by omega
    rw [e]

end Go.Proofs.YtkeeglpbhjnmdaaDoor
