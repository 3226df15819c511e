/- All tokens of a text, of lists of bytes; how long a token is. -/
import Derived.Test.YtkeeglpbhjnmdaaDoorLxG
namespace Go.Proofs.YtkeeglpbhjnmdaaDoor
open Go.RowKit Go.Lib

inductive Res where
  | good (l : List (Tk × Int))
  | bad (e line : Int)

/-- The tokens of what is left, behind those that were read. -/
def lexA : Nat → List UInt8 → Int → List (Tk × Int) → Res
  | 0, _, _, acc => .good acc
  | _ + 1, [], _, acc => .good acc
  | n + 1, c :: r, line, acc =>
    if c = 10 then lexA n r (line + 1) acc
    else if c = 9 ∨ c = 13 ∨ c = 32 then lexA n r line acc
    else if hasPrefix (c :: r) [45, 45] = true then
      (if indexByte (c :: r) 10 < 0 then .good acc else lexA n ((c :: r).drop (indexByte (c :: r) 10).toNat) line acc)
    else if (readL (c :: r)).2 = 0 then
      (if acc.length = 4096 then .bad 2 line else lexA n ((c :: r).drop (readL (c :: r)).1.t.length) line (acc ++ [((readL (c :: r)).1, line)]))
    else .bad (readL (c :: r)).2 line
def lexL (l : List UInt8) : Res := lexA (l.length + 1) l 1 []

theorem word_one (c : UInt8) : wordF [c] = none := by simp [wordF, kput]
theorem word_nil : kindF [] = none := by
  simp [kindF, kputs, wordF, kput]
theorem kind_run (c : UInt8) (h : inRun c = false) : kindF [c] = none := by
  have nm : ∀ (l : List UInt8), (∀ x, x ∈ l → inRun x = true) → ∀ (f : List UInt8 → Option Int) u, kputs f l u [c] = f [c] := fun l hl f u => by
    unfold kputs
    rw [if_neg]
    rintro ⟨x, hx, e⟩
    simp only [List.cons.injEq, and_true] at e
    subst e
    rw [hl _ hx] at h
    cases h
  unfold kindF
  rw [nm _ (by decide), nm _ (by decide), nm _ (by decide), word_one]

theorem run_nil {c : UInt8} {r : List UInt8} (h : runL (c :: r) = []) : inRun c = false := by
  unfold runL at h
  rw [List.takeWhile_cons] at h
  cases g : inRun c with
  | false => rfl
  | true => rw [g] at h; simp at h
theorem kindOf_nil {c : UInt8} {r : List UInt8} (h : runL (c :: r) = []) : kindOf (c :: r) = 0 := by
  unfold kindOf
  rw [h, word_nil]
  simp [kind_run c (run_nil h)]
theorem numT_ok {t : List UInt8} (h : (numT t).2 = 0) : (numT t).1.t = t := by
  unfold numT at *
  split
  · rfl
  · rename_i g
    rw [if_neg g] at h
    exact absurd h g
theorem numT_nil : (numT []).2 = 3 := by decide
theorem sign_pos : ∀ x, x ∈ signsB → 1 ≤ x.1.data.toList.length := by decide
theorem sign_some {l : List UInt8} {x : ByteArray × Int} (h : signL l = some x) : 1 ≤ x.1.data.toList.length ∧ x.1.data.toList.length ≤ l.length := by
  unfold signL at h
  have h1 := List.mem_of_find?_eq_some h
  have h2 := List.find?_some h
  refine ⟨sign_pos x h1, ?_⟩
  unfold hasPrefix at h2
  exact (List.isPrefixOf_iff_prefix.1 h2).length_le

/-- A token takes some bytes, and no more than there are. -/
theorem read_len {c : UInt8} {r : List UInt8} (h : (readL (c :: r)).2 = 0) : 1 ≤ (readL (c :: r)).1.t.length ∧ (readL (c :: r)).1.t.length ≤ (c :: r).length := by
  have hm : 1 ≤ (markedL (c :: r)).length ∧ (markedL (c :: r)).length ≤ (c :: r).length := by
    unfold markedL
    have h1 := trimP_le ((c :: r).drop 1) [45]
    simp only [List.drop_succ_cons, List.drop_zero] at h1
    rw [List.length_take]
    simp only [List.length_cons, List.drop_succ_cons, List.drop_zero]
    omega
  have hr := run_le (c :: r)
  unfold readL at *
  cases hs : signL (c :: r) with
  | some x => exact sign_some hs
  | none =>
    rw [hs] at h
    simp only at h ⊢
    split at h
    · rename_i g
      rw [if_pos g, numT_ok h]
      exact hm
    · rename_i g
      rw [if_neg g]
      unfold readR at *
      split at h
      · cases h
      · rename_i g0
        rw [if_neg g0]
        have hne : runL (c :: r) ≠ [] := fun e => g0 (kindOf_nil e)
        have hpos : 1 ≤ (runL (c :: r)).length := by
          cases hh : runL (c :: r) with
          | nil => exact absurd hh hne
          | cons a b => simp
        split at h
        · rename_i g3
          rw [if_pos g3, numT_ok h]
          exact ⟨hpos, hr⟩
        · rename_i g3
          rw [if_neg g3]
          split at h
          · cases h
          · rename_i g16
            rw [if_neg g16]
            exact ⟨hpos, hr⟩

theorem index_le : ∀ (l : List UInt8) (c : UInt8), indexByte l c ≤ l.length ∧ -1 ≤ indexByte l c ∧ (indexByte l c < 0 → indexByte l c = -1) ∧ (indexByte l c = l.length → l = [] ∨ indexByte l c = -1)
  | [], c => ⟨by simp [indexByte], by simp [indexByte], fun _ => by simp [indexByte], fun _ => Or.inl rfl⟩
  | b :: l, c => by
    obtain ⟨h1, h2, h3, h4⟩ := index_le l c
    unfold indexByte
    by_cases g : (b == c) = true
    · rw [if_pos g]
      simp only [List.length_cons]
      refine ⟨by omega, by omega, fun h => by omega, fun h => by omega⟩
    · rw [if_neg g]
      by_cases g2 : (indexByte l c == -1) = true
      · rw [if_pos g2]
        simp only [List.length_cons]
        refine ⟨by omega, by omega, fun h => by trivial, fun h => Or.inr (by trivial)⟩
      · rw [if_neg g2]
        have g3 : indexByte l c ≠ -1 := by simpa using g2
        simp only [List.length_cons]
        refine ⟨by omega, by omega, fun h => by omega, fun h => ?_⟩
        rcases h4 (by omega) with e | e
        · subst e
          simp [indexByte] at g3
        · exact absurd e g3

theorem ba_of {b : ByteArray} {l : List UInt8} (h : b.data.toList = l) : b = ⟨l.toArray⟩ := by
  subst h
  cases b
  simp

/-- Tokens as they lie. -/
def flatT : List (Tk × Int) → List Value
  | [] => []
  | x :: r => [.int .i64 x.1.k, .string ⟨x.1.t.toArray⟩, .bool x.1.f, .int .u64 x.1.x, .int .i64 x.2] ++ flatT r
theorem flatT_append (a b : List (Tk × Int)) : flatT (a ++ b) = flatT a ++ flatT b := by
  induction a with
  | nil => rfl
  | cons x a ih => simp only [List.cons_append, flatT, ih, List.append_assoc]

end Go.Proofs.YtkeeglpbhjnmdaaDoor
