/- A token does not look behind a blank, or behind the end of a line. -/
import Derived.Test.YtkeeglpbhjnmdaaDoorLxO
namespace Go.Proofs.YtkeeglpbhjnmdaaDoor
open Go.RowKit Go.Lib

/-- A byte that no token has. -/
def Gap (b : UInt8) : Prop := b = 32 ∨ b = 10

theorem pre_gap {p l r : List UInt8} {b : UInt8} (hb : b ∉ p) : hasPrefix (l ++ b :: r) p = hasPrefix l p := by
  unfold hasPrefix
  rw [Bool.eq_iff_iff, List.isPrefixOf_iff_prefix, List.isPrefixOf_iff_prefix]
  constructor
  · intro h
    by_cases g : p.length ≤ l.length
    · exact List.prefix_of_prefix_length_le h (List.prefix_append _ _) g
    · exfalso
      have hl : l.length < p.length := by omega
      obtain ⟨t, ht⟩ := h
      have h1 : (p ++ t)[l.length]? = (l ++ b :: r)[l.length]? := by rw [ht]
      rw [List.getElem?_append_left hl, List.getElem?_append_right (Nat.le_refl _), Nat.sub_self] at h1
      exact hb (List.mem_of_getElem? h1)
  · intro h
    exact h.trans (List.prefix_append _ _)
theorem find_same {α : Type} {p q : α → Bool} : ∀ (l : List α), (∀ x, x ∈ l → p x = q x) → l.find? p = l.find? q
  | [], _ => rfl
  | a :: l, h => by
    rw [List.find?_cons, List.find?_cons, h a (List.mem_cons_self ..), find_same l fun x hx => h x (List.mem_cons_of_mem _ hx)]
theorem signs_gap : ∀ x, x ∈ signsB → (32 : UInt8) ∉ x.1.data.toList ∧ (10 : UInt8) ∉ x.1.data.toList := by decide
theorem sign_gap {l r : List UInt8} {b : UInt8} (hb : Gap b) : signL (l ++ b :: r) = signL l := by
  unfold signL
  refine find_same _ fun x hx => pre_gap ?_
  rcases hb with rfl | rfl
  · exact (signs_gap x hx).1
  · exact (signs_gap x hx).2
theorem inRun_gap {b : UInt8} (hb : Gap b) : inRun b = false := by
  rcases hb with rfl | rfl <;> decide
theorem run_gap {l r : List UInt8} {b : UInt8} (hb : inRun b = false) : runL (l ++ b :: r) = runL l := by
  unfold runL
  induction l with
  | nil => rw [List.nil_append, List.takeWhile_cons, hb]; rfl
  | cons c l ih => rw [List.cons_append, List.takeWhile_cons, List.takeWhile_cons, ih]
theorem run_run (l : List UInt8) : runL (runL l) = runL l := by
  unfold runL
  induction l with
  | nil => rfl
  | cons c l ih =>
    rw [List.takeWhile_cons]
    split
    · rename_i h
      rw [List.takeWhile_cons, if_pos h, ih]
    · rfl
theorem run_mem {l : List UInt8} {x : UInt8} (h : x ∈ runL l) : inRun x = true := by
  unfold runL at h
  induction l with
  | nil => cases h
  | cons c l ih =>
    rw [List.takeWhile_cons] at h
    split at h
    · rename_i g
      rcases List.mem_cons.1 h with rfl | h
      · exact g
      · exact ih h
    · cases h
theorem run_take (l : List UInt8) : l.take (runL l).length = runL l := (List.prefix_iff_eq_take.1 (List.takeWhile_prefix _)).symm
theorem marked_minus (q : List UInt8) : markedL (35 :: 45 :: q) = 35 :: 45 :: runL q := by
  have e : trimPrefix ((35 :: 45 :: q : List UInt8).drop 1) [45] = q := by simp [trimPrefix, hasPrefix]
  unfold markedL
  rw [e]
  have e2 : (35 :: 45 :: q : List UInt8).length - q.length + (runL q).length = (runL q).length + 1 + 1 := by simp only [List.length_cons]; omega
  rw [e2, List.take_succ_cons, List.take_succ_cons, run_take]
theorem marked_plain {m : List UInt8} (h : hasPrefix m [45] = false) : markedL (35 :: m) = 35 :: runL m := by
  have e : trimPrefix ((35 :: m : List UInt8).drop 1) [45] = m := by simp [trimPrefix, h]
  unfold markedL
  rw [e]
  have e2 : (35 :: m : List UInt8).length - m.length + (runL m).length = (runL m).length + 1 := by simp only [List.length_cons]; omega
  rw [e2, List.take_succ_cons, run_take]
theorem minus_split (m : List UInt8) : (∃ q, m = 45 :: q) ∨ hasPrefix m [45] = false := by
  cases m with
  | nil => exact Or.inr (by decide)
  | cons c q =>
    by_cases h : c = 45
    · exact Or.inl ⟨q, by rw [h]⟩
    · refine Or.inr ?_
      unfold hasPrefix
      rw [Bool.eq_false_iff]
      intro g
      exact h (List.cons_prefix_cons.1 (List.isPrefixOf_iff_prefix.1 g)).1.symm
theorem marked_gap {m r : List UInt8} {b : UInt8} (hb : Gap b) : markedL (35 :: (m ++ b :: r)) = markedL (35 :: m) := by
  rcases minus_split m with ⟨q, rfl⟩ | h
  · rw [List.cons_append, marked_minus, marked_minus, run_gap (inRun_gap hb)]
  · rw [marked_plain h, marked_plain, run_gap (inRun_gap hb)]
    rw [pre_gap]
    · exact h
    · rcases hb with rfl | rfl <;> decide
theorem has35 {l : List UInt8} (h : hasPrefix l [35] = true) : ∃ m, l = 35 :: m := by
  unfold hasPrefix at h
  obtain ⟨t, rfl⟩ := List.isPrefixOf_iff_prefix.1 h
  exact ⟨t, rfl⟩

/-- WHAT STANDS BEHIND A BLANK, OR BEHIND THE END OF A LINE, PLAYS NO PART. -/
theorem read_gap {l r : List UInt8} {b : UInt8} (hl : l ≠ []) (hb : Gap b) : readL (l ++ b :: r) = readL l := by
  unfold readL
  rw [sign_gap hb]
  cases signL l with
  | some x => rfl
  | none =>
    simp only
    have h35 : hasPrefix (l ++ b :: r) [35] = hasPrefix l [35] := pre_gap (by rcases hb with rfl | rfl <;> decide)
    rw [h35]
    by_cases g : hasPrefix l [35] = true
    · rw [if_pos g, if_pos g]
      obtain ⟨m, rfl⟩ := has35 g
      rw [List.cons_append, marked_gap hb]
    · rw [if_neg g, if_neg g]
      have hk : kindOf (l ++ b :: r) = kindOf l := by
        unfold kindOf
        rw [run_gap (inRun_gap hb)]
        cases l with
        | nil => exact absurd rfl hl
        | cons c l => rfl
      unfold readR
      rw [hk, run_gap (inRun_gap hb)]

theorem signs_own : ∀ x, x ∈ signsB → signL x.1.data.toList = some x := by decide
theorem sign_pre {t l : List UInt8} (ht : t <+: l) (h : signL l = none) : signL t = none := by
  unfold signL at *
  rw [List.find?_eq_none] at *
  intro x hx g
  refine h x hx ?_
  unfold hasPrefix at *
  exact List.isPrefixOf_iff_prefix.2 ((List.isPrefixOf_iff_prefix.1 g).trans ht)
theorem marked_pre (m : List UInt8) : markedL (35 :: m) <+: 35 :: m ∧ markedL (markedL (35 :: m)) = markedL (35 :: m) := by
  rcases minus_split m with ⟨q, rfl⟩ | h
  · rw [marked_minus, marked_minus, run_run]
    exact ⟨List.cons_prefix_cons.2 ⟨rfl, List.cons_prefix_cons.2 ⟨rfl, List.takeWhile_prefix _⟩⟩, rfl⟩
  · rw [marked_plain h, marked_plain, run_run]
    · exact ⟨List.cons_prefix_cons.2 ⟨rfl, List.takeWhile_prefix _⟩, rfl⟩
    · rcases minus_split (runL m) with ⟨q, e⟩ | g
      · exact absurd (run_mem (l := m) (x := 45) (by rw [e]; exact List.mem_cons_self ..)) (by decide)
      · exact g
theorem marked_gaps {m : List UInt8} {x : UInt8} (h : x ∈ markedL (35 :: m)) : ¬ Gap x := by
  have hr : ∀ q, x ∈ runL q → ¬ Gap x := fun q hx g => by have := run_mem hx; rw [inRun_gap g] at this; cases this
  have h35 : x = 35 → ¬ Gap x := fun e g => by subst e; rcases g with g | g <;> revert g <;> decide
  have h45 : x = 45 → ¬ Gap x := fun e g => by subst e; rcases g with g | g <;> revert g <;> decide
  rcases minus_split m with ⟨q, rfl⟩ | g
  · rw [marked_minus] at h
    rcases List.mem_cons.1 h with h | h
    · exact h35 h
    · rcases List.mem_cons.1 h with h | h
      · exact h45 h
      · exact hr _ h
  · rw [marked_plain g] at h
    rcases List.mem_cons.1 h with h | h
    · exact h35 h
    · exact hr _ h

/-- A TOKEN'S TEXT, READ AGAIN, IS THAT TOKEN: it stands at the beginning, and has no gap. -/
theorem read_own {l : List UInt8} (hl : l ≠ []) (h : (readL l).2 = 0) : readL (readL l).1.t = ((readL l).1, 0) ∧ (readL l).1.t <+: l ∧ ∀ x, x ∈ (readL l).1.t → ¬ Gap x := by
  cases hs : signL l with
  | some x =>
    have e : readL l = (⟨x.2, x.1.data.toList, false, 0⟩, 0) := by unfold readL; rw [hs]
    have hx : x ∈ signsB := by unfold signL at hs; exact List.mem_of_find?_eq_some hs
    have hp := by unfold signL at hs; exact List.find?_some hs
    rw [e]
    refine ⟨?_, ?_, ?_⟩
    · unfold readL
      simp only
      rw [signs_own x hx]
    · unfold hasPrefix at hp
      exact List.isPrefixOf_iff_prefix.1 hp
    · intro b hb g
      rcases g with rfl | rfl
      · exact (signs_gap x hx).1 hb
      · exact (signs_gap x hx).2 hb
  | none =>
    by_cases g : hasPrefix l [35] = true
    · have e : readL l = numT (markedL l) := by unfold readL; rw [hs]; exact if_pos g
      rw [e] at h ⊢
      rw [numT_ok h]
      obtain ⟨m, rfl⟩ := has35 g
      obtain ⟨hp, hm⟩ := marked_pre m
      refine ⟨?_, hp, fun x hx => marked_gaps hx⟩
      have h35 : hasPrefix (markedL (35 :: m)) [35] = true := by
        rcases minus_split m with ⟨q, rfl⟩ | gm
        · rw [marked_minus]; rfl
        · rw [marked_plain gm]; rfl
      have e2 : readL (markedL (35 :: m)) = numT (markedL (markedL (35 :: m))) := by
        unfold readL
        rw [sign_pre hp hs]
        exact if_pos h35
      rw [e2, hm, ← h]
    · have e : readL l = readR l := by unfold readL; rw [hs]; exact if_neg g
      rw [e] at h ⊢
      have hne : kindOf l ≠ 0 := by
        intro k
        unfold readR at h
        rw [if_pos k] at h
        cases h
      have hrn : runL l ≠ [] := by
        intro k
        cases l with
        | nil => exact hl rfl
        | cons c r => exact hne (kindOf_nil k)
      have hkk : kindOf (runL l) = kindOf l := by
        unfold kindOf
        rw [run_run]
        have : (runL l).take 1 = l.take 1 := by
          cases l with
          | nil => exact absurd rfl hl
          | cons c r =>
            unfold runL at hrn ⊢
            rw [List.takeWhile_cons] at hrn ⊢
            split
            · rfl
            · rename_i k
              rw [if_neg k] at hrn
              exact absurd rfl hrn
        rw [this]
      have ht : (readR l).1.t = runL l := by
        unfold readR at h ⊢
        rw [if_neg hne] at h ⊢
        split at h
        · rename_i g3
          rw [if_pos g3]
          exact numT_ok h
        · rename_i g3
          rw [if_neg g3]
          split at h
          · cases h
          · rename_i g16
            rw [if_neg g16]
      rw [ht]
      refine ⟨?_, List.takeWhile_prefix _, fun x hx gx => by have := run_mem hx; rw [inRun_gap gx] at this; cases this⟩
      have g2 : ¬ hasPrefix (runL l) [35] = true := by
        intro k
        obtain ⟨m, hm⟩ := has35 k
        exact absurd (run_mem (l := l) (x := 35) (by rw [hm]; exact List.mem_cons_self ..)) (by decide)
      have e2 : readL (runL l) = readR (runL l) := by
        unfold readL
        rw [sign_pre (show runL l <+: l from List.takeWhile_prefix _) hs]
        exact if_neg g2
      have e3 : readR (runL l) = readR l := by
        unfold readR
        rw [hkk, run_run]
      rw [e2, e3, ← h]

/-- A token that its own text tells. -/
def Own (y : Tk) : Prop := ∃ c r, y.t = c :: r ∧ c ≠ 10 ∧ ¬ (c = 9 ∨ c = 13 ∨ c = 32) ∧ hasPrefix y.t [45, 45] = false ∧ readL y.t = (y, 0)
theorem fuel : ∀ (f g : Nat) (l : List UInt8) (line : Int) (acc : List (Tk × Int)), l.length < f → l.length < g → lexA f l line acc = lexA g l line acc
  | 0, _, l, _, _, hf, _ => by omega
  | _, 0, l, _, _, _, hg => by omega
  | f + 1, g + 1, [], _, _, _, _ => by unfold lexA; rfl
  | f + 1, g + 1, c :: r, line, acc, hf, hg => by
    simp only [List.length_cons] at hf hg
    unfold lexA
    split
    · exact fuel f g _ _ _ (by omega) (by omega)
    · rename_i h10
      split
      · exact fuel f g _ _ _ (by omega) (by omega)
      · split
        · have hip := index_pos (r := r) h10
          split
          · rfl
          · exact fuel f g _ _ _ (by rw [List.length_drop, List.length_cons]; omega) (by rw [List.length_drop, List.length_cons]; omega)
        · split
          · rename_i hr
            have hle := read_len hr
            split
            · rfl
            · exact fuel f g _ _ _ (by rw [List.length_drop, List.length_cons]; omega) (by rw [List.length_drop, List.length_cons]; omega)
          · rfl
theorem take_own {y : Tk} (h : Own y) (rest : List UInt8) {b : UInt8} (hb : Gap b) (f : Nat) (line : Int) (acc : List (Tk × Int)) (ha : acc.length < 4096) :
    lexA (f + 1) (y.t ++ b :: rest) line acc = lexA f (b :: rest) line (acc ++ [(y, line)]) := by
  obtain ⟨c, r, ht, h10, hbl, hp, hr⟩ := h
  have e1 : readL (y.t ++ b :: rest) = (y, 0) := (read_gap (by rw [ht]; simp) hb).trans hr
  have e2 : hasPrefix (y.t ++ b :: rest) [45, 45] = false := (pre_gap (by rcases hb with rfl | rfl <;> decide)).trans hp
  have e3 : (y.t ++ b :: rest).drop y.t.length = b :: rest := by simp
  obtain ⟨M, hM⟩ : ∃ M, y.t ++ b :: rest = c :: M := ⟨r ++ b :: rest, by rw [ht]; rfl⟩
  rw [hM] at e1 e2 e3 ⊢
  conv => lhs; unfold lexA
  rw [if_neg h10, if_neg hbl, e2, if_neg (by decide), e1]
  simp only [if_true]
  rw [if_neg (by omega), e3]
theorem last_own {y : Tk} (h : Own y) (f : Nat) (line : Int) (acc : List (Tk × Int)) (ha : acc.length < 4096) :
    lexA (f + 1) y.t line acc = .good (acc ++ [(y, line)]) := by
  obtain ⟨c, r, ht, h10, hbl, hp, hr⟩ := h
  rw [ht] at hp hr ⊢
  unfold lexA
  rw [if_neg h10, if_neg hbl, hp, if_neg (by decide), hr]
  simp only [if_true]
  rw [if_neg (by omega), ht, List.drop_length]
  cases f <;> (unfold lexA; rfl)
theorem skip_32 (f : Nat) (rest : List UInt8) (line : Int) (acc : List (Tk × Int)) : lexA (f + 1) (32 :: rest) line acc = lexA f rest line acc := by
  conv => lhs; unfold lexA
  rw [if_neg (by decide), if_pos (by decide)]

/-- Tokens' texts, a blank behind each. -/
def spaced (T : List (Tk × Int)) : List UInt8 := T.flatMap fun x => x.1.t ++ [32]
theorem spaced_snoc (T : List (Tk × Int)) (x : Tk × Int) : spaced (T ++ [x]) = spaced T ++ x.1.t ++ [32] := by simp [spaced]
theorem lexA_spaced : ∀ (T acc : List (Tk × Int)) (f : Nat), (spaced T).length < f → (∀ x, x ∈ T → Own x.1) → acc.length + T.length ≤ 4096 → lexA f (spaced T) 1 acc = .good (acc ++ T.map fun x => (x.1, 1))
  | [], acc, f, hf, _, _ => by
    obtain ⟨g, rfl⟩ : ∃ g, f = g + 1 := ⟨f - 1, by omega⟩
    show lexA (g + 1) [] 1 acc = _
    unfold lexA
    simp
  | x :: T, acc, f, hf, ho, hl => by
    have e : spaced (x :: T) = x.1.t ++ 32 :: spaced T := by simp [spaced]
    have hx := ho x (List.mem_cons_self ..)
    rw [e, List.length_append, List.length_cons] at hf
    rw [e]
    simp only [List.length_cons] at hl
    obtain ⟨g, rfl⟩ : ∃ g, f = g + 1 + 1 := ⟨f - 2, by omega⟩
    rw [take_own hx _ (Or.inl rfl) _ _ _ (by omega), skip_32]
    have hpos : 1 ≤ x.1.t.length := by
      obtain ⟨c, r, ht, _⟩ := hx
      rw [ht]
      simp
    rw [lexA_spaced T _ g (by omega) (fun y hy => ho y (List.mem_cons_of_mem _ hy)) (by rw [List.length_append, List.length_singleton]; omega)]
    simp
theorem lexL_spaced {T : List (Tk × Int)} (ho : ∀ x, x ∈ T → Own x.1) (hl : T.length ≤ 4096) : lexL (spaced T) = .good (T.map fun x => (x.1, 1)) := by
  unfold lexL
  rw [lexA_spaced T [] _ (by omega) ho (by simpa using hl)]
  simp

theorem lexA_bad : ∀ (f : Nat) (l : List UInt8) (line : Int) (acc : List (Tk × Int)) (e k : Int), lexA f l line acc = .bad e k → e ≠ 0
  | 0, l, line, acc, e, k, h => by unfold lexA at h; cases h
  | f + 1, [], line, acc, e, k, h => by unfold lexA at h; cases h
  | f + 1, c :: r, line, acc, e, k, h => by
    unfold lexA at h
    split at h
    · exact lexA_bad f _ _ _ _ _ h
    · split at h
      · exact lexA_bad f _ _ _ _ _ h
      · split at h
        · split at h
          · cases h
          · exact lexA_bad f _ _ _ _ _ h
        · split at h
          · split at h
            · cases h
              decide
            · exact lexA_bad f _ _ _ _ _ h
          · rename_i g
            cases h
            exact g
theorem lexL_bad {l : List UInt8} {e k : Int} (h : lexL l = .bad e k) : e ≠ 0 := lexA_bad _ _ _ _ _ _ h

/-- How many bytes tokens have. -/
def bytesT (T : List (Tk × Int)) : Nat := (T.map fun x => x.1.t.length).sum
theorem own_of {c : UInt8} {r : List UInt8} (h10 : c ≠ 10) (hbl : ¬ (c = 9 ∨ c = 13 ∨ c = 32)) (hp : ¬ hasPrefix (c :: r) [45, 45] = true) (h : (readL (c :: r)).2 = 0) : Own (readL (c :: r)).1 := by
  obtain ⟨h1, h2, -⟩ := read_own (List.cons_ne_nil c r) h
  have hl := read_len h
  cases ht : (readL (c :: r)).1.t with
  | nil => rw [ht] at hl; simp at hl
  | cons d q =>
    obtain ⟨u, hu⟩ := h2
    rw [ht] at hu
    obtain rfl : d = c := by simpa using (List.cons.inj hu).1
    refine ⟨d, q, ht, h10, hbl, ?_, h1⟩
    rw [Bool.eq_false_iff]
    intro g
    refine hp ?_
    unfold hasPrefix at *
    refine List.isPrefixOf_iff_prefix.2 ((List.isPrefixOf_iff_prefix.1 g).trans ⟨u, ?_⟩)
    rw [ht, hu]
theorem lexA_own : ∀ (f : Nat) (l : List UInt8) (line : Int) (acc T : List (Tk × Int)) (B : Nat), (∀ x, x ∈ acc → Own x.1) → acc.length ≤ 4096 → bytesT acc + l.length ≤ B → lexA f l line acc = .good T → (∀ x, x ∈ T → Own x.1) ∧ T.length ≤ 4096 ∧ bytesT T ≤ B
  | 0, l, line, acc, T, B, ha, hn, hB, h => by unfold lexA at h; cases h; exact ⟨ha, hn, by omega⟩
  | f + 1, [], line, acc, T, B, ha, hn, hB, h => by unfold lexA at h; cases h; exact ⟨ha, hn, by simpa using hB⟩
  | f + 1, c :: r, line, acc, T, B, ha, hn, hB, h => by
    simp only [List.length_cons] at hB
    unfold lexA at h
    split at h
    · exact lexA_own f _ _ _ _ _ ha hn (by omega) h
    · rename_i h10
      split at h
      · exact lexA_own f _ _ _ _ _ ha hn (by omega) h
      · rename_i hbl
        split at h
        · split at h
          · cases h; exact ⟨ha, hn, by omega⟩
          · exact lexA_own f _ _ _ _ _ ha hn (by rw [List.length_drop, List.length_cons]; omega) h
        · rename_i hp
          split at h
          · rename_i hr
            split at h
            · cases h
            · have hle := read_len hr
              refine lexA_own f _ _ _ _ _ (fun x hx => ?_) (by rw [List.length_append, List.length_singleton]; omega) ?_ h
              · rcases List.mem_append.1 hx with hx | hx
                · exact ha x hx
                · rw [List.mem_singleton] at hx
                  subst hx
                  exact own_of h10 hbl hp hr
              · have e : bytesT (acc ++ [((readL (c :: r)).1, line)]) = bytesT acc + (readL (c :: r)).1.t.length := by simp [bytesT]
                rw [e, List.length_drop, List.length_cons]
                simp only [List.length_cons] at hle
                omega
          · cases h
theorem lexL_own {l : List UInt8} {T : List (Tk × Int)} (h : lexL l = .good T) : (∀ x, x ∈ T → Own x.1) ∧ T.length ≤ 4096 ∧ bytesT T ≤ l.length :=
  lexA_own _ _ _ _ _ _ (fun x hx => by cases hx) (by simp) (by simp [bytesT]) h
theorem bytes_mem : ∀ {T : List (Tk × Int)} {x : Tk × Int}, x ∈ T → x.1.t.length ≤ bytesT T
  | y :: T, x, h => by
    rcases List.mem_cons.1 h with rfl | h
    · simp [bytesT]
    · have := bytes_mem h
      simp only [bytesT, List.map_cons, List.sum_cons] at *
      omega
theorem bytes_cons (x : Tk × Int) (T : List (Tk × Int)) : bytesT (x :: T) = x.1.t.length + bytesT T := by simp [bytesT]
theorem spaced_len : ∀ (T : List (Tk × Int)), (spaced T).length = bytesT T + T.length
  | [] => rfl
  | x :: T => by
    have e : spaced (x :: T) = x.1.t ++ 32 :: spaced T := by simp [spaced]
    rw [e, List.length_append, List.length_cons, spaced_len T, bytes_cons, List.length_cons]
    omega
theorem len_bytes : ∀ (T : List (Tk × Int)), (∀ x, x ∈ T → Own x.1) → T.length ≤ bytesT T
  | [], _ => Nat.zero_le _
  | x :: T, h => by
    have h1 := len_bytes T fun y hy => h y (List.mem_cons_of_mem _ hy)
    obtain ⟨c, r, ht, _⟩ := h x (List.mem_cons_self ..)
    rw [bytes_cons, ht, List.length_cons, List.length_cons]
    omega

end Go.Proofs.YtkeeglpbhjnmdaaDoor
