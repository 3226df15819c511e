import Derived.Deep.QuietTactic
import Derived.BigQuiet
import Derived.Deep.RegionHeld3
import Derived.Test.YtbnmmbjajheedaaGreatDoorMg3
/- A token does not look behind a blank, or behind the end of a line. -/
namespace Go.Proofs.YtbnmmbjajheedaaGreatDoor
open Go.RowKit Go.Lib

/-- A byte that no token has. -/
def Gap (b : UInt8) : Prop := b = 32 ∨ b = 10

theorem pre_gap {p l r : List UInt8} {b : UInt8} (hb : b ∉ p) : hasPrefix (l ++ b :: r) p = hasPrefix l p := by
  unfold hasPrefix
  rw [Bool.eq_iff_iff, List.isPrefixOf_iff_prefix, List.isPrefixOf_iff_prefix]
  constructor
  · intro h
    by_cases g : p.length ≤ l.length
    · exact List.prefix_of_prefix_length_le h (List.prefix_append _ _) g
    · exfalso
      have hl : l.length < p.length := by omega
      obtain ⟨t, ht⟩ := h
      have h1 : (p ++ t)[l.length]? = (l ++ b :: r)[l.length]? := by rw [ht]
      rw [List.getElem?_append_left hl, List.getElem?_append_right (Nat.le_refl _), Nat.sub_self] at h1
      exact hb (List.mem_of_getElem? h1)
  · intro h
    exact h.trans (List.prefix_append _ _)
theorem find_same {α : Type} {p q : α → Bool} : ∀ (l : List α), (∀ x, x ∈ l → p x = q x) → l.find? p = l.find? q
  | [], _ => rfl
  | a :: l, h => by
    rw [List.find?_cons, List.find?_cons, h a (List.mem_cons_self ..), find_same l fun x hx => h x (List.mem_cons_of_mem _ hx)]
theorem signs_gap : ∀ x, x ∈ signsB → (32 : UInt8) ∉ x.1.data.toList ∧ (10 : UInt8) ∉ x.1.data.toList := by decide
theorem sign_gap {l r : List UInt8} {b : UInt8} (hb : Gap b) : signL (l ++ b :: r) = signL l := by
  unfold signL
  refine find_same _ fun x hx => pre_gap ?_
  rcases hb with rfl | rfl
  · exact (signs_gap x hx).1
  · exact (signs_gap x hx).2
theorem inRun_gap {b : UInt8} (hb : Gap b) : inRun b = false := by
  rcases hb with rfl | rfl <;> decide
theorem run_gap {l r : List UInt8} {b : UInt8} (hb : inRun b = false) : runL (l ++ b :: r) = runL l := by
  unfold runL
  induction l with
  | nil => rw [List.nil_append, List.takeWhile_cons, hb]; rfl
  | cons c l ih => rw [List.cons_append, List.takeWhile_cons, List.takeWhile_cons, ih]
theorem run_run (l : List UInt8) : runL (runL l) = runL l := by
  unfold runL
  induction l with
  | nil => rfl
  | cons c l ih =>
    rw [List.takeWhile_cons]
    split
    · rename_i h
      rw [List.takeWhile_cons, if_pos h, ih]
    · rfl
theorem run_mem {l : List UInt8} {x : UInt8} (h : x ∈ runL l) : inRun x = true := by
  unfold runL at h
  induction l with
  | nil => cases h
  | cons c l ih =>
    rw [List.takeWhile_cons] at h
    split at h
    · rename_i g
      rcases List.mem_cons.1 h with rfl | h
      · exact g
      · exact ih h
    · cases h
theorem run_take (l : List UInt8) : l.take (runL l).length = runL l := (List.prefix_iff_eq_take.1 (List.takeWhile_prefix _)).symm
theorem marked_minus (q : List UInt8) : markedL (35 :: 45 :: q) = 35 :: 45 :: runL q := by
  have e : trimPrefix ((35 :: 45 :: q : List UInt8).drop 1) [45] = q := by simp [trimPrefix, hasPrefix]
  unfold markedL
  rw [e]
  have e2 : (35 :: 45 :: q : List UInt8).length - q.length + (runL q).length = (runL q).length + 1 + 1 := by simp only [List.length_cons]; omega
  rw [e2, List.take_succ_cons, List.take_succ_cons, run_take]
theorem marked_plain {m : List UInt8} (h : hasPrefix m [45] = false) : markedL (35 :: m) = 35 :: runL m := by
  have e : trimPrefix ((35 :: m : List UInt8).drop 1) [45] = m := by simp [trimPrefix, h]
  unfold markedL
  rw [e]
  have e2 : (35 :: m : List UInt8).length - m.length + (runL m).length = (runL m).length + 1 := by simp only [List.length_cons]; omega
  rw [e2, List.take_succ_cons, run_take]
theorem minus_split (m : List UInt8) : (∃ q, m = 45 :: q) ∨ hasPrefix m [45] = false := by
  cases m with
  | nil => exact Or.inr (by decide)
  | cons c q =>
    by_cases h : c = 45
    · exact Or.inl ⟨q, by rw [h]⟩
    · refine Or.inr ?_
      unfold hasPrefix
      rw [Bool.eq_false_iff]
      intro g
      exact h (List.cons_prefix_cons.1 (List.isPrefixOf_iff_prefix.1 g)).1.symm
theorem marked_gap {m r : List UInt8} {b : UInt8} (hb : Gap b) : markedL (35 :: (m ++ b :: r)) = markedL (35 :: m) := by
  rcases minus_split m with ⟨q, rfl⟩ | h
  · rw [List.cons_append, marked_minus, marked_minus, run_gap (inRun_gap hb)]
  · rw [marked_plain h, marked_plain, run_gap (inRun_gap hb)]
    rw [pre_gap]
    · exact h
    · rcases hb with rfl | rfl <;> decide
theorem has35 {l : List UInt8} (h : hasPrefix l [35] = true) : ∃ m, l = 35 :: m := by
  unfold hasPrefix at h
  obtain ⟨t, rfl⟩ := List.isPrefixOf_iff_prefix.1 h
  exact ⟨t, rfl⟩

/-- WHAT STANDS BEHIND A BLANK, OR BEHIND THE END OF A LINE, PLAYS NO PART. -/
theorem read_gap {l r : List UInt8} {b : UInt8} (hl : l ≠ []) (hb : Gap b) : readL (l ++ b :: r) = readL l := by
  unfold readL
  rw [sign_gap hb]
  cases signL l with
  | some x => rfl
  | none =>
    simp only
    have h35 : hasPrefix (l ++ b :: r) [35] = hasPrefix l [35] := pre_gap (by rcases hb with rfl | rfl <;> decide)
    rw [h35]
    by_cases g : hasPrefix l [35] = true
    · rw [if_pos g, if_pos g]
      obtain ⟨m, rfl⟩ := has35 g
      rw [List.cons_append, marked_gap hb]
    · rw [if_neg g, if_neg g]
      have hk : kindOf (l ++ b :: r) = kindOf l := by
        unfold kindOf
        rw [run_gap (inRun_gap hb)]
        cases l with
        | nil => exact absurd rfl hl
        | cons c l => rfl
      unfold readR
      rw [hk, run_gap (inRun_gap hb)]

theorem signs_own : ∀ x, x ∈ signsB → signL x.1.data.toList = some x := by decide
theorem sign_pre {t l : List UInt8} (ht : t <+: l) (h : signL l = none) : signL t = none := by
  unfold signL at *
  rw [List.find?_eq_none] at *
  intro x hx g
  refine h x hx ?_
  unfold hasPrefix at *
  exact List.isPrefixOf_iff_prefix.2 ((List.isPrefixOf_iff_prefix.1 g).trans ht)
theorem marked_pre (m : List UInt8) : markedL (35 :: m) <+: 35 :: m ∧ markedL (markedL (35 :: m)) = markedL (35 :: m) := by
  rcases minus_split m with ⟨q, rfl⟩ | h
  · rw [marked_minus, marked_minus, run_run]
    exact ⟨List.cons_prefix_cons.2 ⟨rfl, List.cons_prefix_cons.2 ⟨rfl, List.takeWhile_prefix _⟩⟩, rfl⟩
  · rw [marked_plain h, marked_plain, run_run]
    · exact ⟨List.cons_prefix_cons.2 ⟨rfl, List.takeWhile_prefix _⟩, rfl⟩
    · rcases minus_split (runL m) with ⟨q, e⟩ | g
      · exact absurd (run_mem (l := m) (x := 45) (by rw [e]; exact List.mem_cons_self ..)) (by decide)
      · exact g
theorem marked_gaps {m : List UInt8} {x : UInt8} (h : x ∈ markedL (35 :: m)) : ¬ Gap x := by
  have hr : ∀ q, x ∈ runL q → ¬ Gap x := fun q hx g => by have := run_mem hx; rw [inRun_gap g] at this; cases this
  have h35 : x = 35 → ¬ Gap x := fun e g => by subst e; rcases g with g | g <;> revert g <;> decide
  have h45 : x = 45 → ¬ Gap x := fun e g => by subst e; rcases g with g | g <;> revert g <;> decide
  rcases minus_split m with ⟨q, rfl⟩ | g
  · rw [marked_minus] at h
    rcases List.mem_cons.1 h with h | h
    · exact h35 h
    · rcases List.mem_cons.1 h with h | h
      · exact h45 h
      · exact hr _ h
  · rw [marked_plain g] at h
    rcases List.mem_cons.1 h with h | h
    · exact h35 h
    · exact hr _ h

/-- A TOKEN'S TEXT, READ AGAIN, IS THAT TOKEN: it stands at the beginning, and has no gap. -/
theorem read_own {l : List UInt8} (hl : l ≠ []) (h : (readL l).2 = 0) : readL (readL l).1.t = ((readL l).1, 0) ∧ (readL l).1.t <+: l ∧ ∀ x, x ∈ (readL l).1.t → ¬ Gap x := by
  cases hs : signL l with
  | some x =>
    have e : readL l = (⟨x.2, x.1.data.toList, false, 0⟩, 0) := by unfold readL; rw [hs]
    have hx : x ∈ signsB := by unfold signL at hs; exact List.mem_of_find?_eq_some hs
    have hp := by unfold signL at hs; exact List.find?_some hs
    rw [e]
    refine ⟨?_, ?_, ?_⟩
    · unfold readL
      simp only
      rw [signs_own x hx]
    · unfold hasPrefix at hp
      exact List.isPrefixOf_iff_prefix.1 hp
    · intro b hb g
      rcases g with rfl | rfl
      · exact (signs_gap x hx).1 hb
      · exact (signs_gap x hx).2 hb
  | none =>
    by_cases g : hasPrefix l [35] = true
    · have e : readL l = numT (markedL l) := by unfold readL; rw [hs]; exact if_pos g
      rw [e] at h ⊢
      rw [numT_ok h]
      obtain ⟨m, rfl⟩ := has35 g
      obtain ⟨hp, hm⟩ := marked_pre m
      refine ⟨?_, hp, fun x hx => marked_gaps hx⟩
      have h35 : hasPrefix (markedL (35 :: m)) [35] = true := by
        rcases minus_split m with ⟨q, rfl⟩ | gm
        · rw [marked_minus]; rfl
        · rw [marked_plain gm]; rfl
      have e2 : readL (markedL (35 :: m)) = numT (markedL (markedL (35 :: m))) := by
        unfold readL
        rw [sign_pre hp hs]
        exact if_pos h35
      rw [e2, hm, ← h]
    · have e : readL l = readR l := by unfold readL; rw [hs]; exact if_neg g
      rw [e] at h ⊢
      have hne : kindOf l ≠ 0 := by
        intro k
        unfold readR at h
        rw [if_pos k] at h
        cases h
      have hrn : runL l ≠ [] := by
        intro k
        cases l with
        | nil => exact hl rfl
        | cons c r => exact hne (kindOf_nil k)
      have hkk : kindOf (runL l) = kindOf l := by
        unfold kindOf
        rw [run_run]
        have : (runL l).take 1 = l.take 1 := by
          cases l with
          | nil => exact absurd rfl hl
          | cons c r =>
            unfold runL at hrn ⊢
            rw [List.takeWhile_cons] at hrn ⊢
            split
            · rfl
            · rename_i k
              rw [if_neg k] at hrn
              exact absurd rfl hrn
        rw [this]
      have ht : (readR l).1.t = runL l := by
        unfold readR at h ⊢
        rw [if_neg hne] at h ⊢
        split at h
        · rename_i g3
          rw [if_pos g3]
          exact numT_ok h
        · rename_i g3
          rw [if_neg g3]
          split at h
          · cases h
          · rename_i g16
            rw [if_neg g16]
      rw [ht]
      refine ⟨?_, List.takeWhile_prefix _, fun x hx gx => by have := run_mem hx; rw [inRun_gap gx] at this; cases this⟩
      have g2 : ¬ hasPrefix (runL l) [35] = true := by
        intro k
        obtain ⟨m, hm⟩ := has35 k
        exact absurd (run_mem (l := l) (x := 35) (by rw [hm]; exact List.mem_cons_self ..)) (by decide)
      have e2 : readL (runL l) = readR (runL l) := by
        unfold readL
        rw [sign_pre (show runL l <+: l from List.takeWhile_prefix _) hs]
        exact if_neg g2
      have e3 : readR (runL l) = readR l := by
        unfold readR
        rw [hkk, run_run]
      rw [e2, e3, ← h]

/-- A token that its own text tells. -/
def Own (y : Tk) : Prop := ∃ c r, y.t = c :: r ∧ c ≠ 10 ∧ ¬ (c = 9 ∨ c = 13 ∨ c = 32) ∧ hasPrefix y.t [45, 45] = false ∧ readL y.t = (y, 0)
theorem fuel : ∀ (f g : Nat) (l : List UInt8) (line : Int) (acc : List (Tk × Int)), l.length < f → l.length < g → lexA f l line acc = lexA g l line acc
  | 0, _, l, _, _, hf, _ => by omega
  | _, 0, l, _, _, _, hg => by omega
  | f + 1, g + 1, [], _, _, _, _ => by unfold lexA; rfl
  | f + 1, g + 1, c :: r, line, acc, hf, hg => by
    simp only [List.length_cons] at hf hg
    unfold lexA
    split
    · exact fuel f g _ _ _ (by omega) (by omega)
    · rename_i h10
      split
      · exact fuel f g _ _ _ (by omega) (by omega)
      · split
        · have hip := index_pos (r := r) h10
          split
          · rfl
          · exact fuel f g _ _ _ (by rw [List.length_drop, List.length_cons]; omega) (by rw [List.length_drop, List.length_cons]; omega)
        · split
          · rename_i hr
            have hle := read_len hr
            split
            · rfl
            · exact fuel f g _ _ _ (by rw [List.length_drop, List.length_cons]; omega) (by rw [List.length_drop, List.length_cons]; omega)
          · rfl
theorem take_own {y : Tk} (h : Own y) (rest : List UInt8) {b : UInt8} (hb : Gap b) (f : Nat) (line : Int) (acc : List (Tk × Int)) (ha : acc.length < 4096) :
    lexA (f + 1) (y.t ++ b :: rest) line acc = lexA f (b :: rest) line (acc ++ [(y, line)]) := by
  obtain ⟨c, r, ht, h10, hbl, hp, hr⟩ := h
  have e1 : readL (y.t ++ b :: rest) = (y, 0) := (read_gap (by rw [ht]; simp) hb).trans hr
  have e2 : hasPrefix (y.t ++ b :: rest) [45, 45] = false := (pre_gap (by rcases hb with rfl | rfl <;> decide)).trans hp
  have e3 : (y.t ++ b :: rest).drop y.t.length = b :: rest := by simp
  obtain ⟨M, hM⟩ : ∃ M, y.t ++ b :: rest = c :: M := ⟨r ++ b :: rest, by rw [ht]; rfl⟩
  rw [hM] at e1 e2 e3 ⊢
  conv => lhs; unfold lexA
  rw [if_neg h10, if_neg hbl, e2, if_neg (by decide), e1]
  simp only [if_true]
  rw [if_neg (by omega), e3]
theorem last_own {y : Tk} (h : Own y) (f : Nat) (line : Int) (acc : List (Tk × Int)) (ha : acc.length < 4096) :
    lexA (f + 1) y.t line acc = .good (acc ++ [(y, line)]) := by
  obtain ⟨c, r, ht, h10, hbl, hp, hr⟩ := h
  rw [ht] at hp hr ⊢
  unfold lexA
  rw [if_neg h10, if_neg hbl, hp, if_neg (by decide), hr]
  simp only [if_true]
  rw [if_neg (by omega), ht, List.drop_length]
  cases f <;> (unfold lexA; rfl)
theorem skip_32 (f : Nat) (rest : List UInt8) (line : Int) (acc : List (Tk × Int)) : lexA (f + 1) (32 :: rest) line acc = lexA f rest line acc := by
  conv => lhs; unfold lexA
  rw [if_neg (by decide), if_pos (by decide)]

/-- Tokens' texts, a blank behind each. -/
def spaced (T : List (Tk × Int)) : List UInt8 := T.flatMap fun x => x.1.t ++ [32]
theorem spaced_snoc (T : List (Tk × Int)) (x : Tk × Int) : spaced (T ++ [x]) = spaced T ++ x.1.t ++ [32] := by simp [spaced]
theorem lexA_spaced : ∀ (T acc : List (Tk × Int)) (f : Nat), (spaced T).length < f → (∀ x, x ∈ T → Own x.1) → acc.length + T.length ≤ 4096 → lexA f (spaced T) 1 acc = .good (acc ++ T.map fun x => (x.1, 1))
  | [], acc, f, hf, _, _ => by
    obtain ⟨g, rfl⟩ : ∃ g, f = g + 1 := ⟨f - 1, by omega⟩
    show lexA (g + 1) [] 1 acc = _
    unfold lexA
    simp
  | x :: T, acc, f, hf, ho, hl => by
    have e : spaced (x :: T) = x.1.t ++ 32 :: spaced T := by simp [spaced]
    have hx := ho x (List.mem_cons_self ..)
    rw [e, List.length_append, List.length_cons] at hf
    rw [e]
    simp only [List.length_cons] at hl
    obtain ⟨g, rfl⟩ : ∃ g, f = g + 1 + 1 := ⟨f - 2, by omega⟩
    rw [take_own hx _ (Or.inl rfl) _ _ _ (by omega), skip_32]
    have hpos : 1 ≤ x.1.t.length := by
      obtain ⟨c, r, ht, _⟩ := hx
      rw [ht]
      simp
    rw [lexA_spaced T _ g (by omega) (fun y hy => ho y (List.mem_cons_of_mem _ hy)) (by rw [List.length_append, List.length_singleton]; omega)]
    simp
theorem lexL_spaced {T : List (Tk × Int)} (ho : ∀ x, x ∈ T → Own x.1) (hl : T.length ≤ 4096) : lexL (spaced T) = .good (T.map fun x => (x.1, 1)) := by
  unfold lexL
  rw [lexA_spaced T [] _ (by omega) ho (by simpa using hl)]
  simp

theorem lexA_bad : ∀ (f : Nat) (l : List UInt8) (line : Int) (acc : List (Tk × Int)) (e k : Int), lexA f l line acc = .bad e k → e ≠ 0
  | 0, l, line, acc, e, k, h => by unfold lexA at h; cases h
  | f + 1, [], line, acc, e, k, h => by unfold lexA at h; cases h
  | f + 1, c :: r, line, acc, e, k, h => by
    unfold lexA at h
    split at h
    · exact lexA_bad f _ _ _ _ _ h
    · split at h
      · exact lexA_bad f _ _ _ _ _ h
      · split at h
        · split at h
          · cases h
          · exact lexA_bad f _ _ _ _ _ h
        · split at h
          · split at h
            · cases h
              decide
            · exact lexA_bad f _ _ _ _ _ h
          · rename_i g
            cases h
            exact g
theorem lexL_bad {l : List UInt8} {e k : Int} (h : lexL l = .bad e k) : e ≠ 0 := lexA_bad _ _ _ _ _ _ h

/-- How many bytes tokens have. -/
def bytesT (T : List (Tk × Int)) : Nat := (T.map fun x => x.1.t.length).sum
theorem own_of {c : UInt8} {r : List UInt8} (h10 : c ≠ 10) (hbl : ¬ (c = 9 ∨ c = 13 ∨ c = 32)) (hp : ¬ hasPrefix (c :: r) [45, 45] = true) (h : (readL (c :: r)).2 = 0) : Own (readL (c :: r)).1 := by
  obtain ⟨h1, h2, -⟩ := read_own (List.cons_ne_nil c r) h
  have hl := read_len h
  cases ht : (readL (c :: r)).1.t with
  | nil => rw [ht] at hl; simp at hl
  | cons d q =>
    obtain ⟨u, hu⟩ := h2
    rw [ht] at hu
    obtain rfl : d = c := by simpa using (List.cons.inj hu).1
    refine ⟨d, q, ht, h10, hbl, ?_, h1⟩
    rw [Bool.eq_false_iff]
    intro g
    refine hp ?_
    unfold hasPrefix at *
    refine List.isPrefixOf_iff_prefix.2 ((List.isPrefixOf_iff_prefix.1 g).trans ⟨u, ?_⟩)
    rw [ht, hu]
theorem lexA_own : ∀ (f : Nat) (l : List UInt8) (line : Int) (acc T : List (Tk × Int)) (B : Nat), (∀ x, x ∈ acc → Own x.1) → acc.length ≤ 4096 → bytesT acc + l.length ≤ B → lexA f l line acc = .good T → (∀ x, x ∈ T → Own x.1) ∧ T.length ≤ 4096 ∧ bytesT T ≤ B
  | 0, l, line, acc, T, B, ha, hn, hB, h => by unfold lexA at h; cases h; exact ⟨ha, hn, by omega⟩
  | f + 1, [], line, acc, T, B, ha, hn, hB, h => by unfold lexA at h; cases h; exact ⟨ha, hn, by simpa using hB⟩
  | f + 1, c :: r, line, acc, T, B, ha, hn, hB, h => by
    simp only [List.length_cons] at hB
    unfold lexA at h
    split at h
    · exact lexA_own f _ _ _ _ _ ha hn (by omega) h
    · rename_i h10
      split at h
      · exact lexA_own f _ _ _ _ _ ha hn (by omega) h
      · rename_i hbl
        split at h
        · split at h
          · cases h; exact ⟨ha, hn, by omega⟩
          · exact lexA_own f _ _ _ _ _ ha hn (by rw [List.length_drop, List.length_cons]; omega) h
        · rename_i hp
          split at h
          · rename_i hr
            split at h
            · cases h
            · have hle := read_len hr
              refine lexA_own f _ _ _ _ _ (fun x hx => ?_) (by rw [List.length_append, List.length_singleton]; omega) ?_ h
              · rcases List.mem_append.1 hx with hx | hx
                · exact ha x hx
                · rw [List.mem_singleton] at hx
                  subst hx
                  exact own_of h10 hbl hp hr
              · have e : bytesT (acc ++ [((readL (c :: r)).1, line)]) = bytesT acc + (readL (c :: r)).1.t.length := by simp [bytesT]
                rw [e, List.length_drop, List.length_cons]
                simp only [List.length_cons] at hle
                omega
          · cases h
theorem lexL_own {l : List UInt8} {T : List (Tk × Int)} (h : lexL l = .good T) : (∀ x, x ∈ T → Own x.1) ∧ T.length ≤ 4096 ∧ bytesT T ≤ l.length :=
  lexA_own _ _ _ _ _ _ (fun x hx => by cases hx) (by simp) (by simp [bytesT]) h
theorem bytes_mem : ∀ {T : List (Tk × Int)} {x : Tk × Int}, x ∈ T → x.1.t.length ≤ bytesT T
  | y :: T, x, h => by
    rcases List.mem_cons.1 h with rfl | h
    · simp [bytesT]
    · have := bytes_mem h
      simp only [bytesT, List.map_cons, List.sum_cons] at *
      omega
theorem bytes_cons (x : Tk × Int) (T : List (Tk × Int)) : bytesT (x :: T) = x.1.t.length + bytesT T := by simp [bytesT]
theorem spaced_len : ∀ (T : List (Tk × Int)), (spaced T).length = bytesT T + T.length
  | [] => rfl
  | x :: T => by
    have e : spaced (x :: T) = x.1.t ++ 32 :: spaced T := by simp [spaced]
    rw [e, List.length_append, List.length_cons, spaced_len T, bytes_cons, List.length_cons]
    omega
theorem len_bytes : ∀ (T : List (Tk × Int)), (∀ x, x ∈ T → Own x.1) → T.length ≤ bytesT T
  | [], _ => Nat.zero_le _
  | x :: T, h => by
    have h1 := len_bytes T fun y hy => h y (List.mem_cons_of_mem _ hy)
    obtain ⟨c, r, ht, _⟩ := h x (List.mem_cons_self ..)
    rw [bytes_cons, ht, List.length_cons, List.length_cons]
    omega

end Go.Proofs.YtbnmmbjajheedaaGreatDoor

/- The parser, in lists of tokens. -/
namespace Go.Proofs.YtbnmmbjajheedaaGreatDoor
open Go.RowKit Go.Lib

/-- A name; a token on its line; a shape. -/
abbrev Nm := List UInt8
abbrev Tok := Tk × Int
abbrev Sh := Int × Nm
def shapeT (y : Tk) : Sh := if y.k = 5 ∨ y.k = 6 then (y.k, y.t) else (y.k, [])
def shapeL : List Tok → Sh
  | [] => (0, [])
  | x :: _ => shapeT x.1

def sName : Sh := (1, [])
def sCon : Sh := (2, [])
def sNum : Sh := (3, [])
def sSign : Sh := (4, [])
def sBack : Sh := (7, [])
def sData : Sh := (5, [100, 97, 116, 97])
def sLet : Sh := (5, [108, 101, 116])
def sIn : Sh := (5, [105, 110])
def sCase : Sh := (5, [99, 97, 115, 101])
def sOf : Sh := (5, [111, 102])
def sOpen : Sh := (6, [40])
def sShut : Sh := (6, [41])
def sCurl : Sh := (6, [123])
def sLruc : Sh := (6, [125])
def sSemi : Sh := (6, [59])
def sEq : Sh := (6, [61])
def sArrow : Sh := (6, [45, 62])
def sLam : Sh := (6, [92])

/-- An expression: its kind, its name, its number, its parameters, its kids, its binds (name, parameters, body), its alternatives (kind, name, number, names, body). -/
inductive Ex where
  | mk (kind : Int) (name : Nm) (f : Bool) (x : Int) (params : List Nm) (kids : List Ex) (binds : List (Nm × List Nm × Ex)) (alts : List (Int × Nm × Bool × Int × List Nm × Ex))
abbrev Bnd := Nm × List Nm × Ex
abbrev Alt := Int × Nm × Bool × Int × List Nm × Ex
/-- A module: its constructors, and its binds. -/
abbrev Md := List (Nm × Int) × List Bnd
def Ex.leaf (kind : Int) (name : Nm) : Ex := .mk kind name false 0 [] [] [] []
def Ex.num (f : Bool) (x : Int) : Ex := .mk 3 [] f x [] [] [] []
def Ex.withKids : Ex → List Ex → Ex
  | .mk k n f x p _ b a, ks => .mk k n f x p ks b a

/-- What reading comes to: something, the last token's line, and what is left; or a fault, and its line. -/
inductive Out (α : Type) where
  | ok (a : α) (last : Int) (rest : List Tok)
  | bad (e line : Int)
def Out.bind {α β : Type} (o : Out α) (f : α → Int → List Tok → Out β) : Out β :=
  match o with
  | .ok a l r => f a l r
  | .bad e l => .bad e l
abbrev Par (α : Type) := Int → List Tok → Out α
def refuseO {α : Type} (e : Int) : Par α := fun last rest =>
  match rest with
  | [] => .bad 17 last
  | x :: _ => .bad e x.2
def takeO : Par Tok := fun last rest =>
  match rest with
  | [] => .bad 17 last
  | x :: r => .ok x x.2 r
def wantO (s : Sh) : Par Tok := fun last rest => if shapeL rest = s then takeO last rest else refuseO 3 last rest
/-- Names, as many as stand there. -/
def namesO : Int → List Tok → List Nm → List Nm × Int × List Tok
  | last, [], acc => (acc, last, [])
  | last, x :: r, acc => if shapeT x.1 = sName then namesO x.2 r (acc ++ [x.1.t]) else (acc, last, x :: r)
def bindO (ex : Par Ex) : Par Bnd := fun last rest =>
  (wantO sName last rest).bind fun t l r =>
    (wantO sEq (namesO l r []).2.1 (namesO l r []).2.2).bind fun _ l2 r2 =>
      (ex l2 r2).bind fun b l3 r3 => .ok (t.1.t, (namesO l r []).1, b) l3 r3
/-- As many as stand behind a semicolon each. -/
def moreO {α : Type} (item : Par α) : Nat → List α → Par (List α)
  | 0, acc => fun last rest => .ok acc last rest
  | n + 1, acc => fun last rest =>
    if shapeL rest = sSemi then
      (takeO last rest).bind fun _ l r => (item l r).bind fun a l2 r2 => moreO item n (acc ++ [a]) l2 r2
    else .ok acc last rest
def someO {α : Type} (item : Par α) : Par (List α) := fun last rest =>
  (item last rest).bind fun a l r => moreO item (r.length + 1) [a] l r
def atomShapes : List Sh := [sName, sCon, sNum, sBack, sOpen]
def exprShapes : List Sh := [sLet, sCase, sLam, sName, sCon, sNum, sBack, sOpen]
def innerO (ex : Par Ex) : Par Ex := fun last rest =>
  (wantO sOpen last rest).bind fun _ l r => (ex l r).bind fun x l2 r2 => (wantO sShut l2 r2).bind fun _ l3 r3 => .ok x l3 r3
def atomO (ex : Par Ex) : Par Ex := fun last rest =>
  if shapeL rest = sName then (takeO last rest).bind fun t l r => .ok (.leaf 1 t.1.t) l r
  else if shapeL rest = sCon then (takeO last rest).bind fun t l r => .ok (.leaf 2 t.1.t) l r
  else if shapeL rest = sNum then (takeO last rest).bind fun t l r => .ok (.num t.1.f t.1.x) l r
  else if shapeL rest = sBack then (takeO last rest).bind fun t l r => .ok (.leaf 5 t.1.t) l r
  else if shapeL rest = sOpen then innerO ex last rest
  else refuseO 3 last rest
def atomsO (ex : Par Ex) : Nat → List Ex → Par (List Ex)
  | 0, acc => fun last rest => .ok acc last rest
  | n + 1, acc => fun last rest =>
    if shapeL rest ∈ atomShapes then (atomO ex last rest).bind fun a l r => atomsO ex n (acc ++ [a]) l r
    else .ok acc last rest
def rowE (kids : Bool) (first : Ex) (others : List Ex) : Ex :=
  if kids = true then first.withKids others else if others = [] then first else .mk 4 [] false 0 [] (first :: others) [] []
def rowO (ex : Par Ex) : Par Ex := fun last rest =>
  (atomO ex last rest).bind fun a l r => (atomsO ex (r.length + 1) [] l r).bind fun xs l2 r2 => .ok (rowE (decide (shapeL rest = sCon ∨ shapeL rest = sBack)) a xs) l2 r2
def rowsO (ex : Par Ex) : Par Ex := fun last rest =>
  (rowO ex last rest).bind fun a l r =>
    if shapeL r = sSign then
      (takeO l r).bind fun t l2 r2 => (rowO ex l2 r2).bind fun b l3 r3 => .ok (.mk 5 t.1.t false 0 [] [a, b] [] []) l3 r3
    else .ok a l r
def letO (ex : Par Ex) : Par Ex := fun last rest =>
  (wantO sLet last rest).bind fun _ l r => (someO (bindO ex) l r).bind fun bs l2 r2 => (wantO sIn l2 r2).bind fun _ l3 r3 =>
    (ex l3 r3).bind fun x l4 r4 => .ok (.mk 6 [] false 0 [] [x] bs []) l4 r4
def altO (ex : Par Ex) : Par Alt := fun last rest =>
  if shapeL rest = sCon then
    (takeO last rest).bind fun t l r =>
      (wantO sArrow (namesO l r []).2.1 (namesO l r []).2.2).bind fun _ l2 r2 => (ex l2 r2).bind fun x l3 r3 => .ok (0, t.1.t, false, 0, (namesO l r []).1, x) l3 r3
  else if shapeL rest = sNum then
    (takeO last rest).bind fun t l r => (wantO sArrow l r).bind fun _ l2 r2 => (ex l2 r2).bind fun x l3 r3 => .ok (1, [], t.1.f, t.1.x, [], x) l3 r3
  else
    (wantO sName last rest).bind fun t l r => (wantO sArrow l r).bind fun _ l2 r2 => (ex l2 r2).bind fun x l3 r3 => .ok (2, t.1.t, false, 0, [], x) l3 r3
def caseO (ex : Par Ex) : Par Ex := fun last rest =>
  (wantO sCase last rest).bind fun _ l r => (ex l r).bind fun x l2 r2 => (wantO sOf l2 r2).bind fun _ l3 r3 => (wantO sCurl l3 r3).bind fun _ l4 r4 =>
    if shapeL r4 = sLruc then (wantO sLruc l4 r4).bind fun _ l5 r5 => .ok (.mk 7 [] false 0 [] [x] [] []) l5 r5
    else (someO (altO ex) l4 r4).bind fun xs l5 r5 => (wantO sLruc l5 r5).bind fun _ l6 r6 => .ok (.mk 7 [] false 0 [] [x] [] xs) l6 r6
def lamO (ex : Par Ex) : Par Ex := fun last rest =>
  (wantO sLam last rest).bind fun _ l r =>
    if shapeL r = sName then
      (wantO sArrow (namesO l r []).2.1 (namesO l r []).2.2).bind fun _ l2 r2 => (ex l2 r2).bind fun x l3 r3 => .ok (.mk 8 [] false 0 (namesO l r []).1 [x] [] []) l3 r3
    else refuseO 3 l r
/-- An expression, so many deep; the first number is fuel: more than there are tokens. -/
def exprO : Nat → Nat → Par Ex
  | 0, _ => fun _ _ => .bad 0 0
  | n + 1, d => fun last rest =>
    if shapeL rest ∈ exprShapes then
      (if d = 200 then refuseO 12 last rest
       else if shapeL rest = sLet then letO (exprO n (d + 1)) last rest
       else if shapeL rest = sCase then caseO (exprO n (d + 1)) last rest
       else if shapeL rest = sLam then lamO (exprO n (d + 1)) last rest
       else rowsO (exprO n (d + 1)) last rest)
    else refuseO 3 last rest
/-- Constructors, as many as stand there. -/
def declsO : Nat → List (Nm × Int) → Par (List (Nm × Int))
  | 0, acc => fun last rest => .ok acc last rest
  | n + 1, acc => fun last rest =>
    if shapeL rest = sCon then
      (takeO last rest).bind fun t l r =>
        if shapeL r = sNum then
          (takeO l r).bind fun u l2 r2 => if u.1.f = true ∨ 24 < u.1.x then refuseO 1 l r else declsO n (acc ++ [(t.1.t, u.1.x)]) l2 r2
        else refuseO 3 l r
    else .ok acc last rest
def moduleO : Nat → List (Nm × Int) → List Bnd → Par Md
  | 0, cs, bs => fun last rest => .ok (cs, bs) last rest
  | n + 1, cs, bs => fun last rest =>
    if rest = [] then .ok (cs, bs) last rest
    else if shapeL rest = sData then
      (takeO last rest).bind fun _ l r => (declsO (r.length + 1) [] l r).bind fun ds l2 r2 => (wantO sSemi l2 r2).bind fun _ l3 r3 => moduleO n (cs ++ ds) bs l3 r3
    else
      (bindO (exprO (rest.length + 201) 0) last rest).bind fun b l2 r2 => (wantO sSemi l2 r2).bind fun _ l3 r3 => moduleO n cs (bs ++ [b]) l3 r3
def parseO (T : List Tok) : Out Md := moduleO (T.length + 1) [] [] 1 T

/-! ### What is left gets less -/

/-- What is left is no more than there was. -/
def Less {α : Type} (m : Nat) : Out α → Prop
  | .ok _ _ r => r.length ≤ m
  | .bad _ _ => True
def Shrinks {α : Type} (p : Par α) : Prop := ∀ last rest, Less rest.length (p last rest)
theorem Less.bind {α β : Type} {m : Nat} {o : Out α} {f : α → Int → List Tok → Out β} (h : Less m o) (hf : ∀ a l r, r.length ≤ m → Less m (f a l r)) : Less m (o.bind f) := by
  cases o with
  | ok a l r => exact hf a l r h
  | bad e l => trivial
theorem Less.mono {α : Type} {m n : Nat} {o : Out α} (h : Less m o) (hm : m ≤ n) : Less n o := by
  cases o with
  | ok a l r => exact Nat.le_trans h hm
  | bad e l => trivial

end Go.Proofs.YtbnmmbjajheedaaGreatDoor

/- Shapes as they lie; a token's shape. -/
namespace Go.Proofs.YtbnmmbjajheedaaGreatDoor
open Go.RowKit Go.Lib

/-- A name as a text. -/
def tx (l : Nm) : ByteArray := ⟨l.toArray⟩
theorem tx_list (l : Nm) : (tx l).data.toList = l := back_list l
theorem tx_inj {a b : Nm} (h : tx a = tx b) : a = b := by
  have := congrArg (fun s : ByteArray => s.data.toList) h
  simpa [tx_list] using this
theorem tx_toList (l : Nm) : (tx l).toList = l := by rw [ByteArray.toList_eq]; exact tx_list l
def vSh (s : Sh) : Value := .agg #[.int .i64 s.1, .string (tx s.2)]
def vTok (y : Tok) : Value := .agg #[.int .i64 y.1.k, .string (tx y.1.t), .bool y.1.f, .int .u64 y.1.x, .int .i64 y.2]
def ShAt (w : World) (g : Nat) (s : Sh) : Prop := w.cell? ⟨g, 0, none⟩ = some (.int .i64 s.1) ∧ w.cell? ⟨g, 1, none⟩ = some (.string (tx s.2))
theorem ShAt.later {w w' : World} {g : Nat} {s : Sh} (h : ShAt w g s) (hb : Below w.heap.size w w') : ShAt w' g s := ⟨later' hb h.1, later' hb h.2⟩

theorem eq_shape (d : Nat) (a b : Sh) (w : World) : (Op.equalIn (d + 3) 105 (.agg #[.int .i64 a.1, .string (tx a.2)]) (.agg #[.int .i64 b.1, .string (tx b.2)])).run Tryz.prog w = .ok (decide (a = b)) w := by
  have hf : Tryz.prog.underlying 105 = some (.struct (Tryz.prog.fieldsOf 105)) := by kernel_rfl
  have q1 : ∀ (x y : Int) (w : World), (Op.equalIn (d + 2) 3 (.int .i64 x) (.int .i64 y)).run Tryz.prog w = .ok (x == y) w := fun x y w => by rw [run_equalIn_int w (d + 1) 3 .i64 .i64 x y Tryz.underlying3]
  have q2 : ∀ (x y : Nm) (w : World), (Op.equalIn (d + 2) 9 (.string (tx x)) (.string (tx y))).run Tryz.prog w = .ok (x == y) w := fun x y w => by rw [run_equalIn_string w (d + 1) 9 (tx x) (tx y) Tryz.underlying9, tx_toList, tx_toList]
  rw [run_equalIn_struct w (d + 2) 105 _ _ hf (by kernel_rfl)]
  generalize hE : Op.equalIn (d + 2) 3 = E at *
  generalize hF : Op.equalIn (d + 2) 9 = F at *
  have p0 : ∀ (x : Int) (s : ByteArray) (w : World), (part 3 #[.int .i64 x, .string s] 0).run Tryz.prog w = .ok (.int .i64 x) w := by intro x s w; simp [part, Tryz.isAgg3, go_sem]
  have p1 : ∀ (x : Int) (s : ByteArray) (w : World), (part 9 #[.int .i64 x, .string s] 1).run Tryz.prog w = .ok (.string s) w := by intro x s w; simp [part, Tryz.isAgg9, go_sem]
  have hl : (Tryz.prog.fieldsOf 105).toList = [⟨"kind", 3, 0, false, "", "treadwheel/parse", 0⟩, ⟨"text", 9, 1, false, "", "treadwheel/parse", 8⟩] := by kernel_rfl
  rw [hl]
  obtain ⟨a1, a2⟩ := a
  obtain ⟨b1, b2⟩ := b
  by_cases h1 : a1 = b1
  · subst h1
    by_cases h2 : a2 = b2
    · subst h2
      simp [Op.eqFields, hE, hF, p0, p1, q1, q2]
    · have h3 : (a2 == b2) = false := by rw [beq_eq_false_iff_ne]; exact h2
      simp [Op.eqFields, hE, hF, p0, p1, q1, q2, h2, h3]
  · have h3 : (a1 == b1) = false := by rw [beq_eq_false_iff_ne]; exact h1
    simp [Op.eqFields, hE, p0, q1, h1, h3]
theorem shape_eql (a b : Sh) (w : World) : (binOp .eql 105 (.agg #[.int .i64 a.1, .string (tx a.2)]) (.agg #[.int .i64 b.1, .string (tx b.2)])).run Tryz.prog w = .ok (.bool (decide (a = b))) w := by
  have he : (Op.equal 105 (.agg #[.int .i64 a.1, .string (tx a.2)]) (.agg #[.int .i64 b.1, .string (tx b.2)])).run Tryz.prog w = .ok (decide (a = b)) w := eq_shape 9997 a b w
  generalize hq : Op.equal = E at he
  simp [binOp, hq, he]

def ShSaid (s : Sh) (w : World) (e : Ending) (w' : World) : Prop := e = .returned (.agg #[.int .i64 s.1, .string (tx s.2)]) ∧ Below w.heap.size w w'
set_option maxHeartbeats 4000000 in
set_option maxRecDepth 100000 in
theorem shapeOf_any (y : Tok) (w : World) : Calls Tryz.prog 123 #[.agg #[.int .i64 y.1.k, .string (tx y.1.t), .bool y.1.f, .int .u64 y.1.x, .int .i64 y.2]] w (ShSaid (shapeT y.1) w) := by
  obtain ⟨⟨k, t, f, x⟩, ln⟩ := y
  simp only
  have hs : shapeT (⟨k, t, f, x⟩ : Tk) = if k = 5 ∨ k = 6 then (k, t) else (k, []) := rfl
  by_cases h5 : k = 5
  · have f5 : (k == 5) = true := by simpa using h5
    rw [if_pos (Or.inl h5)] at hs
    rw [hs]
    clear hs h5
    go_enter Tryz.func123, Tryz.ntmps123
    go_wp2_with fail
    refine bodyPost_ret (v := .agg #[.int .i64 k, .string (tx t)]) (by simp [results, Tryz.results123, go_sem]) rfl ?_
    exact ⟨rfl, ((Below.refl _ _).alloc (Nat.le_refl _) _).alloc (by simp) _⟩
  have f5 : (k == 5) = false := by simpa using h5
  by_cases h6 : k = 6
  · have f6 : (k == 6) = true := by simpa using h6
    rw [if_pos (Or.inr h6)] at hs
    rw [hs]
    clear hs h5 h6
    go_enter Tryz.func123, Tryz.ntmps123
    go_wp2_with fail
    refine bodyPost_ret (v := .agg #[.int .i64 k, .string (tx t)]) (by simp [results, Tryz.results123, go_sem]) rfl ?_
    exact ⟨rfl, ((Below.refl _ _).alloc (Nat.le_refl _) _).alloc (by simp) _⟩
  · have f6 : (k == 6) = false := by simpa using h6
    rw [if_neg (by rintro (h | h); exact h5 h; exact h6 h)] at hs
    rw [hs]
    clear hs h5 h6
    go_enter Tryz.func123, Tryz.ntmps123
    go_wp2_with fail
    refine bodyPost_ret (v := .agg #[.int .i64 k, .string ⟨#[]⟩]) (by simp [results, Tryz.results123, go_sem]) rfl ?_
    exact ⟨rfl, ((Below.refl _ _).alloc (Nat.le_refl _) _).alloc (by simp) _⟩

/-! ### The reader as it lies -/

/-- A token as it lies. -/
def TokIn (w : World) (g o : Nat) (y : Tok) : Prop := w.cell? ⟨g, o, none⟩ = some (.int .i64 y.1.k) ∧ w.cell? ⟨g, o + 1, none⟩ = some (.string (tx y.1.t)) ∧ w.cell? ⟨g, o + 2, none⟩ = some (.bool y.1.f) ∧ w.cell? ⟨g, o + 3, none⟩ = some (.int .u64 y.1.x) ∧ w.cell? ⟨g, o + 4, none⟩ = some (.int .i64 y.2)
/-- What is left, as it lies. -/
def RestIn (w : World) (b : Nat) (v : Value) (rest : List Tok) : Prop :=
  ∃ a c, v = .slice a rest.length c ∧ rest.length ≤ c ∧ c ≤ maxLen ∧ (rest = [] ∨ ∃ g o, a = some ⟨g, o, none⟩ ∧ g < b ∧ ∀ i (h : i < rest.length), TokIn w g (o + i * 5) rest[i])
def ShB (w : World) (b g : Nat) (s : Sh) : Prop := ShAt w g s ∧ g ≠ b
theorem ShB.later {w w' : World} {b g : Nat} {s : Sh} (h : ShB w b g s) (hb : w.grownBy w' (some b)) : ShB w' b g s := ⟨⟨hb.cell h.1.1 (by simpa using h.2), hb.cell h.1.2 (by simpa using h.2)⟩, h.2⟩
/-- What lies ahead of all: shapes by their variables. -/
structure Env8 (w : World) (b : Nat) : Prop where
  letw : ShB w b 0 sLet
  casew : ShB w b 1 sCase
  lam : ShB w b 2 sLam
  name : ShB w b 3 sName
  con : ShB w b 4 sCon
  num : ShB w b 5 sNum
  back : ShB w b 6 sBack
  opn : ShB w b 7 sOpen
  data : ShB w b 8 sData
  semi : ShB w b 9 sSemi
  inw : ShB w b 10 sIn
  ofw : ShB w b 11 sOf
  curl : ShB w b 12 sCurl
  lruc : ShB w b 13 sLruc
  arrow : ShB w b 14 sArrow
  sign : ShB w b 15 sSign
  shut : ShB w b 16 sShut
  eq : ShB w b 17 sEq
/-- The reader. -/
structure Rdr (w : World) (b : Nat) (me ma : Nat) (last : Int) (rest : List Tok) (d : Nat) : Prop where
  c0 : ∃ v, w.cell? ⟨b, 0, none⟩ = some v ∧ RestIn w b v rest
  c1 : w.cell? ⟨b, 1, none⟩ = some (.int .i64 last)
  c2 : w.cell? ⟨b, 2, none⟩ = some (.int .i64 d)
  c3 : w.cell? ⟨b, 3, none⟩ = some (.map (some me))
  c4 : w.cell? ⟨b, 4, none⟩ = some (.map (some ma))
  z : ∀ j, w.frozen? ⟨b, j, none⟩ = false

end Go.Proofs.YtbnmmbjajheedaaGreatDoor

/- The reader's small calls: ahead, isAhead. -/
namespace Go.Proofs.YtbnmmbjajheedaaGreatDoor
open Go.RowKit Go.Lib

theorem grown_of {w w' : World} {b : Nat} (h : Below w.heap.size w w') : w.grownBy w' (some b) := ⟨h.os, h.tape, h.output, h.size, fun k hk _ => h.block k hk⟩
theorem grown_trans {w w' w'' : World} {b : Nat} (h : w.grownBy w' (some b)) (h2 : w'.grownBy w'' (some b)) : w.grownBy w'' (some b) :=
  ⟨h2.os.trans h.os, h2.tape.trans h.tape, h2.output.trans h.output, Nat.le_trans h.size h2.size, fun k hk hne => (h2.block k (Nat.lt_of_lt_of_le hk h.size) hne).trans (h.block k hk hne)⟩
theorem Env8.later {w w' : World} {b : Nat} (h : Env8 w b) (hb : w.grownBy w' (some b)) : Env8 w' b := ⟨h.letw.later hb, h.casew.later hb, h.lam.later hb, h.name.later hb, h.con.later hb, h.num.later hb, h.back.later hb, h.opn.later hb, h.data.later hb, h.semi.later hb, h.inw.later hb, h.ofw.later hb, h.curl.later hb, h.lruc.later hb, h.arrow.later hb, h.sign.later hb, h.shut.later hb, h.eq.later hb⟩
theorem TokIn.later {w w' : World} {g o : Nat} {y : Tok} (h : TokIn w g o y) {b : Nat} (hg : g ≠ b) (hb : w.grownBy w' (some b)) : TokIn w' g o y := by
  have hn : ∀ {j}, some (⟨g, j, none⟩ : Addr).block ≠ some b := by simpa using hg
  exact ⟨hb.cell h.1 hn, hb.cell h.2.1 hn, hb.cell h.2.2.1 hn, hb.cell h.2.2.2.1 hn, hb.cell h.2.2.2.2 hn⟩
theorem RestIn.later {w w' : World} {b : Nat} {v : Value} {rest : List Tok} (h : RestIn w b v rest) (hb : w.grownBy w' (some b)) : RestIn w' b v rest := by
  obtain ⟨a, c, e, h1, h2, h3⟩ := h
  refine ⟨a, c, e, h1, h2, ?_⟩
  rcases h3 with h3 | ⟨g, o, e2, hg, ht⟩
  · exact Or.inl h3
  · exact Or.inr ⟨g, o, e2, hg, fun i hi => (ht i hi).later (Nat.ne_of_lt hg) hb⟩
theorem Rdr.later {w w' : World} {b me ma : Nat} {last : Int} {rest : List Tok} {d : Nat} (h : Rdr w b me ma last rest d) (hb : Below w.heap.size w w') : Rdr w' b me ma last rest d := by
  obtain ⟨v, hv, hr⟩ := h.c0
  have lt := World.block_lt_of_cell? _ _ hv
  exact ⟨⟨v, later' hb hv, hr.later (grown_of hb)⟩, later' hb h.c1, later' hb h.c2, later' hb h.c3, later' hb h.c4, fun j => (World.frozen?_of_block (w := w) (hb.block _ (by simpa using lt))).trans (h.z j)⟩

/-- The next token; behind the last one, one of no kind. -/
def tokO : List Tok → Tok
  | [] => (⟨0, [], false, 0⟩, 0)
  | x :: _ => x
def TokSaid (y : Tok) (w : World) (e : Ending) (w' : World) : Prop := e = .returned (.agg #[.int .i64 y.1.k, .string (tx y.1.t), .bool y.1.f, .int .u64 y.1.x, .int .i64 y.2]) ∧ Below w.heap.size w w'
set_option maxHeartbeats 4000000 in
set_option maxRecDepth 100000 in
theorem ahead_any (b me ma : Nat) (last : Int) (rest : List Tok) (d : Nat) (w : World) (hR : Rdr w b me ma last rest d) : Calls Tryz.prog 124 #[.pointer (some ⟨b, 0, none⟩)] w (TokSaid (tokO rest) w) := by
  have hx : Below w.heap.size w (w.alloc (.cells #[.int .i64 0, .string ⟨#[]⟩, .bool false, .int .u64 0, .int .i64 0] 41)) := (Below.refl _ _).alloc (Nat.le_refl _) _
  have hR2 := hR.later hx
  have HX := Lib.hid hx
  clear hx hR
  go_enter Tryz.func124, Tryz.ntmps124
  go_upto_region 1 with fail
  obtain ⟨v, hv, a, c, rfl, hc, hm, hr⟩ := hR2.c0
  cases rest with
  | nil =>
    clear hR2 hr
    go_wp2_with fail
    refine bodyPost_ret (v := .agg #[.int .i64 0, .string ⟨#[]⟩, .bool false, .int .u64 0, .int .i64 0]) (by simp [results, Tryz.results124, go_sem]) rfl ?_
    exact ⟨rfl, (Below.refl _ _).alloc (Nat.le_refl _) _⟩
  | cons y r =>
    rcases hr with hr | ⟨g, o, rfl, hg, ht⟩
    · cases hr
    have h0 := ht 0 (by simp)
    obtain ⟨p0, p1, p2, p3, p4⟩ := h0
    simp only [Nat.zero_mul, Nat.add_zero, List.getElem_cons_zero] at p0 p1 p2 p3 p4
    simp only [List.length_cons] at hv hc
    clear hR2 ht
    go_wp2_with fail
    refine bodyPost_ret (v := .agg #[.int .i64 y.1.k, .string (tx y.1.t), .bool y.1.f, .int .u64 y.1.x, .int .i64 y.2]) (by simp [results, Tryz.results124, go_sem]) rfl ?_
    exact ⟨rfl, (Below.refl _ _).alloc (Nat.le_refl _) _⟩

theorem shapeL_tok (rest : List Tok) : shapeT (tokO rest).1 = shapeL rest := by
  cases rest with
  | nil => rfl
  | cons y r => rfl
def IsSaid (v : Bool) (w : World) (e : Ending) (w' : World) : Prop := e = .returned (.bool v) ∧ Below w.heap.size w w'
theorem IsSaid.mk {u v : Bool} {w w' : World} (h : u = v) (hb : Below w.heap.size w w') : IsSaid v w (.returned (.bool u)) w' := ⟨by rw [h], hb⟩
set_option maxHeartbeats 4000000 in
set_option maxRecDepth 100000 in
theorem isAhead_raw (b me ma : Nat) (last : Int) (rest : List Tok) (d : Nat) (s : Sh) (w : World) (hR : Rdr w b me ma last rest d) (y : Tok) (hy : tokO rest = y) : Calls Tryz.prog 87 #[.pointer (some ⟨b, 0, none⟩), .agg #[.int .i64 s.1, .string (tx s.2)]] w (IsSaid (decide (shapeT y.1 = s)) w) := by
  have hx : Below w.heap.size w (w.alloc (.cells #[.int .i64 s.1, .string (tx s.2)] 105)) := (Below.refl _ _).alloc (Nat.le_refl _) _
  have c0 : (w.alloc (.cells #[.int .i64 s.1, .string (tx s.2)] 105)).cell? ⟨w.heap.size, 0, none⟩ = some (.int .i64 s.1) := by simp [go_sem]
  have c1 : (w.alloc (.cells #[.int .i64 s.1, .string (tx s.2)] 105)).cell? ⟨w.heap.size, 1, none⟩ = some (.string (tx s.2)) := by simp [go_sem]
  have HX := Lib.hid (And.intro hx (And.intro (hR.later hx) (And.intro c0 c1)))
  clear hx hR c0 c1
  go_enter Tryz.func87, Tryz.ntmps87
  go_upto_region 1 with fail
  generalize (w.alloc (.cells #[.int .i64 s.1, .string (tx s.2)] 105)) = W at *
  generalize hpb : w.heap.size = p at *
  have HP := Lib.hid hpb
  clear hpb
  obtain ⟨hb, hR, c0, c1⟩ := HX.out
  have HB0 := Lib.hid hb
  have hA := Lib.hid (hy ▸ ahead_any b me ma last rest d : ∀ (w : World), Rdr w b me ma last rest d → Calls Tryz.prog 124 #[.pointer (some ⟨b, 0, none⟩)] w (TokSaid y w))
  have hE := shape_eql (shapeT y.1) s
  have hdr : Below W.heap.size W W.drew := ⟨rfl, rfl, rfl, Nat.le_refl _, fun _ _ => rfl⟩
  have HRD := Lib.hid (And.intro hR (hR.later hdr))
  clear hdr
  clear hb hR hy
  go_region_held3 (fun w' => w'.cell? ⟨p, 0, none⟩ = some (.int .i64 s.1) ∧ w'.cell? ⟨p, 1, none⟩ = some (.string (tx s.2))) (first | exact ⟨hk0, hk1⟩ | go_keep)
    (first
      | (go_at_call 124; refine (hA.out _ (by first | exact HRD.out.1 | exact HRD.out.2)).mono ?_; rintro e w2 ⟨rfl, hb2⟩; have hk0 := later' hb2 c0; have hk1 := later' hb2 c1; have H2 := Lib.hid hb2; clear hb2)
      | (go_at_call 123; refine (shapeOf_any y _).mono ?_; rintro e w3 ⟨rfl, hb3⟩; have hk2 := later' hb3 hk0; have hk3 := later' hb3 hk1; have H3 := Lib.hid hb3; clear hb3))
  all_goals
    go_wp2_with fail
    go_ret
    have hb0 : Below w.heap.size w W := by rw [HP.out]; exact HB0.out
    exact IsSaid.mk rfl (onB' (onB' hb0.drew H2.out) H3.out)
theorem isAhead_any (b me ma : Nat) (last : Int) (rest : List Tok) (d : Nat) (s : Sh) (w : World) (hR : Rdr w b me ma last rest d) : Calls Tryz.prog 87 #[.pointer (some ⟨b, 0, none⟩), .agg #[.int .i64 s.1, .string (tx s.2)]] w (IsSaid (decide (shapeL rest = s)) w) := by
  have h := isAhead_raw b me ma last rest d s w hR _ rfl
  rwa [shapeL_tok] at h

/-! ### take -/
theorem restIn_cons {w : World} {b : Nat} {v : Value} {y : Tok} {r : List Tok} (h : RestIn w b v (y :: r)) : ∃ g o c, v = .slice (some ⟨g, o, none⟩) (r.length + 1) c ∧ g < b ∧ r.length + 1 ≤ c ∧ c ≤ maxLen ∧ TokIn w g o y ∧ (∀ a', (c = r.length + 1 ∧ r = [] ∨ a' = some ⟨g, o + 5, none⟩) → RestIn w b (.slice a' r.length (c - 1)) r) := by
  obtain ⟨a, c, rfl, hc, hm, hr⟩ := h
  rcases hr with hr | ⟨g, o, rfl, hg, ht⟩
  · cases hr
  simp only [List.length_cons] at hc
  refine ⟨g, o, c, rfl, hg, hc, hm, ?_, ?_⟩
  · have := ht 0 (by simp)
    simpa using this
  · intro a' ha
    refine ⟨a', c - 1, rfl, by omega, by omega, ?_⟩
    rcases ha with ⟨_, rfl⟩ | rfl
    · exact Or.inl rfl
    · refine Or.inr ⟨g, o + 5, rfl, hg, fun i hi => ?_⟩
      have := ht (i + 1) (by simpa using hi)
      rw [List.getElem_cons_succ] at this
      have e : o + (i + 1) * 5 = o + 5 + i * 5 := by omega
      rwa [e] at this
theorem set_grown (W : World) (b o : Nat) (v : Value) : W.grownBy (W.setCell ⟨b, o, none⟩ v) (some b) :=
  ⟨rfl, rfl, rfl, by simp [World.setCell], fun k _ hne => Below.heap_setCell _ _ _ _ (fun e => hne (by simp at e; rw [e]))⟩
theorem at_oth (W : World) (b i j : Nat) (v : Value) (h : i ≠ j) : (W.setCell ⟨b, i, none⟩ v).cell? ⟨b, j, none⟩ = W.cell? ⟨b, j, none⟩ := World.cell?_setCell_other _ _ _ _ (by first | (intro e; cases e; exact h rfl) | simp [h])
theorem at_far (W : World) (b c i j : Nat) (v : Value) (h : b ≠ c) : (W.setCell ⟨b, i, none⟩ v).cell? ⟨c, j, none⟩ = W.cell? ⟨c, j, none⟩ := World.cell?_setCell_other _ _ _ _ (by first | (intro e; cases e; exact h rfl) | simp [h])
theorem at_sam {W : World} {b i : Nat} {u : Value} (v : Value) (h : W.cell? ⟨b, i, none⟩ = some u) : (W.setCell ⟨b, i, none⟩ v).cell? ⟨b, i, none⟩ = some v := World.cell?_setCell_same _ _ _ h
theorem Rdr.rest {W : World} {b me ma : Nat} {last : Int} {rest : List Tok} {d : Nat} (h : Rdr W b me ma last rest d) {v : Value} {r : List Tok} (hr : RestIn W b v r) : Rdr (W.setCell ⟨b, 0, none⟩ v) b me ma last r d := by
  obtain ⟨u, hu, -⟩ := h.c0
  exact ⟨⟨v, at_sam v hu, hr.later (set_grown ..)⟩, (at_oth _ _ _ _ _ (by decide)).trans h.c1, (at_oth _ _ _ _ _ (by decide)).trans h.c2, (at_oth _ _ _ _ _ (by decide)).trans h.c3, (at_oth _ _ _ _ _ (by decide)).trans h.c4, fun j => by simp [h.z j]⟩
theorem Rdr.line {W : World} {b me ma : Nat} {last : Int} {rest : List Tok} {d : Nat} (h : Rdr W b me ma last rest d) (l : Int) : Rdr (W.setCell ⟨b, 1, none⟩ (.int .i64 l)) b me ma l rest d := by
  obtain ⟨u, hu, hr⟩ := h.c0
  exact ⟨⟨u, (at_oth _ _ _ _ _ (by decide)).trans hu, hr.later (set_grown ..)⟩, at_sam _ h.c1, (at_oth _ _ _ _ _ (by decide)).trans h.c2, (at_oth _ _ _ _ _ (by decide)).trans h.c3, (at_oth _ _ _ _ _ (by decide)).trans h.c4, fun j => by simp [h.z j]⟩
theorem Rdr.deep {W : World} {b me ma : Nat} {last : Int} {rest : List Tok} {d : Nat} (h : Rdr W b me ma last rest d) (n : Nat) : Rdr (W.setCell ⟨b, 2, none⟩ (.int .i64 n)) b me ma last rest n := by
  obtain ⟨u, hu, hr⟩ := h.c0
  exact ⟨⟨u, (at_oth _ _ _ _ _ (by decide)).trans hu, hr.later (set_grown ..)⟩, (at_oth _ _ _ _ _ (by decide)).trans h.c1, at_sam _ h.c2, (at_oth _ _ _ _ _ (by decide)).trans h.c3, (at_oth _ _ _ _ _ (by decide)).trans h.c4, fun j => by simp [h.z j]⟩
theorem grown_new {w W : World} {b p i : Nat} (h : w.grownBy W (some b)) (hp : w.heap.size ≤ p) (v : Value) : w.grownBy (W.setCell ⟨p, i, none⟩ v) (some b) :=
  ⟨h.os, h.tape, h.output, Nat.le_trans h.size (by simp [World.setCell]), fun k hk hne => (Below.heap_setCell _ _ _ _ (by simp only; omega)).trans (h.block k hk hne)⟩
theorem RestIn.over {W : World} {b p i : Nat} {v u : Value} {r : List Tok} (h : RestIn W b v r) (hp : b < p) : RestIn (W.setCell ⟨p, i, none⟩ u) b v r := by
  obtain ⟨a, c, e, h1, h2, h3⟩ := h
  refine ⟨a, c, e, h1, h2, ?_⟩
  rcases h3 with h3 | ⟨g, o, e2, hg, ht⟩
  · exact Or.inl h3
  · refine Or.inr ⟨g, o, e2, hg, fun j hj => ?_⟩
    obtain ⟨t0, t1, t2, t3, t4⟩ := ht j hj
    have hn : p ≠ g := by omega
    exact ⟨(at_far _ _ _ _ _ _ hn).trans t0, (at_far _ _ _ _ _ _ hn).trans t1, (at_far _ _ _ _ _ _ hn).trans t2, (at_far _ _ _ _ _ _ hn).trans t3, (at_far _ _ _ _ _ _ hn).trans t4⟩
theorem Rdr.over {W : World} {b me ma : Nat} {last : Int} {rest : List Tok} {d : Nat} (h : Rdr W b me ma last rest d) {p i : Nat} (hp : b < p) (u : Value) : Rdr (W.setCell ⟨p, i, none⟩ u) b me ma last rest d := by
  obtain ⟨v, hv, hr⟩ := h.c0
  have hn : p ≠ b := by omega
  exact ⟨⟨v, (at_far _ _ _ _ _ _ hn).trans hv, hr.over hp⟩, (at_far _ _ _ _ _ _ hn).trans h.c1, (at_far _ _ _ _ _ _ hn).trans h.c2, (at_far _ _ _ _ _ _ hn).trans h.c3, (at_far _ _ _ _ _ _ hn).trans h.c4, fun j => by simp [h.z j]⟩
/-- A token taken. -/
def TookSaid (b me ma : Nat) (y : Tok) (rest : List Tok) (d : Nat) (w : World) (e : Ending) (w' : World) : Prop :=
  e = .returned (.agg #[.int .i64 y.1.k, .string (tx y.1.t), .bool y.1.f, .int .u64 y.1.x, .int .i64 y.2]) ∧ Rdr w' b me ma y.2 rest d ∧ w.grownBy w' (some b)
set_option maxHeartbeats 4000000 in
set_option maxRecDepth 100000 in
theorem take_any (b me ma : Nat) (last : Int) (y : Tok) (r : List Tok) (d : Nat) (w : World) (hR : Rdr w b me ma last (y :: r) d) : Calls Tryz.prog 92 #[.pointer (some ⟨b, 0, none⟩)] w (TookSaid b me ma y r d w) := by
  obtain ⟨⟨k, t, f, x⟩, ln⟩ := y
  have HBW := Lib.hid (show b < w.heap.size from World.block_lt_of_cell? _ _ hR.c1)
  have hx1 : Below w.heap.size w (w.alloc (.cells #[.int .i64 0, .string ⟨#[]⟩, .bool false, .int .u64 0, .int .i64 0] 41)) := (Below.refl _ _).alloc (Nat.le_refl _) _
  have hR1 := hR.later hx1
  have HX1 := Lib.hid (And.intro hx1 hR1)
  clear hR hx1 hR1
  go_enter Tryz.func92, Tryz.ntmps92
  go_upto_region 1 with fail
  have hrb : w.heap.size < (w.alloc (.cells #[.int .i64 0, .string ⟨#[]⟩, .bool false, .int .u64 0, .int .i64 0] 41)).heap.size := by simp
  have d0 : (w.alloc (.cells #[.int .i64 0, .string ⟨#[]⟩, .bool false, .int .u64 0, .int .i64 0] 41)).cell? ⟨w.heap.size, 0, none⟩ = some (.int .i64 0) := by simp [go_sem]
  have d1 : (w.alloc (.cells #[.int .i64 0, .string ⟨#[]⟩, .bool false, .int .u64 0, .int .i64 0] 41)).cell? ⟨w.heap.size, 1, none⟩ = some (.string ⟨#[]⟩) := by simp [go_sem]
  have d2 : (w.alloc (.cells #[.int .i64 0, .string ⟨#[]⟩, .bool false, .int .u64 0, .int .i64 0] 41)).cell? ⟨w.heap.size, 2, none⟩ = some (.bool false) := by simp [go_sem]
  have d3 : (w.alloc (.cells #[.int .i64 0, .string ⟨#[]⟩, .bool false, .int .u64 0, .int .i64 0] 41)).cell? ⟨w.heap.size, 3, none⟩ = some (.int .u64 0) := by simp [go_sem]
  have d4 : (w.alloc (.cells #[.int .i64 0, .string ⟨#[]⟩, .bool false, .int .u64 0, .int .i64 0] 41)).cell? ⟨w.heap.size, 4, none⟩ = some (.int .i64 0) := by simp [go_sem]
  have rz : ∀ j, (w.alloc (.cells #[.int .i64 0, .string ⟨#[]⟩, .bool false, .int .u64 0, .int .i64 0] 41)).frozen? ⟨w.heap.size, j, none⟩ = false := fun j => by simp
  have HZ := Lib.hid rz
  clear rz
  have HD := Lib.hid (And.intro hrb (And.intro d0 (And.intro d1 (And.intro d2 (And.intro d3 d4)))))
  clear d0 d1 d2 d3 d4 hrb
  generalize (w.alloc (.cells #[.int .i64 0, .string ⟨#[]⟩, .bool false, .int .u64 0, .int .i64 0] 41)) = W1 at *
  obtain ⟨v, hv, hri⟩ := HX1.out.2.c0
  obtain ⟨g, o, c, rfl, hg, hc, hm, htk, hrest⟩ := restIn_cons hri
  obtain ⟨p0, p1, p2, p3, p4⟩ := htk
  simp only at p0 p1 p2 p3 p4
  unfold maxLen at hm
  have hb1 : (0 : Int) < (r.length : Int) + 1 := by omega
  clear hri
  go_upto_region 2 with fail
  have hx2 : Below W1.heap.size W1 (W1.alloc (.cells #[.int .i64 k, .string (tx t), .bool f, .int .u64 x, .int .i64 ln] 41)) := (Below.refl _ _).alloc (Nat.le_refl _) _
  have t0 : (W1.alloc (.cells #[.int .i64 k, .string (tx t), .bool f, .int .u64 x, .int .i64 ln] 41)).cell? ⟨W1.heap.size, 0, none⟩ = some (.int .i64 k) := by simp [go_sem]
  have t1 : (W1.alloc (.cells #[.int .i64 k, .string (tx t), .bool f, .int .u64 x, .int .i64 ln] 41)).cell? ⟨W1.heap.size, 1, none⟩ = some (.string (tx t)) := by simp [go_sem]
  have t2 : (W1.alloc (.cells #[.int .i64 k, .string (tx t), .bool f, .int .u64 x, .int .i64 ln] 41)).cell? ⟨W1.heap.size, 2, none⟩ = some (.bool f) := by simp [go_sem]
  have t3 : (W1.alloc (.cells #[.int .i64 k, .string (tx t), .bool f, .int .u64 x, .int .i64 ln] 41)).cell? ⟨W1.heap.size, 3, none⟩ = some (.int .u64 x) := by simp [go_sem]
  have t4 : (W1.alloc (.cells #[.int .i64 k, .string (tx t), .bool f, .int .u64 x, .int .i64 ln] 41)).cell? ⟨W1.heap.size, 4, none⟩ = some (.int .i64 ln) := by simp [go_sem]
  have hv2 := later' hx2 hv
  have hR2 := HX1.out.2.later hx2
  have hrest2 : ∀ (a' : Option Addr), c = r.length + 1 ∧ r = [] ∨ a' = some ⟨g, o + 5, none⟩ → RestIn (W1.alloc (.cells #[.int .i64 k, .string (tx t), .bool f, .int .u64 x, .int .i64 ln] 41)) b (.slice a' r.length (c - 1)) r := fun a' ha => (hrest a' ha).later (grown_of hx2)
  obtain ⟨hrb, d0, d1, d2, d3, d4⟩ := HD.out
  have HD2 := Lib.hid (And.intro (later' hx2 d0) (And.intro (later' hx2 d1) (And.intro (later' hx2 d2) (And.intro (later' hx2 d3) (later' hx2 d4)))))
  have hbr : b ≠ w.heap.size := by
    intro e
    have h1 := HX1.out.2.c1
    rw [e] at h1
    rw [h1] at d1
    cases d1
  have hbt : b < W1.heap.size := World.block_lt_of_cell? _ _ hv
  have hbb : b < w.heap.size := HBW.out
  have hz2 : ∀ j, (W1.alloc (.cells #[.int .i64 k, .string (tx t), .bool f, .int .u64 x, .int .i64 ln] 41)).frozen? ⟨w.heap.size, j, none⟩ = false := fun j => (World.frozen?_of_block (w := W1) (hx2.block _ (by simpa using hrb))).trans (HZ.out j)
  have HZ2 := Lib.hid hz2
  clear hz2 HZ
  have HT := Lib.hid (And.intro t0 (And.intro t1 (And.intro t2 (And.intro t3 t4))))
  have hbw : Below w.heap.size w (W1.alloc (.cells #[.int .i64 k, .string (tx t), .bool f, .int .u64 x, .int .i64 ln] 41)) := onB' HX1.out.1 hx2
  have HW := Lib.hid (And.intro hbw (And.intro hrest2 hR2))
  clear d0 d1 d2 d3 d4 hrb hv hrest hx2 p0 p1 p2 p3 p4 HD HX1 hbw hrest2 hR2
  generalize (W1.alloc (.cells #[.int .i64 k, .string (tx t), .bool f, .int .u64 x, .int .i64 ln] 41)) = W2 at *
  have hbq : b ≠ W1.heap.size := by omega
  have hq1 : w.heap.size < W2.heap.size := World.block_lt_of_cell? _ _ HD2.out.1
  generalize W1.heap.size = q at *
  generalize hrs : w.heap.size = rb at *
  have HRS := Lib.hid hrs
  have l1 := HW.out.2.2.c1
  have z0 := HW.out.2.2.z 0
  have z1 := HW.out.2.2.z 1
  have e1 : IntKind.i64.wrap ((r.length : Int) + 1 - 1) = (r.length : Int) := by rw [IntKind.wrap_i64]; omega
  have hc1 : (1 : Int) ≤ (c : Int) := by omega
  have hc2 : (r.length : Int) + 1 ≤ (c : Int) := by omega
  have hc3 : (1 : Int) ≤ (r.length : Int) + 1 := by omega
  clear hrs t0 t1 t2 t3 t4
  obtain ⟨t0, t1, t2, t3, t4⟩ := HT.out
  by_cases g1 : c = 1
  · subst g1
    have hr0 : r = [] := List.length_eq_zero_iff.1 (by omega)
    subst hr0
    have hrs : RestIn W2 b (.slice (some ⟨g, o, none⟩) 0 0) [] := HW.out.2.1 (some ⟨g, o, none⟩) (Or.inl ⟨rfl, rfl⟩)
    go_upto_region 4 with fail
    have hR4 := (HW.out.2.2.rest hrs).line ln
    have hg4 := grown_trans (set_grown W2 b 0 (.slice (some ⟨g, o, none⟩) 0 0)) (set_grown _ b 1 (.int .i64 ln))
    have s0 := HD2.out
    have q0 : ((W2.setCell ⟨b, 0, none⟩ (.slice (some ⟨g, o, none⟩) 0 0)).setCell ⟨b, 1, none⟩ (.int .i64 ln)).cell? ⟨rb, 0, none⟩ = some (.int .i64 0) := hg4.cell s0.1 (by simpa using Ne.symm hbr)
    have q1 : ((W2.setCell ⟨b, 0, none⟩ (.slice (some ⟨g, o, none⟩) 0 0)).setCell ⟨b, 1, none⟩ (.int .i64 ln)).cell? ⟨rb, 1, none⟩ = some (.string ⟨#[]⟩) := hg4.cell s0.2.1 (by simpa using Ne.symm hbr)
    have q2 : ((W2.setCell ⟨b, 0, none⟩ (.slice (some ⟨g, o, none⟩) 0 0)).setCell ⟨b, 1, none⟩ (.int .i64 ln)).cell? ⟨rb, 2, none⟩ = some (.bool false) := hg4.cell s0.2.2.1 (by simpa using Ne.symm hbr)
    have q3 : ((W2.setCell ⟨b, 0, none⟩ (.slice (some ⟨g, o, none⟩) 0 0)).setCell ⟨b, 1, none⟩ (.int .i64 ln)).cell? ⟨rb, 3, none⟩ = some (.int .u64 0) := hg4.cell s0.2.2.2.1 (by simpa using Ne.symm hbr)
    have q4 : ((W2.setCell ⟨b, 0, none⟩ (.slice (some ⟨g, o, none⟩) 0 0)).setCell ⟨b, 1, none⟩ (.int .i64 ln)).cell? ⟨rb, 4, none⟩ = some (.int .i64 0) := hg4.cell s0.2.2.2.2 (by simpa using Ne.symm hbr)
    have u0 : ((W2.setCell ⟨b, 0, none⟩ (.slice (some ⟨g, o, none⟩) 0 0)).setCell ⟨b, 1, none⟩ (.int .i64 ln)).cell? ⟨q, 0, none⟩ = some (.int .i64 k) := hg4.cell t0 (by simpa using Ne.symm hbq)
    have u1 : ((W2.setCell ⟨b, 0, none⟩ (.slice (some ⟨g, o, none⟩) 0 0)).setCell ⟨b, 1, none⟩ (.int .i64 ln)).cell? ⟨q, 1, none⟩ = some (.string (tx t)) := hg4.cell t1 (by simpa using Ne.symm hbq)
    have u2 : ((W2.setCell ⟨b, 0, none⟩ (.slice (some ⟨g, o, none⟩) 0 0)).setCell ⟨b, 1, none⟩ (.int .i64 ln)).cell? ⟨q, 2, none⟩ = some (.bool f) := hg4.cell t2 (by simpa using Ne.symm hbq)
    have u3 : ((W2.setCell ⟨b, 0, none⟩ (.slice (some ⟨g, o, none⟩) 0 0)).setCell ⟨b, 1, none⟩ (.int .i64 ln)).cell? ⟨q, 3, none⟩ = some (.int .u64 x) := hg4.cell t3 (by simpa using Ne.symm hbq)
    have u4 : ((W2.setCell ⟨b, 0, none⟩ (.slice (some ⟨g, o, none⟩) 0 0)).setCell ⟨b, 1, none⟩ (.int .i64 ln)).cell? ⟨q, 4, none⟩ = some (.int .i64 ln) := hg4.cell t4 (by simpa using Ne.symm hbq)
    have rz : ∀ j, ((W2.setCell ⟨b, 0, none⟩ (.slice (some ⟨g, o, none⟩) 0 0)).setCell ⟨b, 1, none⟩ (.int .i64 ln)).frozen? ⟨rb, j, none⟩ = false := fun j => by simp [HZ2.out j]
    have rz0 := rz 0
    have rz1 := rz 1
    have rz2 := rz 2
    have rz3 := rz 3
    have rz4 := rz 4
    clear rz
    have HF := Lib.hid (And.intro hR4 hg4)
    clear hR4 hg4 s0 t0 t1 t2 t3 t4 hv2 l1 z0 z1
    generalize ((W2.setCell ⟨b, 0, none⟩ (.slice (some ⟨g, o, none⟩) 0 0)).setCell ⟨b, 1, none⟩ (.int .i64 ln)) = W4 at *
    go_wp2_with fail
    obtain ⟨v0, v1, v2, v3, v4⟩ := set5 q0 q1 q2 q3 q4 (.int .i64 k) (.string (tx t)) (.bool f) (.int .u64 x) (.int .i64 ln)
    refine bodyPost_ret (v := .agg #[.int .i64 k, .string (tx t), .bool f, .int .u64 x, .int .i64 ln]) (by simp [results, Tryz.results92, go_sem, v0, v1, v2, v3, v4]) rfl ?_
    have hgw : w.grownBy W2 (some b) := grown_of (by rw [HRS.out]; exact HW.out.1)
    have hle : w.heap.size ≤ rb := by rw [HRS.out]; exact Nat.le_refl _
    exact ⟨rfl, ((((HF.out.1.over hbb _).over hbb _).over hbb _).over hbb _).over hbb _, grown_new (grown_new (grown_new (grown_new (grown_new (grown_trans hgw HF.out.2) hle _) hle _) hle _) hle _) hle _⟩
  · have g2 : (c : Int) ≠ 1 := by omega
    have hrs : RestIn W2 b (.slice (some ⟨g, o + 5, none⟩) r.length (c - 1)) r := HW.out.2.1 (some ⟨g, o + 5, none⟩) (Or.inr rfl)
    go_upto_region 4 with fail
    have hR4 := (HW.out.2.2.rest hrs).line ln
    have hg4 := grown_trans (set_grown W2 b 0 (.slice (some ⟨g, o + 5, none⟩) r.length (c - 1))) (set_grown _ b 1 (.int .i64 ln))
    have s0 := HD2.out
    have q0 : ((W2.setCell ⟨b, 0, none⟩ (.slice (some ⟨g, o + 5, none⟩) r.length (c - 1))).setCell ⟨b, 1, none⟩ (.int .i64 ln)).cell? ⟨rb, 0, none⟩ = some (.int .i64 0) := hg4.cell s0.1 (by simpa using Ne.symm hbr)
    have q1 : ((W2.setCell ⟨b, 0, none⟩ (.slice (some ⟨g, o + 5, none⟩) r.length (c - 1))).setCell ⟨b, 1, none⟩ (.int .i64 ln)).cell? ⟨rb, 1, none⟩ = some (.string ⟨#[]⟩) := hg4.cell s0.2.1 (by simpa using Ne.symm hbr)
    have q2 : ((W2.setCell ⟨b, 0, none⟩ (.slice (some ⟨g, o + 5, none⟩) r.length (c - 1))).setCell ⟨b, 1, none⟩ (.int .i64 ln)).cell? ⟨rb, 2, none⟩ = some (.bool false) := hg4.cell s0.2.2.1 (by simpa using Ne.symm hbr)
    have q3 : ((W2.setCell ⟨b, 0, none⟩ (.slice (some ⟨g, o + 5, none⟩) r.length (c - 1))).setCell ⟨b, 1, none⟩ (.int .i64 ln)).cell? ⟨rb, 3, none⟩ = some (.int .u64 0) := hg4.cell s0.2.2.2.1 (by simpa using Ne.symm hbr)
    have q4 : ((W2.setCell ⟨b, 0, none⟩ (.slice (some ⟨g, o + 5, none⟩) r.length (c - 1))).setCell ⟨b, 1, none⟩ (.int .i64 ln)).cell? ⟨rb, 4, none⟩ = some (.int .i64 0) := hg4.cell s0.2.2.2.2 (by simpa using Ne.symm hbr)
    have u0 : ((W2.setCell ⟨b, 0, none⟩ (.slice (some ⟨g, o + 5, none⟩) r.length (c - 1))).setCell ⟨b, 1, none⟩ (.int .i64 ln)).cell? ⟨q, 0, none⟩ = some (.int .i64 k) := hg4.cell t0 (by simpa using Ne.symm hbq)
    have u1 : ((W2.setCell ⟨b, 0, none⟩ (.slice (some ⟨g, o + 5, none⟩) r.length (c - 1))).setCell ⟨b, 1, none⟩ (.int .i64 ln)).cell? ⟨q, 1, none⟩ = some (.string (tx t)) := hg4.cell t1 (by simpa using Ne.symm hbq)
    have u2 : ((W2.setCell ⟨b, 0, none⟩ (.slice (some ⟨g, o + 5, none⟩) r.length (c - 1))).setCell ⟨b, 1, none⟩ (.int .i64 ln)).cell? ⟨q, 2, none⟩ = some (.bool f) := hg4.cell t2 (by simpa using Ne.symm hbq)
    have u3 : ((W2.setCell ⟨b, 0, none⟩ (.slice (some ⟨g, o + 5, none⟩) r.length (c - 1))).setCell ⟨b, 1, none⟩ (.int .i64 ln)).cell? ⟨q, 3, none⟩ = some (.int .u64 x) := hg4.cell t3 (by simpa using Ne.symm hbq)
    have u4 : ((W2.setCell ⟨b, 0, none⟩ (.slice (some ⟨g, o + 5, none⟩) r.length (c - 1))).setCell ⟨b, 1, none⟩ (.int .i64 ln)).cell? ⟨q, 4, none⟩ = some (.int .i64 ln) := hg4.cell t4 (by simpa using Ne.symm hbq)
    have rz : ∀ j, ((W2.setCell ⟨b, 0, none⟩ (.slice (some ⟨g, o + 5, none⟩) r.length (c - 1))).setCell ⟨b, 1, none⟩ (.int .i64 ln)).frozen? ⟨rb, j, none⟩ = false := fun j => by simp [HZ2.out j]
    have rz0 := rz 0
    have rz1 := rz 1
    have rz2 := rz 2
    have rz3 := rz 3
    have rz4 := rz 4
    clear rz
    have HF := Lib.hid (And.intro hR4 hg4)
    clear hR4 hg4 s0 t0 t1 t2 t3 t4 hv2 l1 z0 z1
    generalize ((W2.setCell ⟨b, 0, none⟩ (.slice (some ⟨g, o + 5, none⟩) r.length (c - 1))).setCell ⟨b, 1, none⟩ (.int .i64 ln)) = W4 at *
    go_wp2_with fail
    obtain ⟨v0, v1, v2, v3, v4⟩ := set5 q0 q1 q2 q3 q4 (.int .i64 k) (.string (tx t)) (.bool f) (.int .u64 x) (.int .i64 ln)
    refine bodyPost_ret (v := .agg #[.int .i64 k, .string (tx t), .bool f, .int .u64 x, .int .i64 ln]) (by simp [results, Tryz.results92, go_sem, v0, v1, v2, v3, v4]) rfl ?_
    have hgw : w.grownBy W2 (some b) := grown_of (by rw [HRS.out]; exact HW.out.1)
    have hle : w.heap.size ≤ rb := by rw [HRS.out]; exact Nat.le_refl _
    exact ⟨rfl, ((((HF.out.1.over hbb _).over hbb _).over hbb _).over hbb _).over hbb _, grown_new (grown_new (grown_new (grown_new (grown_new (grown_trans hgw HF.out.2) hle _) hle _) hle _) hle _) hle _⟩

end Go.Proofs.YtbnmmbjajheedaaGreatDoor
