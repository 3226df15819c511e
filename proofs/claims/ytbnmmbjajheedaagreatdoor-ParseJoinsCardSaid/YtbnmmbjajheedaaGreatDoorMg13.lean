import Derived.Defers
import Derived.Recover
import Derived.Test.YtbnmmbjajheedaaGreatDoorMg3
import Derived.Test.YtbnmmbjajheedaaGreatDoorMg5
import Derived.Test.YtbnmmbjajheedaaGreatDoorMg12
namespace Go.Proofs.YtbnmmbjajheedaaGreatDoor
set_option maxHeartbeats 64000000
set_option maxRecDepth 100000
open Go.RowKit Go.Lib
def Sm (c : UInt8) : Prop := 97 ≤ c.toNat ∧ c.toNat ≤ 122
def Cp (c : UInt8) : Prop := 65 ≤ c.toNat ∧ c.toNat ≤ 90
def Dg (c : UInt8) : Prop := 48 ≤ c.toNat ∧ c.toNat ≤ 57
inductive TkOk (y : Tk) (c : UInt8) : Prop where
 | name (k : y.k = 1) (s : Sm c) (w : wordF y.t = none) (f : y.f = false) (x : y.x = 0)
 | word (k : y.k = 5 ∨ y.k = 7) (s : Sm c) (w : wordF y.t = some y.k) (f : y.f = false) (x : y.x = 0)
 | con (k : y.k = 2) (s : Cp c) (f : y.f = false) (x : y.x = 0)
 | num (k : y.k = 3) (s : Dg c ∨ c.toNat = 35)
 | sign (k : y.k = 4 ∨ y.k = 6) (ns : ¬ Sm c) (nc : ¬ Cp c) (nd : ¬ Dg c) (nh : c.toNat ≠ 35) (f : y.f = false) (x : y.x = 0)
theorem small_in : ∀ c, c ∈ smallsB.data.toList → Sm c := by unfold Sm; decide
theorem cap_in : ∀ c, c ∈ capsB.data.toList → Cp c := by unfold Cp; decide
theorem dig_in : ∀ c, c ∈ digsB.data.toList → Dg c := by unfold Dg; decide
theorem sign_in : ∀ x, x ∈ signsB → (x.2 = 4 ∨ x.2 = 6) ∧ ∃ c, x.1.data.toList.head? = some c ∧ (¬ (97 ≤ c.toNat ∧ c.toNat ≤ 122) ∧ ¬ (65 ≤ c.toNat ∧ c.toNat ≤ 90) ∧ ¬ (48 ≤ c.toNat ∧ c.toNat ≤ 57) ∧ c.toNat ≠ 35) := by
 intro x hx
 simp only [signsB, List.mem_cons, List.not_mem_nil, or_false] at hx
 rcases hx with rfl | rfl | rfl | rfl | rfl | rfl | rfl | rfl | rfl | rfl | rfl | rfl | rfl | rfl | rfl | rfl | rfl | rfl | rfl | rfl | rfl
 all_goals exact ⟨by decide, _, rfl, by decide⟩
theorem word_some {t : List UInt8} {k : Int} (h : wordF t = some k) : (k = 5 ∨ k = 7) ∧ ∃ c r, t = c :: r ∧ Sm c := by
 unfold wordF kput at h
 repeat' split at h
 all_goals first
  | (rename_i e; cases h; subst e; exact ⟨by decide, _, _, rfl, by unfold Sm; decide⟩)
  | cases h
theorem kputs_in {f : List UInt8 → Option Int} {l : List UInt8} {u : Int} {r : List UInt8} {k : Int} (h : kputs f l u r = some k) : (∃ c, c ∈ l ∧ r = [c] ∧ k = u) ∨ f r = some k := by
 unfold kputs at h
 split at h
 ·rename_i e
  obtain ⟨c, hc, he⟩ := e
  exact Or.inl ⟨c, hc, he, (Oi h).symm⟩
 ·exact Or.inr h
theorem kputs_some {f : List UInt8 → Option Int} {l : List UInt8} {u : Int} {r : List UInt8} (h : kputs f l u r = none) : f r = none := by
 unfold kputs at h
 split at h
 ·cases h
 ·exact h
theorem kind_some {t : List UInt8} {k : Int} (h : kindF t = some k) : (∃ c, t = [c] ∧ ((k = 1 ∧ Sm c) ∨ (k = 2 ∧ Cp c) ∨ (k = 3 ∧ Dg c))) ∨ wordF t = some k := by
 rcases kputs_in h with ⟨c, hc, e, rfl⟩ | h
 ·exact Or.inl ⟨c, e, Or.inr (Or.inr ⟨rfl, dig_in c hc⟩)⟩
 rcases kputs_in h with ⟨c, hc, e, rfl⟩ | h
 ·exact Or.inl ⟨c, e, Or.inr (Or.inl ⟨rfl, cap_in c hc⟩)⟩
 rcases kputs_in h with ⟨c, hc, e, rfl⟩ | h
 ·exact Or.inl ⟨c, e, Or.inl ⟨rfl, small_in c hc⟩⟩
 exact Or.inr h
theorem kind_none {t : List UInt8} (h : kindF t = none) : wordF t = none := kputs_some (kputs_some (kputs_some h))
theorem kindOf_ok {c : UInt8} {r : List UInt8} (h : kindOf (c :: r) ≠ 0) : ∃ t, runL (c :: r) = c :: t ∧ ((kindOf (c :: r) = 1 ∧ Sm c ∧ wordF (c :: t) = none) ∨ ((kindOf (c :: r) = 5 ∨ kindOf (c :: r) = 7) ∧ Sm c ∧ wordF (c :: t) = some (kindOf (c :: r))) ∨ (kindOf (c :: r) = 2 ∧ Cp c) ∨ (kindOf (c :: r) = 3 ∧ Dg c)) := by
 cases hr : runL (c :: r) with
 | nil => exact absurd (kindOf_nil hr) h
 | cons d t =>
  obtain rfl : d = c := by
   have := List.takeWhile_prefix (p := inRun) (l := c :: r)
   unfold runL at hr
   rw [hr] at this
   exact (List.cons_prefix_cons.1 this).1
  refine ⟨t, rfl, ?_⟩
  unfold kindOf at h ⊢
  rw [hr] at h ⊢
  cases hk : kindF (d :: t) with
  | some k =>
   simp only [hk, Option.isSome_some, if_true, Option.getD_some] at h ⊢
   rcases kind_some hk with ⟨c', e, hh⟩ | hw
   ·simp only [List.cons.injEq] at e
    obtain ⟨rfl, rfl⟩ := e
    rcases hh with ⟨rfl, hs⟩ | ⟨rfl, hs⟩ | ⟨rfl, hs⟩
    ·exact Or.inl ⟨rfl, hs, word_one d⟩
    ·exact Or.inr (Or.inr (Or.inl ⟨rfl, hs⟩))
    ·exact Or.inr (Or.inr (Or.inr ⟨rfl, hs⟩))
   ·obtain ⟨hk57, c', r', e, hs⟩ := word_some hw
    simp only [List.cons.injEq] at e
    obtain ⟨rfl, rfl⟩ := e
    exact Or.inr (Or.inl ⟨hk57, hs, hw⟩)
  | none =>
   have hw := kind_none hk
   simp only [hk, Option.isSome_none, Bool.false_eq_true, if_false, List.take_succ_cons, List.take_zero] at h ⊢
   cases hk1 : kindF [d] with
   | none => rw [hk1] at h; exact absurd rfl h
   | some k =>
    simp only [Option.getD_some]
    rcases kind_some hk1 with ⟨c', e, hh⟩ | hw1
    ·simp only [List.cons.injEq, and_true] at e
     subst e
     rcases hh with ⟨rfl, hs⟩ | ⟨rfl, hs⟩ | ⟨rfl, hs⟩
     ·exact Or.inl ⟨rfl, hs, hw⟩
     ·exact Or.inr (Or.inr (Or.inl ⟨rfl, hs⟩))
     ·exact Or.inr (Or.inr (Or.inr ⟨rfl, hs⟩))
    ·rw [word_one] at hw1
     cases hw1
theorem numT_kind {t : List UInt8} (h : (numT t).2 = 0) : (numT t).1.k = 3 := by
 unfold numT at *
 split
 ·rfl
 ·rename_i g
  rw [if_neg g] at h
  exact absurd h g
theorem read_ok {c : UInt8} {r : List UInt8} (h : (readL (c :: r)).2 = 0) : ∃ t, (readL (c :: r)).1.t = c :: t ∧ TkOk (readL (c :: r)).1 c := by
 unfold readL at *
 cases hs : signL (c :: r) with
 | some x =>
  unfold signL at hs
  obtain ⟨hk, d, hd, h1, h2, h3, h4⟩ := sign_in x (List.mem_of_find?_eq_some hs)
  have hp := List.find?_some hs
  cases hx : x.1.data.toList with
  | nil => rw [hx] at hd; cases hd
  | cons d' t =>
   rw [hx] at hd hp
   obtain rfl := Oi hd
   unfold hasPrefix at hp
   obtain ⟨rfl, -⟩ := List.cons_prefix_cons.1 (List.isPrefixOf_iff_prefix.1 hp)
   exact ⟨t, hx, .sign hk h1 h2 h3 h4 rfl rfl⟩
 | none =>
  rw [hs] at h
  simp only at h ⊢
  split at h
  ·rename_i g
   rw [if_pos g]
   have hc : c = 35 := by
    unfold hasPrefix at g
    exact (List.cons_prefix_cons.1 (List.isPrefixOf_iff_prefix.1 g)).1.symm
   have hl : ∃ n t, markedL (c :: r) = (c :: t).take (n + 1) := by
    unfold markedL
    have h1 := trimP_le r [45]
    simp only [List.drop_succ_cons, List.drop_zero, List.length_cons]
    refine ⟨r.length - (trimPrefix r [45]).length + (runL (trimPrefix r [45])).length, r, ?_⟩
    congr 1
    omega
   obtain ⟨n, t, hl⟩ := hl
   rw [List.take_succ_cons] at hl
   refine ⟨t.take n, (numT_ok h).trans hl, .num (numT_kind h) (Or.inr (by rw [hc]; rfl))⟩
  ·rename_i g
   rw [if_neg g]
   unfold readR at *
   split at h
   ·cases h
   ·rename_i g0
    rw [if_neg g0]
    obtain ⟨t, hr, hh⟩ := kindOf_ok g0
    split at h
    ·rename_i g3
     rw [if_pos g3]
     refine ⟨t, (numT_ok h).trans hr, .num (numT_kind h) (Or.inl ?_)⟩
     rcases hh with ⟨e, -⟩ | ⟨e, -⟩ | ⟨e, -⟩ | ⟨-, e⟩
     ·omega
     ·omega
     ·omega
     ·exact e
    ·rename_i g3
     rw [if_neg g3]
     split at h
     ·cases h
     ·rename_i g16
      rw [if_neg g16]
      refine ⟨t, hr, ?_⟩
      rcases hh with ⟨e, hs, hw⟩ | ⟨e, hs, hw⟩ | ⟨e, hs⟩ | ⟨e, -⟩
      ·exact .name e hs (by simpa [hr] using hw) rfl rfl
      ·exact .word e hs (by simpa [hr] using hw) rfl rfl
      ·exact .con e hs rfl rfl
      ·exact absurd e g3
structure ToksOk (T : List (Tk × Int)) : Prop where
 ok : ∀ x, x ∈ T → 1 ≤ x.2 ∧ ∃ c t, x.1.t = c :: t ∧ TkOk x.1 c
 up : T.Pairwise fun a b => a.2 ≤ b.2
theorem lexA_ok : ∀ (f : Nat) (l : List UInt8) (line : Int) (acc T : List (Tk × Int)), 1 ≤ line → ToksOk acc → (∀ x, x ∈ acc → x.2 ≤ line) → lexA f l line acc = .good T → ToksOk T
 | 0, l, line, acc, T, _, ha, _, h => by unfold lexA at h; cases h; exact ha
 | f + 1, [], line, acc, T, _, ha, _, h => by unfold lexA at h; cases h; exact ha
 | f + 1, c :: r, line, acc, T, h0, ha, hl, h => by
  unfold lexA at h
  split at h
  ·exact lexA_ok f _ _ _ _ (by omega) ha (fun x hx => by have := hl x hx; omega) h
  ·split at h
   ·exact lexA_ok f _ _ _ _ h0 ha hl h
   ·split at h
    ·split at h
     ·cases h; exact ha
     ·exact lexA_ok f _ _ _ _ h0 ha hl h
    ·split at h
     ·rename_i hr
      split at h
      ·cases h
      ·obtain ⟨t, ht, hk⟩ := read_ok hr
       refine lexA_ok f _ _ _ _ h0 ⟨fun x hx => ?_, ?_⟩ (fun x hx => ?_) h
       ·rcases List.mem_append.1 hx with hx | hx
        ·exact ha.ok x hx
        ·rw [List.mem_singleton] at hx
         subst hx
         exact ⟨h0, c, t, ht, hk⟩
       ·refine List.pairwise_append.2 ⟨ha.up, List.pairwise_singleton _ _, fun a ha' b hb => ?_⟩
        rw [List.mem_singleton] at hb
        subst hb
        exact hl a ha'
       ·rcases List.mem_append.1 hx with hx | hx
        ·exact hl x hx
        ·rw [List.mem_singleton] at hx
         subst hx
         exact Int.le_refl _
     ·cases h
theorem lexL_ok {l : List UInt8} {T : List (Tk × Int)} (h : lexL l = .good T) : ToksOk T := lexA_ok _ _ _ _ _ (by omega) ⟨fun x hx => (by cases hx), List.Pairwise.nil⟩ (fun x hx => by cases hx) h
def Gap (b : UInt8) : Prop := b = 32 ∨ b = 10
theorem pre_gap {p l r : List UInt8} {b : UInt8} (hb : b ∉ p) : hasPrefix (l ++ b :: r) p = hasPrefix l p := by
 unfold hasPrefix
 rw [Bool.eq_iff_iff, List.isPrefixOf_iff_prefix, List.isPrefixOf_iff_prefix]
 constructor
 ·intro h
  by_cases g : p.length ≤ l.length
  ·exact List.prefix_of_prefix_length_le h (List.prefix_append _ _) g
  ·exfalso
   have hl : l.length < p.length := by omega
   obtain ⟨t, ht⟩ := h
   have h1 : (p ++ t)[l.length]? = (l ++ b :: r)[l.length]? := by rw [ht]
   rw [List.getElem?_append_left hl, List.getElem?_append_right Nr, Nat.sub_self] at h1
   exact hb (List.mem_of_getElem? h1)
 ·intro h
  exact h.trans (List.prefix_append _ _)
theorem find_same {α : Type} {p q : α → Bool} : ∀ (l : List α), (∀ x, x ∈ l → p x = q x) → l.find? p = l.find? q
 | [], _ => rfl
 | a :: l, h => by
  rw [List.find?_cons, List.find?_cons, h a (List.mem_cons_self ..), find_same l fun x hx => h x (List.mem_cons_of_mem _ hx)]
theorem signs_gap : ∀ x, x ∈ signsB → (32 : UInt8) ∉ x.1.data.toList ∧ (10 : UInt8) ∉ x.1.data.toList := by decide
theorem sign_gap {l r : List UInt8} {b : UInt8} (hb : Gap b) : signL (l ++ b :: r) = signL l := by
 unfold signL
 refine find_same _ fun x hx => pre_gap ?_
 rcases hb with rfl | rfl
 ·exact (signs_gap x hx).1
 ·exact (signs_gap x hx).2
theorem inRun_gap {b : UInt8} (hb : Gap b) : inRun b = false := by
 rcases hb with rfl | rfl <;> decide
theorem run_gap {l r : List UInt8} {b : UInt8} (hb : inRun b = false) : runL (l ++ b :: r) = runL l := by
 unfold runL
 induction l with
 | nil => rw [List.nil_append, List.takeWhile_cons, hb]; rfl
 | cons c l ih => rw [List.cons_append, List.takeWhile_cons, List.takeWhile_cons, ih]
theorem run_run (l : List UInt8) : runL (runL l) = runL l := by
 unfold runL
 induction l with
 | nil => rfl
 | cons c l ih =>
  rw [List.takeWhile_cons]
  split
  ·rename_i h
   rw [List.takeWhile_cons, if_pos h, ih]
  ·rfl
theorem run_mem {l : List UInt8} {x : UInt8} (h : x ∈ runL l) : inRun x = true := by
 unfold runL at h
 induction l with
 | nil => cases h
 | cons c l ih =>
  rw [List.takeWhile_cons] at h
  split at h
  ·rename_i g
   rcases List.mem_cons.1 h with rfl | h
   ·exact g
   ·exact ih h
  ·cases h
theorem run_take (l : List UInt8) : l.take (runL l).length = runL l := (List.prefix_iff_eq_take.1 (List.takeWhile_prefix _)).symm
theorem marked_minus (q : List UInt8) : markedL (35 :: 45 :: q) = 35 :: 45 :: runL q := by
 have e : trimPrefix ((35 :: 45 :: q : List UInt8).drop 1) [45] = q := by simp [trimPrefix, hasPrefix]
 unfold markedL
 rw [e]
 have e2 : (35 :: 45 :: q : List UInt8).length - q.length + (runL q).length = (runL q).length + 1 + 1 := by simp only [List.length_cons]; omega
 rw [e2, List.take_succ_cons, List.take_succ_cons, run_take]
theorem marked_plain {m : List UInt8} (h : hasPrefix m [45] = false) : markedL (35 :: m) = 35 :: runL m := by
 have e : trimPrefix ((35 :: m : List UInt8).drop 1) [45] = m := by simp [trimPrefix, h]
 unfold markedL
 rw [e]
 have e2 : (35 :: m : List UInt8).length - m.length + (runL m).length = (runL m).length + 1 := by simp only [List.length_cons]; omega
 rw [e2, List.take_succ_cons, run_take]
theorem minus_split (m : List UInt8) : (∃ q, m = 45 :: q) ∨ hasPrefix m [45] = false := by
 cases m with
 | nil => exact Or.inr (by decide)
 | cons c q =>
  by_cases h : c = 45
  ·exact Or.inl ⟨q, by rw [h]⟩
  ·refine Or.inr ?_
   unfold hasPrefix
   rw [Bool.eq_false_iff]
   intro g
   exact h (List.cons_prefix_cons.1 (List.isPrefixOf_iff_prefix.1 g)).1.symm
theorem marked_gap {m r : List UInt8} {b : UInt8} (hb : Gap b) : markedL (35 :: (m ++ b :: r)) = markedL (35 :: m) := by
 rcases minus_split m with ⟨q, rfl⟩ | h
 ·rw [List.cons_append, marked_minus, marked_minus, run_gap (inRun_gap hb)]
 ·rw [marked_plain h, marked_plain, run_gap (inRun_gap hb)]
  rw [pre_gap]
  ·exact h
  ·rcases hb with rfl | rfl <;> decide
theorem has35 {l : List UInt8} (h : hasPrefix l [35] = true) : ∃ m, l = 35 :: m := by
 unfold hasPrefix at h
 obtain ⟨t, rfl⟩ := List.isPrefixOf_iff_prefix.1 h
 exact ⟨t, rfl⟩
theorem read_gap {l r : List UInt8} {b : UInt8} (hl : l ≠ []) (hb : Gap b) : readL (l ++ b :: r) = readL l := by
 unfold readL
 rw [sign_gap hb]
 cases signL l with
 | some x => rfl
 | none =>
  simp only
  have h35 : hasPrefix (l ++ b :: r) [35] = hasPrefix l [35] := pre_gap (by rcases hb with rfl | rfl <;> decide)
  rw [h35]
  by_cases g : hasPrefix l [35] = true
  ·rw [if_pos g, if_pos g]
   obtain ⟨m, rfl⟩ := has35 g
   rw [List.cons_append, marked_gap hb]
  ·rw [if_neg g, if_neg g]
   have hk : kindOf (l ++ b :: r) = kindOf l := by
    unfold kindOf
    rw [run_gap (inRun_gap hb)]
    cases l with
    | nil => exact absurd rfl hl
    | cons c l => rfl
   unfold readR
   rw [hk, run_gap (inRun_gap hb)]
theorem signs_own : ∀ x, x ∈ signsB → signL x.1.data.toList = some x := by decide
theorem sign_pre {t l : List UInt8} (ht : t <+: l) (h : signL l = none) : signL t = none := by
 unfold signL at *
 rw [List.find?_eq_none] at *
 intro x hx g
 refine h x hx ?_
 unfold hasPrefix at *
 exact List.isPrefixOf_iff_prefix.2 ((List.isPrefixOf_iff_prefix.1 g).trans ht)
theorem marked_pre (m : List UInt8) : markedL (35 :: m) <+: 35 :: m ∧ markedL (markedL (35 :: m)) = markedL (35 :: m) := by
 rcases minus_split m with ⟨q, rfl⟩ | h
 ·rw [marked_minus, marked_minus, run_run]
  exact ⟨List.cons_prefix_cons.2 ⟨rfl, List.cons_prefix_cons.2 ⟨rfl, List.takeWhile_prefix _⟩⟩, rfl⟩
 ·rw [marked_plain h, marked_plain, run_run]
  ·exact ⟨List.cons_prefix_cons.2 ⟨rfl, List.takeWhile_prefix _⟩, rfl⟩
  ·rcases minus_split (runL m) with ⟨q, e⟩ | g
   ·exact absurd (run_mem (l := m) (x := 45) (by rw [e]; exact List.mem_cons_self ..)) (by decide)
   ·exact g
theorem marked_gaps {m : List UInt8} {x : UInt8} (h : x ∈ markedL (35 :: m)) : ¬ Gap x := by
 have hr : ∀ q, x ∈ runL q → ¬ Gap x := fun q hx g => by have := run_mem hx; rw [inRun_gap g] at this; cases this
 have h35 : x = 35 → ¬ Gap x := fun e g => by subst e; rcases g with g | g <;> revert g <;> decide
 have h45 : x = 45 → ¬ Gap x := fun e g => by subst e; rcases g with g | g <;> revert g <;> decide
 rcases minus_split m with ⟨q, rfl⟩ | g
 ·rw [marked_minus] at h
  rcases List.mem_cons.1 h with h | h
  ·exact h35 h
  ·rcases List.mem_cons.1 h with h | h
   ·exact h45 h
   ·exact hr _ h
 ·rw [marked_plain g] at h
  rcases List.mem_cons.1 h with h | h
  ·exact h35 h
  ·exact hr _ h
theorem read_own {l : List UInt8} (hl : l ≠ []) (h : (readL l).2 = 0) : readL (readL l).1.t = ((readL l).1, 0) ∧ (readL l).1.t <+: l ∧ ∀ x, x ∈ (readL l).1.t → ¬ Gap x := by
 cases hs : signL l with
 | some x =>
  have e : readL l = (⟨x.2, x.1.data.toList, false, 0⟩, 0) := by unfold readL; rw [hs]
  have hx : x ∈ signsB := by unfold signL at hs; exact List.mem_of_find?_eq_some hs
  have hp := by unfold signL at hs; exact List.find?_some hs
  rw [e]
  refine ⟨?_, ?_, ?_⟩
  ·unfold readL
   simp only
   rw [signs_own x hx]
  ·unfold hasPrefix at hp
   exact List.isPrefixOf_iff_prefix.1 hp
  ·intro b hb g
   rcases g with rfl | rfl
   ·exact (signs_gap x hx).1 hb
   ·exact (signs_gap x hx).2 hb
 | none =>
  by_cases g : hasPrefix l [35] = true
  ·have e : readL l = numT (markedL l) := by unfold readL; rw [hs]; exact if_pos g
   rw [e] at h ⊢
   rw [numT_ok h]
   obtain ⟨m, rfl⟩ := has35 g
   obtain ⟨hp, hm⟩ := marked_pre m
   refine ⟨?_, hp, fun x hx => marked_gaps hx⟩
   have h35 : hasPrefix (markedL (35 :: m)) [35] = true := by
    rcases minus_split m with ⟨q, rfl⟩ | gm
    ·rw [marked_minus]; rfl
    ·rw [marked_plain gm]; rfl
   have e2 : readL (markedL (35 :: m)) = numT (markedL (markedL (35 :: m))) := by
    unfold readL
    rw [sign_pre hp hs]
    exact if_pos h35
   rw [e2, hm, ← h]
  ·have e : readL l = readR l := by unfold readL; rw [hs]; exact if_neg g
   rw [e] at h ⊢
   have hne : kindOf l ≠ 0 := by
    intro k
    unfold readR at h
    rw [if_pos k] at h
    cases h
   have hrn : runL l ≠ [] := by
    intro k
    cases l with
    | nil => exact hl rfl
    | cons c r => exact hne (kindOf_nil k)
   have hkk : kindOf (runL l) = kindOf l := by
    unfold kindOf
    rw [run_run]
    have : (runL l).take 1 = l.take 1 := by
     cases l with
     | nil => exact absurd rfl hl
     | cons c r =>
      unfold runL at hrn ⊢
      rw [List.takeWhile_cons] at hrn ⊢
      split
      ·rfl
      ·rename_i k
       rw [if_neg k] at hrn
       exact absurd rfl hrn
    rw [this]
   have ht : (readR l).1.t = runL l := by
    unfold readR at h ⊢
    rw [if_neg hne] at h ⊢
    split at h
    ·rename_i g3
     rw [if_pos g3]
     exact numT_ok h
    ·rename_i g3
     rw [if_neg g3]
     split at h
     ·cases h
     ·rename_i g16
      rw [if_neg g16]
   rw [ht]
   refine ⟨?_, List.takeWhile_prefix _, fun x hx gx => by have := run_mem hx; rw [inRun_gap gx] at this; cases this⟩
   have g2 : ¬ hasPrefix (runL l) [35] = true := by
    intro k
    obtain ⟨m, hm⟩ := has35 k
    exact absurd (run_mem (l := l) (x := 35) (by rw [hm]; exact List.mem_cons_self ..)) (by decide)
   have e2 : readL (runL l) = readR (runL l) := by
    unfold readL
    rw [sign_pre (show runL l <+: l from List.takeWhile_prefix _) hs]
    exact if_neg g2
   have e3 : readR (runL l) = readR l := by
    unfold readR
    rw [hkk, run_run]
   rw [e2, e3, ← h]
def Own (y : Tk) : Prop := ∃ c r, y.t = c :: r ∧ c ≠ 10 ∧ ¬ (c = 9 ∨ c = 13 ∨ c = 32) ∧ hasPrefix y.t [45, 45] = false ∧ readL y.t = (y, 0)
theorem fuel : ∀ (f g : Nat) (l : List UInt8) (line : Int) (acc : List (Tk × Int)), l.length < f → l.length < g → lexA f l line acc = lexA g l line acc
 | 0, _, l, _, _, hf, _ => by omega
 | _, 0, l, _, _, _, hg => by omega
 | f + 1, g + 1, [], _, _, _, _ => by unfold lexA; rfl
 | f + 1, g + 1, c :: r, line, acc, hf, hg => by
  simp only [List.length_cons] at hf hg
  unfold lexA
  split
  ·exact fuel f g _ _ _ (by omega) (by omega)
  ·rename_i h10
   split
   ·exact fuel f g _ _ _ (by omega) (by omega)
   ·split
    ·have hip := index_pos (r := r) h10
     split
     ·rfl
     ·exact fuel f g _ _ _ (by rw [List.length_drop, List.length_cons]; omega) (by rw [List.length_drop, List.length_cons]; omega)
    ·split
     ·rename_i hr
      have hle := read_len hr
      split
      ·rfl
      ·exact fuel f g _ _ _ (by rw [List.length_drop, List.length_cons]; omega) (by rw [List.length_drop, List.length_cons]; omega)
     ·rfl
theorem take_own {y : Tk} (h : Own y) (rest : List UInt8) {b : UInt8} (hb : Gap b) (f : Nat) (line : Int) (acc : List (Tk × Int)) (ha : acc.length < 4096) :
  lexA (f + 1) (y.t ++ b :: rest) line acc = lexA f (b :: rest) line (acc ++ [(y, line)]) := by
 obtain ⟨c, r, ht, h10, hbl, hp, hr⟩ := h
 have e1 : readL (y.t ++ b :: rest) = (y, 0) := (read_gap (by rw [ht]; simp) hb).trans hr
 have e2 : hasPrefix (y.t ++ b :: rest) [45, 45] = false := (pre_gap (by rcases hb with rfl | rfl <;> decide)).trans hp
 have e3 : (y.t ++ b :: rest).drop y.t.length = b :: rest := by simp
 obtain ⟨M, hM⟩ : ∃ M, y.t ++ b :: rest = c :: M := ⟨r ++ b :: rest, by rw [ht]; rfl⟩
 rw [hM] at e1 e2 e3 ⊢
 conv => lhs; unfold lexA
 rw [if_neg h10, if_neg hbl, e2, if_neg (by decide), e1]
 simp only [if_true]
 rw [if_neg (by omega), e3]
theorem skip_32 (f : Nat) (rest : List UInt8) (line : Int) (acc : List (Tk × Int)) : lexA (f + 1) (32 :: rest) line acc = lexA f rest line acc := by
 conv => lhs; unfold lexA
 rw [if_neg (by decide), if_pos (by decide)]
def spaced (T : List (Tk × Int)) : List UInt8 := T.flatMap fun x => x.1.t ++ [32]
theorem spaced_snoc (T : List (Tk × Int)) (x : Tk × Int) : spaced (T ++ [x]) = spaced T ++ x.1.t ++ [32] := by simp [spaced]
theorem lexA_spaced : ∀ (T acc : List (Tk × Int)) (f : Nat), (spaced T).length < f → (∀ x, x ∈ T → Own x.1) → acc.length + T.length ≤ 4096 → lexA f (spaced T) 1 acc = .good (acc ++ T.map fun x => (x.1, 1))
 | [], acc, f, hf, _, _ => by
  obtain ⟨g, rfl⟩ : ∃ g, f = g + 1 := ⟨f - 1, by omega⟩
  show lexA (g + 1) [] 1 acc = _
  unfold lexA
  simp
 | x :: T, acc, f, hf, ho, hl => by
  have e : spaced (x :: T) = x.1.t ++ 32 :: spaced T := by simp [spaced]
  have hx := ho x (List.mem_cons_self ..)
  rw [e, List.length_append, List.length_cons] at hf
  rw [e]
  simp only [List.length_cons] at hl
  obtain ⟨g, rfl⟩ : ∃ g, f = g + 1 + 1 := ⟨f - 2, by omega⟩
  rw [take_own hx _ (Or.inl rfl) _ _ _ (by omega), skip_32]
  have hpos : 1 ≤ x.1.t.length := by
   obtain ⟨c, r, ht, _⟩ := hx
   rw [ht]
   simp
  rw [lexA_spaced T _ g (by omega) (fun y hy => ho y (List.mem_cons_of_mem _ hy)) (by rw [List.length_append, List.length_singleton]; omega)]
  simp
theorem lexL_spaced {T : List (Tk × Int)} (ho : ∀ x, x ∈ T → Own x.1) (hl : T.length ≤ 4096) : lexL (spaced T) = .good (T.map fun x => (x.1, 1)) := by
 unfold lexL
 rw [lexA_spaced T [] _ (by omega) ho (by simpa using hl)]
 simp
theorem lexA_bad : ∀ (f : Nat) (l : List UInt8) (line : Int) (acc : List (Tk × Int)) (e k : Int), lexA f l line acc = .bad e k → e ≠ 0
 | 0, l, line, acc, e, k, h => by unfold lexA at h; cases h
 | f + 1, [], line, acc, e, k, h => by unfold lexA at h; cases h
 | f + 1, c :: r, line, acc, e, k, h => by
  unfold lexA at h
  split at h
  ·exact lexA_bad f _ _ _ _ _ h
  ·split at h
   ·exact lexA_bad f _ _ _ _ _ h
   ·split at h
    ·split at h
     ·cases h
     ·exact lexA_bad f _ _ _ _ _ h
    ·split at h
     ·split at h
      ·cases h
       decide
      ·exact lexA_bad f _ _ _ _ _ h
     ·rename_i g
      cases h
      exact g
theorem lexL_bad {l : List UInt8} {e k : Int} (h : lexL l = .bad e k) : e ≠ 0 := lexA_bad _ _ _ _ _ _ h
def bytesT (T : List (Tk × Int)) : Nat := (T.map fun x => x.1.t.length).sum
theorem own_of {c : UInt8} {r : List UInt8} (h10 : c ≠ 10) (hbl : ¬ (c = 9 ∨ c = 13 ∨ c = 32)) (hp : ¬ hasPrefix (c :: r) [45, 45] = true) (h : (readL (c :: r)).2 = 0) : Own (readL (c :: r)).1 := by
 obtain ⟨h1, h2, -⟩ := read_own (List.cons_ne_nil c r) h
 have hl := read_len h
 cases ht : (readL (c :: r)).1.t with
 | nil => rw [ht] at hl; simp at hl
 | cons d q =>
  obtain ⟨u, hu⟩ := h2
  rw [ht] at hu
  obtain rfl : d = c := by simpa using (List.cons.inj hu).1
  refine ⟨d, q, ht, h10, hbl, ?_, h1⟩
  rw [Bool.eq_false_iff]
  intro g
  refine hp ?_
  unfold hasPrefix at *
  refine List.isPrefixOf_iff_prefix.2 ((List.isPrefixOf_iff_prefix.1 g).trans ⟨u, ?_⟩)
  rw [ht, hu]
theorem lexA_own : ∀ (f : Nat) (l : List UInt8) (line : Int) (acc T : List (Tk × Int)) (B : Nat), (∀ x, x ∈ acc → Own x.1) → acc.length ≤ 4096 → bytesT acc + l.length ≤ B → lexA f l line acc = .good T → (∀ x, x ∈ T → Own x.1) ∧ T.length ≤ 4096 ∧ bytesT T ≤ B
 | 0, l, line, acc, T, B, ha, hn, hB, h => by unfold lexA at h; cases h; exact ⟨ha, hn, by omega⟩
 | f + 1, [], line, acc, T, B, ha, hn, hB, h => by unfold lexA at h; cases h; exact ⟨ha, hn, by simpa using hB⟩
 | f + 1, c :: r, line, acc, T, B, ha, hn, hB, h => by
  simp only [List.length_cons] at hB
  unfold lexA at h
  split at h
  ·exact lexA_own f _ _ _ _ _ ha hn (by omega) h
  ·rename_i h10
   split at h
   ·exact lexA_own f _ _ _ _ _ ha hn (by omega) h
   ·rename_i hbl
    split at h
    ·split at h
     ·cases h; exact ⟨ha, hn, by omega⟩
     ·exact lexA_own f _ _ _ _ _ ha hn (by rw [List.length_drop, List.length_cons]; omega) h
    ·rename_i hp
     split at h
     ·rename_i hr
      split at h
      ·cases h
      ·have hle := read_len hr
       refine lexA_own f _ _ _ _ _ (fun x hx => ?_) (by rw [List.length_append, List.length_singleton]; omega) ?_ h
       ·rcases List.mem_append.1 hx with hx | hx
        ·exact ha x hx
        ·rw [List.mem_singleton] at hx
         subst hx
         exact own_of h10 hbl hp hr
       ·have e : bytesT (acc ++ [((readL (c :: r)).1, line)]) = bytesT acc + (readL (c :: r)).1.t.length := by simp [bytesT]
        rw [e, List.length_drop, List.length_cons]
        simp only [List.length_cons] at hle
        omega
     ·cases h
theorem lexL_own {l : List UInt8} {T : List (Tk × Int)} (h : lexL l = .good T) : (∀ x, x ∈ T → Own x.1) ∧ T.length ≤ 4096 ∧ bytesT T ≤ l.length :=
 lexA_own _ _ _ _ _ _ (fun x hx => by cases hx) (by simp) (by simp [bytesT]) h
theorem bytes_mem : ∀ {T : List (Tk × Int)} {x : Tk × Int}, x ∈ T → x.1.t.length ≤ bytesT T
 | y :: T, x, h => by
  rcases List.mem_cons.1 h with rfl | h
  ·simp [bytesT]
  ·have := bytes_mem h
   simp only [bytesT, List.map_cons, List.sum_cons] at *
   omega
theorem bytes_cons (x : Tk × Int) (T : List (Tk × Int)) : bytesT (x :: T) = x.1.t.length + bytesT T := by simp [bytesT]
theorem spaced_len : ∀ (T : List (Tk × Int)), (spaced T).length = bytesT T + T.length
 | [] => rfl
 | x :: T => by
  have e : spaced (x :: T) = x.1.t ++ 32 :: spaced T := by simp [spaced]
  rw [e, List.length_append, List.length_cons, spaced_len T, bytes_cons, List.length_cons]
  omega
theorem len_bytes : ∀ (T : List (Tk × Int)), (∀ x, x ∈ T → Own x.1) → T.length ≤ bytesT T
 | [], _ => Nat.zero_le _
 | x :: T, h => by
  have h1 := len_bytes T fun y hy => h y (List.mem_cons_of_mem _ hy)
  obtain ⟨c, r, ht, _⟩ := h x (List.mem_cons_self ..)
  rw [bytes_cons, ht, List.length_cons, List.length_cons]
  omega
def Box3 (w : World) (p0 p1 p2 : Nat) (vc vb : Value) (er ln : Int) : Prop :=
 w.cell? ⟨p0, 0, none⟩ = some vc ∧ w.cell? ⟨p0, 1, none⟩ = some vb ∧ w.cell? ⟨p1, 0, none⟩ = some (.int .i64 er) ∧ w.cell? ⟨p2, 0, none⟩ = some (.int .i64 ln) ∧ w.frozen? ⟨p0, 0, none⟩ = false ∧ w.frozen? ⟨p0, 1, none⟩ = false ∧ w.frozen? ⟨p1, 0, none⟩ = false ∧ w.frozen? ⟨p2, 0, none⟩ = false
theorem catch_fault (p0 : Nat) (vc vb : Value) (e0 l0 er ln : Int) (older : List PanicEntry) (w : World) (hb : Box3 w p0 (p0 + 1) (p0 + 2) vc vb e0 l0) (hl : p0 + 2 < w.heap.size) :
  CallsD Tryz.prog 24 #[.pointer (some ⟨p0, 0, none⟩), .pointer (some ⟨p0 + 1, 0, none⟩), .pointer (some ⟨p0 + 2, 0, none⟩)] (.panicking ({ v := .iface 59 (.agg #[.int .i64 er, .int .i64 ln]), recovered := false } :: older)) w fun e u' w' =>
   e = .returned (.tuple #[]) ∧ u' = .panicking ({ v := .iface 59 (.agg #[.int .i64 er, .int .i64 ln]), recovered := true } :: older) ∧ Box3 w' p0 (p0 + 1) (p0 + 2) (.slice none 0 0) (.slice none 0 0) er ln ∧ Below p0 w w' := by
 obtain ⟨c0, c1, c2, c3, z0, z1, z2, z3⟩ := hb
 refine callsD_of_wpS Tryz.func24 rfl fun c₀ cs hu => ?_
 apply wpS_seq
 apply wpS_region
 simp [wpOpsS, go_sem, recoverD, hu, Tryz.ntmps24, Exit.thenS]
 apply wpS_seq
 apply wpS_region
 simp [wpOpsS, go_sem, Exit.thenS]
 refine wpS_cond (t := true) (by simp [Act.eval, Array.replicate]) ?_
 simp only [if_true]
 refine wpS_of_wp ?_
 have hy := (Below.refl w.heap.size w).alloc Nr (.cells #[.int .i64 er, .int .i64 ln] 59)
 have hB := BoxW.alloc w #[.int .i64 er, .int .i64 ln] 59
 have k0 := later' hy c0
 have k1 := later' hy c1
 have k2 := later' hy c2
 have k3 := later' hy c3
 have f0 : (w.alloc (.cells #[.int .i64 er, .int .i64 ln] 59)).frozen? ⟨p0, 0, none⟩ = false := (World.frozen?_of_block (w := w) (hy.block _ (by simp; omega))).trans z0
 have f1 : (w.alloc (.cells #[.int .i64 er, .int .i64 ln] 59)).frozen? ⟨p0, 1, none⟩ = false := (World.frozen?_of_block (w := w) (hy.block _ (by simp; omega))).trans z1
 have f2 : (w.alloc (.cells #[.int .i64 er, .int .i64 ln] 59)).frozen? ⟨p0 + 1, 0, none⟩ = false := (World.frozen?_of_block (w := w) (hy.block _ (by simp; omega))).trans z2
 have f3 : (w.alloc (.cells #[.int .i64 er, .int .i64 ln] 59)).frozen? ⟨p0 + 2, 0, none⟩ = false := (World.frozen?_of_block (w := w) (hy.block _ (by simp; omega))).trans z3
 have b0 := hB.1 0 _ rfl
 have b1 := hB.1 1 _ rfl
 have hta : ∀ W : World, (Instr.typeAssert (.iface 59 (.agg #[.int .i64 er, .int .i64 ln])) 20 59 false).run Tryz.prog W = .ok (.agg #[.int .i64 er, .int .i64 ln]) W := fun W => by kernel_rfl
 clear hB c0 c1 c2 c3 z0 z1 z2 z3
 simp [Array.replicate, List.replicate]
 go_upto_region 3 with fail
 generalize (w.alloc (.cells #[.int .i64 er, .int .i64 ln] 59)) = W1 at *
 have n0 : ¬ w.heap.size = p0 := by omega
 have n1 : ¬ w.heap.size = p0 + 1 := by omega
 have n2 : ¬ w.heap.size = p0 + 2 := by omega
 have n3 : ¬ p0 = w.heap.size := by omega
 have n4 : ¬ p0 + 1 = w.heap.size := by omega
 have n5 : ¬ p0 + 2 = w.heap.size := by omega
 go_region
 go_wp2_with fail
 have hbel : Below p0 w W1 := ⟨hy.os, hy.tape, hy.output, hy.size, fun k hk => hy.block k (by omega)⟩
 have hF : Box3 ((((W1.setCell ⟨p0, 0, none⟩ (.slice none 0 0)).setCell ⟨p0, 1, none⟩ (.slice none 0 0)).setCell ⟨p0 + 1, 0, none⟩ (.int .i64 er)).setCell ⟨p0 + 2, 0, none⟩ (.int .i64 ln)).drew p0 (p0 + 1) (p0 + 2) (.slice none 0 0) (.slice none 0 0) er ln ∧ Below p0 w ((((W1.setCell ⟨p0, 0, none⟩ (.slice none 0 0)).setCell ⟨p0, 1, none⟩ (.slice none 0 0)).setCell ⟨p0 + 1, 0, none⟩ (.int .i64 er)).setCell ⟨p0 + 2, 0, none⟩ (.int .i64 ln)).drew := by
  refine ⟨⟨?_, ?_, ?_, ?_, ?_, ?_, ?_, ?_⟩, (below_new (below_new (below_new (below_new hbel _ _ _ Nr) _ _ _ Nr) _ _ _ (by omega)) _ _ _ (by omega)).drew⟩
  ·exact (at_far _ _ _ _ _ _ (by omega)).trans ((at_far _ _ _ _ _ _ (by omega)).trans ((at_oth _ _ _ _ _ (by decide)).trans (at_sam _ k0)))
  ·exact (at_far _ _ _ _ _ _ (by omega)).trans ((at_far _ _ _ _ _ _ (by omega)).trans (at_sam _ ((at_oth _ _ _ _ _ (by decide)).trans k1)))
  ·exact (at_far _ _ _ _ _ _ (by omega)).trans (at_sam _ ((at_far _ _ _ _ _ _ (by omega)).trans ((at_far _ _ _ _ _ _ (by omega)).trans k2)))
  ·exact at_sam _ ((at_far _ _ _ _ _ _ (by omega)).trans ((at_far _ _ _ _ _ _ (by omega)).trans ((at_far _ _ _ _ _ _ (by omega)).trans k3)))
  ·exact (by simpa using f0)
  ·exact (by simpa using f1)
  ·exact (by simpa using f2)
  ·exact (by simpa using f3)
 generalize ((((W1.setCell ⟨p0, 0, none⟩ (.slice none 0 0)).setCell ⟨p0, 1, none⟩ (.slice none 0 0)).setCell ⟨p0 + 1, 0, none⟩ (.int .i64 er)).setCell ⟨p0 + 2, 0, none⟩ (.int .i64 ln)).drew = W2 at *
 have HF := Hd hF
 clear hF hta k0 k1 k2 k3 f0 f1 f2 f3 b0 b1 hbel n0 n1 n2 n3 n4 n5 hy
 cases c₀
 simp_all [bodyPostS, results, Tryz.results24]
 exact HF.out
theorem catch_none (p0 : Nat) (w : World) :
  CallsD Tryz.prog 24 #[.pointer (some ⟨p0, 0, none⟩), .pointer (some ⟨p0 + 1, 0, none⟩), .pointer (some ⟨p0 + 2, 0, none⟩)] .returning w fun e u' w' => e = .returned (.tuple #[]) ∧ u' = .returning ∧ w' = w := by
 refine callsD_of_wpS Tryz.func24 rfl fun c₀ cs hu => ?_
 apply wpS_seq
 apply wpS_region
 simp [wpOpsS, go_sem, recoverD, hu, Tryz.ntmps24, Exit.thenS]
 apply wpS_seq
 apply wpS_region
 simp [wpOpsS, go_sem, Exit.thenS]
 refine wpS_cond (t := false) (by simp [Act.eval, Array.replicate]) ?_
 simp only [Bool.false_eq_true, if_false]
 refine wpS_of_wp (wp_skip ?_)
 cases c₀
 simp_all [bodyPostS, results, Tryz.results24]
structure St where
 r : List Tok
 e : Int
 ln : Int
def kindL : List Tok → Int
 | [] => 0
 | y :: _ => y.1.k
def seesL (t : Nm) : List Tok → Bool
 | [] => false
 | y :: _ => decide ((y.1.k = 5 ∨ y.1.k = 6) ∧ y.1.t = t)
def St.bad (ll er : Int) (s : St) : St :=
 if s.e ≠ 0 then s else
 match s.r with
 | [] => ⟨[], 17, ll⟩
 | y :: r => ⟨y :: r, er, y.2⟩
def St.next (s : St) : St := ⟨s.r.tail, s.e, s.ln⟩
def needD (ll : Int) (t : Nm) (s : St) : St := if s.e = 0 ∧ seesL t s.r = true then s.next else s.bad ll 3
def tokD (ll k : Int) (s : St) : Tok × St := if s.e = 0 ∧ kindL s.r = k then (tokO s.r, s.next) else (tokO [], s.bad ll 3)
def loopN (ll : Int) : Nat → Bool → List Nm → St → List Nm × St
 | 0, _, acc, s => (acc, s)
 | n + 1, least, acc, s => if s.e = 0 ∧ (least = true ∨ kindL s.r = 1) then loopN ll n false (acc ++ [(tokD ll 1 s).1.1.t]) (tokD ll 1 s).2 else (acc, s)
def namesD (ll : Int) (least : Bool) (s : St) : List Nm × St := loopN ll (s.r.length + 2) least [] s
abbrev Dp (α : Type) := St → α × St
def bindD (ll : Int) (ex : Dp Ex) : Dp Bnd := fun s =>
 (((namesD ll true s).1.headD [], (namesD ll true s).1.tail, (ex (needD ll [61] (namesD ll true s).2)).1), (ex (needD ll [61] (namesD ll true s).2)).2)
def moreD {α : Type} (item : Dp α) : Nat → List α → Dp (List α)
 | 0, acc => fun s => (acc, s)
 | n + 1, acc => fun s => if s.e = 0 ∧ seesL [59] s.r = true then moreD item n (acc ++ [(item s.next).1]) (item s.next).2 else (acc, s)
def someD {α : Type} (item : Dp α) : Dp (List α) := fun s => moreD item ((item s).2.r.length + 1) [(item s).1] (item s).2
def atomD (ll : Int) (ex : Dp Ex) : Dp Ex := fun s =>
 if kindL s.r = 1 then (.leaf 1 (tokD ll 1 s).1.1.t, (tokD ll 1 s).2)
 else if kindL s.r = 2 then (.leaf 2 (tokD ll 2 s).1.1.t, (tokD ll 2 s).2)
 else if kindL s.r = 7 then (.leaf 5 (tokD ll 7 s).1.1.t, (tokD ll 7 s).2)
 else if kindL s.r = 3 then (.num (tokD ll 3 s).1.1.f (tokD ll 3 s).1.1.x, (tokD ll 3 s).2)
 else ((ex s.next).1, needD ll [41] (ex s.next).2)
def begins (r : List Tok) : Prop := kindL r = 1 ∨ kindL r = 2 ∨ kindL r = 7 ∨ kindL r = 3 ∨ seesL [40] r = true
instance (r : List Tok) : Decidable (begins r) := inferInstanceAs (Decidable (_ ∨ _))
def atomsD (ll : Int) (ex : Dp Ex) : Nat → List Ex → Dp (List Ex)
 | 0, acc => fun s => (acc, s)
 | n + 1, acc => fun s => if s.e = 0 ∧ begins s.r then atomsD ll ex n (acc ++ [(atomD ll ex s).1]) (atomD ll ex s).2 else (acc, s)
def blankX : Ex := .leaf 0 []
def rowX (k : Int) : List Ex → Ex
 | [] => blankX
 | [x] => x
 | x :: y :: xs => if k = 2 ∨ k = 7 then x.withKids (y :: xs) else .mk 4 [] false 0 [] (x :: y :: xs) [] []
def rowD (ll : Int) (ex : Dp Ex) : Dp Ex := fun s =>
 (rowX (kindL s.r) (atomsD ll ex (s.r.length + 1) [] s).1, if (atomsD ll ex (s.r.length + 1) [] s).1 = [] then (atomsD ll ex (s.r.length + 1) [] s).2.bad ll 3 else (atomsD ll ex (s.r.length + 1) [] s).2)
def startsL (r : List Tok) : Prop := kindL r = 1 ∨ kindL r = 2 ∨ kindL r = 3 ∨ kindL r = 7 ∨ seesL [108, 101, 116] r = true ∨ seesL [99, 97, 115, 101] r = true ∨ seesL [40] r = true ∨ seesL [92] r = true
instance (r : List Tok) : Decidable (startsL r) := inferInstanceAs (Decidable (_ ∨ _))
def altD (ll : Int) (ex : Dp Ex) : Dp Alt := fun s =>
 if kindL s.r = 2 then
  ((0, (tokD ll 2 s).1.1.t, false, 0, (namesD ll false (tokD ll 2 s).2).1, (ex (needD ll [45, 62] (namesD ll false (tokD ll 2 s).2).2)).1), (ex (needD ll [45, 62] (namesD ll false (tokD ll 2 s).2).2)).2)
 else if kindL s.r = 3 then
  ((1, [], (tokD ll 3 s).1.1.f, (tokD ll 3 s).1.1.x, [], (ex (needD ll [45, 62] (tokD ll 3 s).2)).1), (ex (needD ll [45, 62] (tokD ll 3 s).2)).2)
 else
  ((2, (tokD ll 1 s).1.1.t, false, 0, [], (ex (needD ll [45, 62] (tokD ll 1 s).2)).1), (ex (needD ll [45, 62] (tokD ll 1 s).2)).2)
def letD (ll : Int) (ex : Dp Ex) : Dp Ex := fun s =>
 (.mk 6 [] false 0 [] [(ex (needD ll [105, 110] (someD (bindD ll ex) s).2)).1] (someD (bindD ll ex) s).1 [], (ex (needD ll [105, 110] (someD (bindD ll ex) s).2)).2)
def ofD (ll : Int) (s : St) : St := needD ll [123] (needD ll [111, 102] s)
def caseD (ll : Int) (ex : Dp Ex) : Dp Ex := fun s =>
 if (ofD ll (ex s).2).e = 0 ∧ seesL [125] (ofD ll (ex s).2).r = true then (.mk 7 [] false 0 [] [(ex s).1] [] [], (ofD ll (ex s).2).next)
 else (.mk 7 [] false 0 [] [(ex s).1] [] (someD (altD ll ex) (ofD ll (ex s).2)).1, needD ll [125] (someD (altD ll ex) (ofD ll (ex s).2)).2)
def lamD (ll : Int) (ex : Dp Ex) : Dp Ex := fun s =>
 (.mk 8 [] false 0 (namesD ll true s).1 [(ex (needD ll [45, 62] (namesD ll true s).2)).1] [] [], (ex (needD ll [45, 62] (namesD ll true s).2)).2)
def rowsD (ll : Int) (ex : Dp Ex) : Dp Ex := fun s =>
 if (rowD ll ex s).2.e = 0 ∧ kindL (rowD ll ex s).2.r = 4 then
  (.mk 5 (tokD ll 4 (rowD ll ex s).2).1.1.t false 0 [] [(rowD ll ex s).1, (rowD ll ex (tokD ll 4 (rowD ll ex s).2).2).1] [] [], (rowD ll ex (tokD ll 4 (rowD ll ex s).2).2).2)
 else rowD ll ex s
def exprD (ll : Int) : Nat → Dp Ex
 | 0 => fun s => if s.e ≠ 0 then (blankX, s) else (blankX, (if startsL s.r then s.bad ll 12 else s).bad ll 3)
 | k + 1 => fun s =>
  if s.e ≠ 0 then (blankX, s)
  else if seesL [108, 101, 116] s.r = true then letD ll (exprD ll k) s.next
  else if seesL [99, 97, 115, 101] s.r = true then caseD ll (exprD ll k) s.next
  else if seesL [92] s.r = true then lamD ll (exprD ll k) s.next
  else rowsD ll (exprD ll k) s
def declD (ll : Int) (s : St) : St := if kindL s.r = 3 ∧ ((tokO s.r).1.f = true ∨ 24 < (tokO s.r).1.x) then s.bad ll 1 else s
def declsD (ll : Int) : Nat → List (Nm × Int) → Dp (List (Nm × Int))
 | 0, acc => fun s => (acc, s)
 | n + 1, acc => fun s => if s.e = 0 ∧ kindL s.r = 2 then declsD ll n (acc ++ [((tokD ll 2 s).1.1.t, (tokD ll 3 (declD ll (tokD ll 2 s).2)).1.1.x)]) (tokD ll 3 (declD ll (tokD ll 2 s).2)).2 else (acc, s)
def dataD (ll : Int) : Dp (List (Nm × Int)) := fun s => ((declsD ll (s.r.length + 1) [] s).1, needD ll [59] (declsD ll (s.r.length + 1) [] s).2)
def moduleD (ll : Int) : Nat → List (Nm × Int) → List Bnd → Dp Md
 | 0, cs, bs => fun s => ((cs, bs), s)
 | n + 1, cs, bs => fun s =>
  if s.e = 0 ∧ s.r ≠ [] then
   (if seesL [100, 97, 116, 97] s.r = true then moduleD ll n (cs ++ (dataD ll s.next).1) bs (dataD ll s.next).2
    else moduleD ll n cs (bs ++ [(bindD ll (exprD ll 200) s).1]) (needD ll [59] (bindD ll (exprD ll 200) s).2))
  else ((cs, bs), s)
def Dead {α : Type} (d : Dp α) : Prop := ∀ s, s.e ≠ 0 → (d s).2.e = s.e ∧ (d s).2.ln = s.ln
theorem bad_dead {ll er : Int} {s : St} (h : s.e ≠ 0) : s.bad ll er = s := by unfold St.bad; rw [if_pos h]
theorem need_dead {ll : Int} {t : Nm} {s : St} (h : s.e ≠ 0) : needD ll t s = s := by unfold needD; rw [if_neg (fun g => h g.1), bad_dead h]
theorem tok_dead {ll k : Int} {s : St} (h : s.e ≠ 0) : tokD ll k s = (tokO [], s) := by unfold tokD; rw [if_neg (fun g => h g.1), bad_dead h]
theorem names_dead {ll : Int} {b : Bool} {s : St} (h : s.e ≠ 0) : namesD ll b s = ([], s) := by unfold namesD loopN; rw [if_neg (fun g => h g.1)]
theorem bind_dead {ll : Int} {ex : Dp Ex} (hx : Dead ex) : Dead (bindD ll ex) := fun s h => by
 unfold bindD; rw [names_dead h, need_dead h]; exact hx s h
theorem more_dead {α : Type} {item : Dp α} (n : Nat) (acc : List α) {s : St} (h : s.e ≠ 0) : moreD item n acc s = (acc, s) := by
 cases n with
 | zero => rfl
 | succ n => unfold moreD; rw [if_neg (fun g => h g.1)]
theorem some_dead {α : Type} {item : Dp α} (hx : Dead item) : Dead (someD item) := fun s h => by
 have h1 := hx s h
 unfold someD
 rw [more_dead _ _ (by rw [h1.1]; exact h)]
 exact h1
theorem atoms_dead {ll : Int} {ex : Dp Ex} (n : Nat) (acc : List Ex) {s : St} (h : s.e ≠ 0) : atomsD ll ex n acc s = (acc, s) := by
 cases n with
 | zero => rfl
 | succ n => unfold atomsD; rw [if_neg (fun g => h g.1)]
theorem expr_dead {ll : Int} : ∀ k, Dead (exprD ll k)
 | 0 => fun s h => by unfold exprD; rw [if_pos h]; exact ⟨rfl, rfl⟩
 | k + 1 => fun s h => by unfold exprD; rw [if_pos h]; exact ⟨rfl, rfl⟩
theorem alt_dead {ll : Int} {ex : Dp Ex} (hx : Dead ex) : Dead (altD ll ex) := fun s h => by
 unfold altD
 split
 ·rw [tok_dead h, names_dead h, need_dead h]; exact hx s h
 split
 ·rw [tok_dead h, need_dead h]; exact hx s h
 ·rw [tok_dead h, need_dead h]; exact hx s h
def lastOf : Int → List Tok → Int
 | l, [] => l
 | _, y :: r => lastOf y.2 r
def Tv (y : Tok) : Prop := ∃ c t, y.1.t = c :: t ∧ TkOk y.1 c
def Tvs (r : List Tok) : Prop := ∀ x, x ∈ r → Tv x
theorem Tvs.tail {y : Tok} {r : List Tok} (h : Tvs (y :: r)) : Tvs r := fun x hx => h x (List.mem_cons_of_mem _ hx)
def AgS {α : Type} (ll : Int) (o : Out α) (s : St) : Prop :=
 match o with
 | .ok _ l r => s = ⟨r, 0, 0⟩ ∧ lastOf l r = ll ∧ Tvs r
 | .bad e ln => e ≠ 0 ∧ s.e = e ∧ s.ln = ln
def Ag {α : Type} (ll : Int) (o : Out α) (d : α × St) : Prop :=
 match o with
 | .ok a l r => d = (a, ⟨r, 0, 0⟩) ∧ lastOf l r = ll ∧ Tvs r
 | .bad e ln => e ≠ 0 ∧ d.2.e = e ∧ d.2.ln = ln
def Sim {α : Type} (ll : Int) (p : Par α) (d : Dp α) : Prop := ∀ last rest, lastOf last rest = ll → Tvs rest → Ag ll (p last rest) (d ⟨rest, 0, 0⟩)
theorem kind_shape {k : Int} (h5 : k ≠ 5) (h6 : k ≠ 6) (rest : List Tok) : kindL rest = k ↔ shapeL rest = (k, []) := by
 cases rest with
 | nil => simp [kindL, shapeL]
 | cons y r =>
  simp only [kindL, shapeL, shapeT]
  split
  ·rename_i h
   constructor
   ·intro e; rw [e] at h; rcases h with h | h; exact absurd h h5; exact absurd h h6
   ·intro e; rw [(Prod.mk.inj e).1] at h; rcases h with h | h; exact absurd h h5; exact absurd h h6
  ·simp
theorem kName (rest : List Tok) : kindL rest = 1 ↔ shapeL rest = sName := kind_shape (by decide) (by decide) rest
theorem kCon (rest : List Tok) : kindL rest = 2 ↔ shapeL rest = sCon := kind_shape (by decide) (by decide) rest
theorem kNum (rest : List Tok) : kindL rest = 3 ↔ shapeL rest = sNum := kind_shape (by decide) (by decide) rest
theorem kSign (rest : List Tok) : kindL rest = 4 ↔ shapeL rest = sSign := kind_shape (by decide) (by decide) rest
theorem kBack (rest : List Tok) : kindL rest = 7 ↔ shapeL rest = sBack := kind_shape (by decide) (by decide) rest
theorem sees_word {c : UInt8} {u : Nm} (hc : Sm c) {rest : List Tok} (hv : Tvs rest) : seesL (c :: u) rest = true ↔ shapeL rest = (5, c :: u) := by
 cases rest with
 | nil => simp [seesL, shapeL]
 | cons y r =>
  obtain ⟨c', u', e, ok⟩ := hv y (List.mem_cons_self ..)
  simp only [seesL, shapeL, shapeT, decide_eq_true_eq]
  constructor
  ·rintro ⟨hk, ht⟩
   rw [if_pos hk, ht]
   rcases hk with hk | hk
   ·rw [hk]
   ·rw [e] at ht
    cases ht
    cases ok with
    | name k _ _ _ _ => rw [k] at hk; cases hk
    | word k _ _ _ _ => rw [hk] at k; rcases k with k | k <;> cases k
    | con k _ _ _ => rw [k] at hk; cases hk
    | num k _ => rw [k] at hk; cases hk
    | sign k ns _ _ _ _ _ => exact absurd hc ns
  ·intro h
   split at h
   ·rename_i hk
    exact ⟨hk, (Prod.mk.inj h).2⟩
   ·cases (Prod.mk.inj h).2
theorem sees_sign {c : UInt8} {u : Nm} (hc : ¬ Sm c) {rest : List Tok} (hv : Tvs rest) : seesL (c :: u) rest = true ↔ shapeL rest = (6, c :: u) := by
 cases rest with
 | nil => simp [seesL, shapeL]
 | cons y r =>
  obtain ⟨c', u', e, ok⟩ := hv y (List.mem_cons_self ..)
  simp only [seesL, shapeL, shapeT, decide_eq_true_eq]
  constructor
  ·rintro ⟨hk, ht⟩
   rw [if_pos hk, ht]
   rcases hk with hk | hk
   ·rw [e] at ht
    cases ht
    cases ok with
    | name k _ _ _ _ => rw [k] at hk; cases hk
    | word k s _ _ _ => exact absurd s hc
    | con k _ _ _ => rw [k] at hk; cases hk
    | num k _ => rw [k] at hk; cases hk
    | sign k ns _ _ _ _ _ => rw [hk] at k; rcases k with k | k <;> cases k
   ·rw [hk]
  ·intro h
   split at h
   ·rename_i hk
    exact ⟨hk, (Prod.mk.inj h).2⟩
   ·cases (Prod.mk.inj h).2
theorem refuse_ag {α : Type} {ll er last : Int} {rest : List Tok} (her : er ≠ 0) (hl : lastOf last rest = ll) : AgS ll (refuseO er last rest : Out α) (St.bad ll er ⟨rest, 0, 0⟩) := by
 unfold St.bad
 cases rest with
 | nil => exact ⟨by decide, rfl, hl.symm⟩
 | cons y r => exact ⟨her, rfl, rfl⟩
theorem want_ag {ll last : Int} {rest : List Tok} {sh : Sh} {t : Nm} (h0 : sh.1 ≠ 0) (hs : seesL t rest = true ↔ shapeL rest = sh) (hl : lastOf last rest = ll) (hv : Tvs rest) : AgS ll (wantO sh last rest) (needD ll t ⟨rest, 0, 0⟩) := by
 unfold wantO needD
 by_cases g : shapeL rest = sh
 ·rw [if_pos g, if_pos ⟨rfl, hs.2 g⟩]
  obtain ⟨y, r, rfl⟩ := take_of g h0
  exact ⟨rfl, hl, hv.tail⟩
 ·rw [if_neg g, if_neg (fun h => g (hs.1 h.2))]
  exact refuse_ag (by decide) hl
theorem AgS.of {α β : Type} {ll : Int} {o : Out α} {s : St} (h : AgS ll o s) {f : α → Int → List Tok → Out β} {d : β × St} (hok : ∀ a l r, o = .ok a l r → s = ⟨r, 0, 0⟩ → lastOf l r = ll → Tvs r → Ag ll (f a l r) d) (hbad : s.e ≠ 0 → d.2.e = s.e ∧ d.2.ln = s.ln) : Ag ll (o.bind f) d := by
 cases o with
 | ok a l r => exact hok a l r rfl h.1 h.2.1 h.2.2
 | bad e ln =>
  obtain ⟨h1, h2, h3⟩ := h
  have := hbad (by rw [h2]; exact h1)
  exact ⟨h1, this.1.trans h2, this.2.trans h3⟩
theorem Ag.st {α : Type} {ll : Int} {o : Out α} {d : α × St} (h : Ag ll o d) : AgS ll o d.2 := by
 cases o with
 | ok a l r => rw [h.1]; exact ⟨rfl, h.2⟩
 | bad e ln => exact h
theorem Ag.of {α β : Type} {ll : Int} {o : Out α} {d0 : α × St} (h : Ag ll o d0) {f : α → Int → List Tok → Out β} {d : β × St} (hok : ∀ a l r, o = .ok a l r → d0 = (a, ⟨r, 0, 0⟩) → lastOf l r = ll → Tvs r → Ag ll (f a l r) d) (hbad : d0.2.e ≠ 0 → d.2.e = d0.2.e ∧ d.2.ln = d0.2.ln) : Ag ll (o.bind f) d := by
 cases o with
 | ok a l r => exact hok a l r rfl h.1 h.2.1 h.2.2
 | bad e ln => exact AgS.of (α := α) (o := .bad e ln) h.st (fun _ _ _ q => by cases q) hbad
theorem Ag.done {α : Type} {ll : Int} {a : α} {l : Int} {r : List Tok} {d : α × St} (hd : d = (a, ⟨r, 0, 0⟩)) (hl : lastOf l r = ll) (hv : Tvs r) : Ag ll (.ok a l r) d := ⟨hd, hl, hv⟩
theorem AgS.ag {α : Type} {ll : Int} {e ln : Int} {s : St} {d : α × St} (h : AgS ll (.bad e ln : Out α) s) (hd : d.2 = s) : Ag ll (.bad e ln) d := by
 obtain ⟨h1, h2, h3⟩ := h
 exact ⟨h1, by rw [hd]; exact h2, by rw [hd]; exact h3⟩
theorem refuse_Ag {α : Type} {ll er last : Int} {rest : List Tok} (her : er ≠ 0) (hl : lastOf last rest = ll) {d : α × St} (hd : d.2 = St.bad ll er ⟨rest, 0, 0⟩) : Ag ll (refuseO er last rest) d := by
 have h := refuse_ag (α := α) her hl
 rw [refuseO_eq] at h ⊢
 exact h.ag hd
theorem tok_ok {ll k : Int} {rest : List Tok} (h0 : k ≠ 0) (hk : kindL rest = k) : ∃ y r, rest = y :: r ∧ tokD ll k ⟨rest, 0, 0⟩ = (y, ⟨r, 0, 0⟩) := by
 cases rest with
 | nil => exact absurd hk.symm h0
 | cons y r => exact ⟨y, r, rfl, by unfold tokD; rw [if_pos ⟨rfl, hk⟩]; rfl⟩
theorem names_acc : ∀ (r : List Tok) (l : Int) (acc : List Nm), namesO l r acc = (acc ++ (namesO l r []).1, (namesO l r []).2)
 | [], l, acc => by simp [namesO]
 | y :: r, l, acc => by
  unfold namesO
  split
  ·rw [names_acc r y.2 (acc ++ [y.1.t]), names_acc r y.2 ([] ++ [y.1.t])]
   simp
  ·simp
theorem names_ag (ll : Int) : ∀ (r : List Tok) (l : Int) (acc : List Nm) (n : Nat), r.length < n → lastOf l r = ll → Tvs r →
  loopN ll n false acc ⟨r, 0, 0⟩ = ((namesO l r acc).1, ⟨(namesO l r acc).2.2, 0, 0⟩) ∧ lastOf (namesO l r acc).2.1 (namesO l r acc).2.2 = ll ∧ Tvs (namesO l r acc).2.2
 | [], l, acc, n + 1, hn, hl, hv => by
  refine ⟨?_, hl, hv⟩
  unfold loopN
  rw [if_neg (by rintro ⟨-, h | h⟩ <;> cases h)]
  rfl
 | y :: r, l, acc, n + 1, hn, hl, hv => by
  by_cases g : kindL (y :: r) = 1
  ·have gs : shapeT y.1 = sName := (kName (y :: r)).1 g
   obtain ⟨y', r', e, ht⟩ := tok_ok (ll := ll) (k := 1) (by decide) g
   cases e
   unfold loopN namesO
   rw [if_pos ⟨rfl, Or.inr g⟩, ht, if_pos gs]
   exact names_ag ll r y.2 _ n (by simp at hn; omega) hl hv.tail
  ·have gs : ¬ shapeT y.1 = sName := fun h => g ((kName _).2 h)
   unfold loopN namesO
   rw [if_neg (by rintro ⟨-, h | h⟩; cases h; exact g h), if_neg gs]
   exact ⟨rfl, hl, hv⟩
theorem names1_ok {ll : Int} {y : Tok} {r : List Tok} (hk : kindL (y :: r) = 1) (hl : lastOf y.2 r = ll) (hv : Tvs r) :
  namesD ll true ⟨y :: r, 0, 0⟩ = (y.1.t :: (namesO y.2 r []).1, ⟨(namesO y.2 r []).2.2, 0, 0⟩) ∧ lastOf (namesO y.2 r []).2.1 (namesO y.2 r []).2.2 = ll ∧ Tvs (namesO y.2 r []).2.2 := by
 obtain ⟨y', r', e, ht⟩ := tok_ok (ll := ll) (k := 1) (by decide) hk
 cases e
 have h := names_ag ll r y.2 [y.1.t] (r.length + 2) (by omega) hl hv
 rw [names_acc] at h
 unfold namesD
 rw [show (y :: r).length + 2 = (r.length + 2) + 1 from by simp]
 unfold loopN
 rw [if_pos ⟨rfl, Or.inl rfl⟩, ht]
 exact h
theorem names1_bad {ll : Int} {rest : List Tok} (hk : kindL rest ≠ 1) : namesD ll true ⟨rest, 0, 0⟩ = ([[]], St.bad ll 3 ⟨rest, 0, 0⟩) := by
 have ht : tokD ll 1 ⟨rest, 0, 0⟩ = (tokO [], St.bad ll 3 ⟨rest, 0, 0⟩) := by unfold tokD; rw [if_neg (fun h => hk h.2)]
 have hb : (St.bad ll 3 ⟨rest, 0, 0⟩).e ≠ 0 := by unfold St.bad; cases rest <;> simp
 unfold namesD loopN
 rw [if_pos ⟨rfl, Or.inl rfl⟩, ht]
 unfold loopN
 rw [if_neg (fun h => hb h.1)]
 rfl
theorem names0_ok {ll l : Int} {r : List Tok} (hl : lastOf l r = ll) (hv : Tvs r) :
  namesD ll false ⟨r, 0, 0⟩ = ((namesO l r []).1, ⟨(namesO l r []).2.2, 0, 0⟩) ∧ lastOf (namesO l r []).2.1 (namesO l r []).2.2 = ll ∧ Tvs (namesO l r []).2.2 :=
 names_ag ll r l [] (r.length + 2) (by omega) hl hv
theorem bad_ne0 {ll er : Int} {rest : List Tok} (her : er ≠ 0) : (St.bad ll er ⟨rest, 0, 0⟩).e ≠ 0 := by unfold St.bad; cases rest <;> simp [her]
theorem want_name {last : Int} {rest : List Tok} : wantO sName last rest = if kindL rest = 1 then takeO last rest else refuseO 3 last rest := by
 unfold wantO
 by_cases g : kindL rest = 1
 ·rw [if_pos g, if_pos ((kName _).1 g)]
 ·rw [if_neg g, if_neg (fun h => g ((kName _).2 h))]
theorem bind_sim {ll : Int} {ex : Par Ex} {dx : Dp Ex} (hx : Sim ll ex dx) (hd : Dead dx) : Sim ll (bindO ex) (bindD ll dx) := by
 intro last rest hl hv
 unfold bindO bindD
 rw [want_name]
 by_cases g : kindL rest = 1
 ·rw [if_pos g]
  obtain ⟨y, r, rfl, -⟩ := tok_ok (ll := ll) (k := 1) (by decide) g
  obtain ⟨e1, e2, e3⟩ := names1_ok (ll := ll) g hl hv.tail
  rw [e1]
  simp only [takeO, Out.bind, List.headD_cons, List.tail_cons]
  refine (want_ag (sh := sEq) (by decide) (sees_sign (by unfold Sm; decide) e3) e2 e3).of (fun a l r ho hs hl hv => ?_) (fun he => hd _ he)
  rw [hs]
  refine (hx l r hl hv).of (fun b l2 r2 ho2 hs2 hl2 hv2 => ?_) (fun he => ⟨rfl, rfl⟩)
  rw [hs2]
  exact .done rfl hl2 hv2
 ·rw [if_neg g, names1_bad g, refuseO_eq]
  have hb := bad_ne0 (ll := ll) (er := 3) (rest := rest) (by decide)
  rw [need_dead hb]
  have h := refuse_ag (α := Tok) (ll := ll) (er := 3) (by decide) hl
  rw [refuseO_eq] at h
  obtain ⟨h1, h2, h3⟩ := h
  obtain ⟨d1, d2⟩ := hd _ hb
  exact ⟨h1, d1.trans h2, d2.trans h3⟩
theorem more_sim {α : Type} {ll : Int} {item : Par α} {d : Dp α} (hi : Sim ll item d) (hd : Dead d) : ∀ (n : Nat) (acc : List α), Sim ll (moreO item n acc) (moreD d n acc)
 | 0, acc => fun last rest hl hv => .done rfl hl hv
 | n + 1, acc => fun last rest hl hv => by
  have hs : seesL [59] rest = true ↔ shapeL rest = sSemi := sees_sign (by unfold Sm; decide) hv
  unfold moreO moreD
  by_cases g : shapeL rest = sSemi
  ·rw [if_pos g, if_pos ⟨rfl, hs.2 g⟩]
   obtain ⟨y, q, rfl⟩ := take_of g (by decide)
   simp only [takeO, Out.bind]
   rw [show St.next ⟨y :: q, 0, 0⟩ = ⟨q, 0, 0⟩ from rfl]
   refine (hi y.2 q hl hv.tail).of (fun a l r ho hs hl hv => ?_) (fun he => by rw [more_dead _ _ he]; exact ⟨rfl, rfl⟩)
   rw [hs]
   exact more_sim hi hd n _ l r hl hv
  ·rw [if_neg g, if_neg (fun h => g (hs.1 h.2))]
   exact .done rfl hl hv
theorem some_sim {α : Type} {ll : Int} {item : Par α} {d : Dp α} (hi : Sim ll item d) (hd : Dead d) : Sim ll (someO item) (someD d) := by
 intro last rest hl hv
 unfold someO someD
 refine (hi last rest hl hv).of (fun a l r ho hs hl hv => ?_) (fun he => by rw [more_dead _ _ he]; exact ⟨rfl, rfl⟩)
 rw [hs]
 exact more_sim hi hd _ _ l r hl hv
end Go.Proofs.YtbnmmbjajheedaaGreatDoor
