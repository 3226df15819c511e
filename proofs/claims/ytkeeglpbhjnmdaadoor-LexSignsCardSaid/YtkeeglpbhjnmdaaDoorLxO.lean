/- What a token is: its kind is that of its first byte; which words are kept; lines that rise. -/
import Derived.Test.YtkeeglpbhjnmdaaDoorLxM
namespace Go.Proofs.YtkeeglpbhjnmdaaDoor
open Go.RowKit Go.Lib

def Sm (c : UInt8) : Prop := 97 ≤ c.toNat ∧ c.toNat ≤ 122
def Cp (c : UInt8) : Prop := 65 ≤ c.toNat ∧ c.toNat ≤ 90
def Dg (c : UInt8) : Prop := 48 ≤ c.toNat ∧ c.toNat ≤ 57
/-- A token whose text begins with this byte. -/
inductive TkOk (y : Tk) (c : UInt8) : Prop where
  | name (k : y.k = 1) (s : Sm c) (w : wordF y.t = none) (f : y.f = false) (x : y.x = 0)
  | word (k : y.k = 5 ∨ y.k = 7) (s : Sm c) (w : wordF y.t = some y.k) (f : y.f = false) (x : y.x = 0)
  | con (k : y.k = 2) (s : Cp c) (f : y.f = false) (x : y.x = 0)
  | num (k : y.k = 3) (s : Dg c ∨ c.toNat = 35)
  | sign (k : y.k = 4 ∨ y.k = 6) (ns : ¬ Sm c) (nc : ¬ Cp c) (nd : ¬ Dg c) (nh : c.toNat ≠ 35) (f : y.f = false) (x : y.x = 0)

theorem small_in : ∀ c, c ∈ smallsB.data.toList → Sm c := by unfold Sm; decide
theorem cap_in : ∀ c, c ∈ capsB.data.toList → Cp c := by unfold Cp; decide
theorem dig_in : ∀ c, c ∈ digsB.data.toList → Dg c := by unfold Dg; decide
theorem sign_in : ∀ x, x ∈ signsB → (x.2 = 4 ∨ x.2 = 6) ∧ ∃ c, x.1.data.toList.head? = some c ∧ (¬ (97 ≤ c.toNat ∧ c.toNat ≤ 122) ∧ ¬ (65 ≤ c.toNat ∧ c.toNat ≤ 90) ∧ ¬ (48 ≤ c.toNat ∧ c.toNat ≤ 57) ∧ c.toNat ≠ 35) := by
  intro x hx
  simp only [signsB, List.mem_cons, List.not_mem_nil, or_false] at hx
  rcases hx with rfl | rfl | rfl | rfl | rfl | rfl | rfl | rfl | rfl | rfl | rfl | rfl | rfl | rfl | rfl | rfl | rfl | rfl | rfl | rfl | rfl
  all_goals exact ⟨by decide, _, rfl, by decide⟩
theorem word_some {t : List UInt8} {k : Int} (h : wordF t = some k) : (k = 5 ∨ k = 7) ∧ ∃ c r, t = c :: r ∧ Sm c := by
  unfold wordF kput at h
  repeat' split at h
  all_goals first
    | (rename_i e; cases h; subst e; exact ⟨by decide, _, _, rfl, by unfold Sm; decide⟩)
    | cases h
theorem kputs_in {f : List UInt8 → Option Int} {l : List UInt8} {u : Int} {r : List UInt8} {k : Int} (h : kputs f l u r = some k) : (∃ c, c ∈ l ∧ r = [c] ∧ k = u) ∨ f r = some k := by
  unfold kputs at h
  split at h
  · rename_i e
    obtain ⟨c, hc, he⟩ := e
    exact Or.inl ⟨c, hc, he, (Option.some.inj h).symm⟩
  · exact Or.inr h
theorem kputs_some {f : List UInt8 → Option Int} {l : List UInt8} {u : Int} {r : List UInt8} (h : kputs f l u r = none) : f r = none := by
  unfold kputs at h
  split at h
  · cases h
  · exact h
/-- Where a kind stands. -/
theorem kind_some {t : List UInt8} {k : Int} (h : kindF t = some k) : (∃ c, t = [c] ∧ ((k = 1 ∧ Sm c) ∨ (k = 2 ∧ Cp c) ∨ (k = 3 ∧ Dg c))) ∨ wordF t = some k := by
  rcases kputs_in h with ⟨c, hc, e, rfl⟩ | h
  · exact Or.inl ⟨c, e, Or.inr (Or.inr ⟨rfl, dig_in c hc⟩)⟩
  rcases kputs_in h with ⟨c, hc, e, rfl⟩ | h
  · exact Or.inl ⟨c, e, Or.inr (Or.inl ⟨rfl, cap_in c hc⟩)⟩
  rcases kputs_in h with ⟨c, hc, e, rfl⟩ | h
  · exact Or.inl ⟨c, e, Or.inl ⟨rfl, small_in c hc⟩⟩
  exact Or.inr h
theorem kind_none {t : List UInt8} (h : kindF t = none) : wordF t = none := kputs_some (kputs_some (kputs_some h))

/-- What begins with a run: its kind, and where it comes from. -/
theorem kindOf_ok {c : UInt8} {r : List UInt8} (h : kindOf (c :: r) ≠ 0) : ∃ t, runL (c :: r) = c :: t ∧ ((kindOf (c :: r) = 1 ∧ Sm c ∧ wordF (c :: t) = none) ∨ ((kindOf (c :: r) = 5 ∨ kindOf (c :: r) = 7) ∧ Sm c ∧ wordF (c :: t) = some (kindOf (c :: r))) ∨ (kindOf (c :: r) = 2 ∧ Cp c) ∨ (kindOf (c :: r) = 3 ∧ Dg c)) := by
  cases hr : runL (c :: r) with
  | nil => exact absurd (kindOf_nil hr) h
  | cons d t =>
    obtain rfl : d = c := by
      have := List.takeWhile_prefix (p := inRun) (l := c :: r)
      unfold runL at hr
      rw [hr] at this
      exact (List.cons_prefix_cons.1 this).1
    refine ⟨t, rfl, ?_⟩
    unfold kindOf at h ⊢
    rw [hr] at h ⊢
    cases hk : kindF (d :: t) with
    | some k =>
      simp only [hk, Option.isSome_some, if_true, Option.getD_some] at h ⊢
      rcases kind_some hk with ⟨c', e, hh⟩ | hw
      · simp only [List.cons.injEq] at e
        obtain ⟨rfl, rfl⟩ := e
        rcases hh with ⟨rfl, hs⟩ | ⟨rfl, hs⟩ | ⟨rfl, hs⟩
        · exact Or.inl ⟨rfl, hs, word_one d⟩
        · exact Or.inr (Or.inr (Or.inl ⟨rfl, hs⟩))
        · exact Or.inr (Or.inr (Or.inr ⟨rfl, hs⟩))
      · obtain ⟨hk57, c', r', e, hs⟩ := word_some hw
        simp only [List.cons.injEq] at e
        obtain ⟨rfl, rfl⟩ := e
        exact Or.inr (Or.inl ⟨hk57, hs, hw⟩)
    | none =>
      have hw := kind_none hk
      simp only [hk, Option.isSome_none, Bool.false_eq_true, if_false, List.take_succ_cons, List.take_zero] at h ⊢
      cases hk1 : kindF [d] with
      | none => rw [hk1] at h; exact absurd rfl h
      | some k =>
        simp only [Option.getD_some]
        rcases kind_some hk1 with ⟨c', e, hh⟩ | hw1
        · simp only [List.cons.injEq, and_true] at e
          subst e
          rcases hh with ⟨rfl, hs⟩ | ⟨rfl, hs⟩ | ⟨rfl, hs⟩
          · exact Or.inl ⟨rfl, hs, hw⟩
          · exact Or.inr (Or.inr (Or.inl ⟨rfl, hs⟩))
          · exact Or.inr (Or.inr (Or.inr ⟨rfl, hs⟩))
        · rw [word_one] at hw1
          cases hw1

theorem numT_kind {t : List UInt8} (h : (numT t).2 = 0) : (numT t).1.k = 3 := by
  unfold numT at *
  split
  · rfl
  · rename_i g
    rw [if_neg g] at h
    exact absurd h g

/-- EACH TOKEN THAT IS TAKEN IS OF ITS KIND. -/
theorem read_ok {c : UInt8} {r : List UInt8} (h : (readL (c :: r)).2 = 0) : ∃ t, (readL (c :: r)).1.t = c :: t ∧ TkOk (readL (c :: r)).1 c := by
  unfold readL at *
  cases hs : signL (c :: r) with
  | some x =>
    unfold signL at hs
    obtain ⟨hk, d, hd, h1, h2, h3, h4⟩ := sign_in x (List.mem_of_find?_eq_some hs)
    have hp := List.find?_some hs
    cases hx : x.1.data.toList with
    | nil => rw [hx] at hd; cases hd
    | cons d' t =>
      rw [hx] at hd hp
      obtain rfl := Option.some.inj hd
      unfold hasPrefix at hp
      obtain ⟨rfl, -⟩ := List.cons_prefix_cons.1 (List.isPrefixOf_iff_prefix.1 hp)
      exact ⟨t, hx, .sign hk h1 h2 h3 h4 rfl rfl⟩
  | none =>
    rw [hs] at h
    simp only at h ⊢
    split at h
    · rename_i g
      rw [if_pos g]
      have hc : c = 35 := by
        unfold hasPrefix at g
        exact (List.cons_prefix_cons.1 (List.isPrefixOf_iff_prefix.1 g)).1.symm
      have hl : ∃ n t, markedL (c :: r) = (c :: t).take (n + 1) := by
        unfold markedL
        have h1 := trimP_le r [45]
        simp only [List.drop_succ_cons, List.drop_zero, List.length_cons]
        refine ⟨r.length - (trimPrefix r [45]).length + (runL (trimPrefix r [45])).length, r, ?_⟩
        congr 1
        omega
      obtain ⟨n, t, hl⟩ := hl
      rw [List.take_succ_cons] at hl
      refine ⟨t.take n, (numT_ok h).trans hl, .num (numT_kind h) (Or.inr (by rw [hc]; rfl))⟩
    · rename_i g
      rw [if_neg g]
      unfold readR at *
      split at h
      · cases h
      · rename_i g0
        rw [if_neg g0]
        obtain ⟨t, hr, hh⟩ := kindOf_ok g0
        split at h
        · rename_i g3
          rw [if_pos g3]
          refine ⟨t, (numT_ok h).trans hr, .num (numT_kind h) (Or.inl ?_)⟩
          rcases hh with ⟨e, -⟩ | ⟨e, -⟩ | ⟨e, -⟩ | ⟨-, e⟩
          · omega
          · omega
          · omega
          · exact e
        · rename_i g3
          rw [if_neg g3]
          split at h
          · cases h
          · rename_i g16
            rw [if_neg g16]
            refine ⟨t, hr, ?_⟩
            rcases hh with ⟨e, hs, hw⟩ | ⟨e, hs, hw⟩ | ⟨e, hs⟩ | ⟨e, -⟩
            · exact .name e hs (by simpa [hr] using hw) rfl rfl
            · exact .word e hs (by simpa [hr] using hw) rfl rfl
            · exact .con e hs rfl rfl
            · exact absurd e g3

/-- Tokens as they should be. -/
structure ToksOk (T : List (Tk × Int)) : Prop where
  ok : ∀ x, x ∈ T → 1 ≤ x.2 ∧ ∃ c t, x.1.t = c :: t ∧ TkOk x.1 c
  up : T.Pairwise fun a b => a.2 ≤ b.2
theorem lexA_ok : ∀ (f : Nat) (l : List UInt8) (line : Int) (acc T : List (Tk × Int)), 1 ≤ line → ToksOk acc → (∀ x, x ∈ acc → x.2 ≤ line) → lexA f l line acc = .good T → ToksOk T
  | 0, l, line, acc, T, _, ha, _, h => by unfold lexA at h; cases h; exact ha
  | f + 1, [], line, acc, T, _, ha, _, h => by unfold lexA at h; cases h; exact ha
  | f + 1, c :: r, line, acc, T, h0, ha, hl, h => by
    unfold lexA at h
    split at h
    · exact lexA_ok f _ _ _ _ (by omega) ha (fun x hx => by have := hl x hx; omega) h
    · split at h
      · exact lexA_ok f _ _ _ _ h0 ha hl h
      · split at h
        · split at h
          · cases h; exact ha
          · exact lexA_ok f _ _ _ _ h0 ha hl h
        · split at h
          · rename_i hr
            split at h
            · cases h
            · obtain ⟨t, ht, hk⟩ := read_ok hr
              refine lexA_ok f _ _ _ _ h0 ⟨fun x hx => ?_, ?_⟩ (fun x hx => ?_) h
              · rcases List.mem_append.1 hx with hx | hx
                · exact ha.ok x hx
                · rw [List.mem_singleton] at hx
                  subst hx
                  exact ⟨h0, c, t, ht, hk⟩
              · refine List.pairwise_append.2 ⟨ha.up, List.pairwise_singleton _ _, fun a ha' b hb => ?_⟩
                rw [List.mem_singleton] at hb
                subst hb
                exact hl a ha'
              · rcases List.mem_append.1 hx with hx | hx
                · exact hl x hx
                · rw [List.mem_singleton] at hx
                  subst hx
                  exact Int.le_refl _
          · cases h
theorem lexL_ok {l : List UInt8} {T : List (Tk × Int)} (h : lexL l = .good T) : ToksOk T := lexA_ok _ _ _ _ _ (by omega) ⟨fun x hx => (by cases hx), List.Pairwise.nil⟩ (fun x hx => by cases hx) h
end Go.Proofs.YtkeeglpbhjnmdaaDoor
