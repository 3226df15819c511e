import Derived.Shelf.Abstract
import Derived.Test.YtdjcdecbmeickaaGreatDoorMg1
namespace Go.Proofs.YtdjcdecbmeickaaGreatDoor
set_option maxHeartbeats 64000000
set_option maxRecDepth 100000
open Go.RowKit Go.Lib
def Box8 (p : Nat) (w3 : World) : Prop := w3.cell? ⟨p, 0, none⟩ = some (.int .i64 0) ∧ w3.cell? ⟨p, 1, none⟩ = some (.string ⟨#[]⟩) ∧ w3.cell? ⟨p, 2, none⟩ = some (.bool false) ∧ w3.cell? ⟨p, 3, none⟩ = some (.int .u64 0) ∧ w3.cell? ⟨p, 4, none⟩ = some (.slice none 0 0) ∧ w3.cell? ⟨p, 5, none⟩ = some (.slice none 0 0) ∧ w3.cell? ⟨p, 6, none⟩ = some (.slice none 0 0) ∧ w3.cell? ⟨p, 7, none⟩ = some (.slice none 0 0) ∧ w3.frozen? ⟨p, 0, none⟩ = false ∧ w3.frozen? ⟨p, 1, none⟩ = false ∧ w3.frozen? ⟨p, 2, none⟩ = false ∧ w3.frozen? ⟨p, 3, none⟩ = false ∧ w3.frozen? ⟨p, 4, none⟩ = false ∧ w3.frozen? ⟨p, 5, none⟩ = false ∧ w3.frozen? ⟨p, 6, none⟩ = false ∧ w3.frozen? ⟨p, 7, none⟩ = false
def meth (f b : Nat) : Value := .func (.func f) #[.pointer (some ⟨b, 0, none⟩)] #[]
structure Bx where
  k1 : Nat
  r1 : Nat
  k2 : Nat
  r2 : Nat
  k3 : Nat
  r3 : Nat
def BoxAt (W : World) (b k r : Nat) (kind : Int) : Prop := W.cell? ⟨k, 0, none⟩ = some (.int .i64 kind) ∧ W.cell? ⟨r, 0, none⟩ = some (.pointer (some ⟨b, 0, none⟩)) ∧ k ≠ b ∧ r ≠ b
theorem BoxAt.later {W W' : World} {b k r : Nat} {kind : Int} (h : BoxAt W b k r kind) (hb : W.grownBy W' (some b)) : BoxAt W' b k r kind :=
  ⟨hb.cell h.1 (by simpa using h.2.2.1), hb.cell h.2.1 (by simpa using h.2.2.2), h.2.2⟩
theorem ExAt.slices {W : World} {K : Nat → Prop} {x : Ex} {k n f u vp vk vb va : Value} (h : ExAt W K x [k, n, f, u, vp, vk, vb, va]) : (∃ a n c, vp = .slice a n c) ∧ (∃ a n c, vk = .slice a n c) ∧ (∃ a n c, vb = .slice a n c) ∧ (∃ a n c, va = .slice a n c) := by
  cases h with
  | mk _ _ _ _ _ _ _ _ _ _ _ _ _ _ _ hp hk hb ha => exact ⟨hp.slice, hk.slice, hb.slice, ha.slice⟩
theorem atomO_none {ex : Par Ex} {last : Int} {rest : List Tok} (h : shapeL rest ≠ sName ∧ shapeL rest ≠ sCon ∧ shapeL rest ≠ sNum ∧ shapeL rest ≠ sBack ∧ shapeL rest ≠ sOpen) : atomO ex last rest = .bad (refE 3 last rest).1 (refE 3 last rest).2 := by
  unfold atomO
  rw [if_neg h.1, if_neg h.2.1, if_neg h.2.2.1, if_neg h.2.2.2.1, if_neg h.2.2.2.2, refuseO_eq]
theorem Tryz.info_expr : (Tryz.prog.info? 57).map (fun i => (i.zero, i.size, i.bytes)) = some (some (.agg #[.int .i64 0, .string ⟨#[]⟩, .bool false, .int .u64 0, .slice none 0 0, .slice none 0 0, .slice none 0 0, .slice none 0 0]), 8, 136) := by kernel_rfl
def ExsV (lo : Nat) (xs : List Ex) (e : Ending) (w : World) : Prop := ∃ v cs, e = .returned v ∧ w.ownsRow lo 57 8 v xs.length cs ∧ ExsAt w (fun g => lo ≤ g) xs cs
theorem Less.then {α β : Type} {m : Nat} {o : Out α} {f : α → Int → List Tok → Out β} (h : Less m o) (hf : ∀ a l r, Less r.length (f a l r)) : Less m (o.bind f) :=
  h.bind fun a l r hr => (hf a l r).mono hr
theorem less_ok {α : Type} (a : α) (l : Int) (r : List Tok) : Less r.length (.ok a l r) := Nat.le_refl _
theorem less_refuse {α : Type} (er l : Int) (r : List Tok) (m : Nat) : Less m (refuseO er l r : Out α) := by rw [refuseO_eq]; trivial
theorem take_shrinks : Shrinks takeO := fun l r => by
  cases r with
  | nil => trivial
  | cons y r => exact Nat.le_succ _
theorem want_shrinks (s : Sh) : Shrinks (wantO s) := fun l r => by
  unfold wantO
  split
  · exact take_shrinks l r
  · exact less_refuse _ _ _ _
theorem names_less : ∀ (r : List Tok) (l : Int) (acc : List Nm), (namesO l r acc).2.2.length ≤ r.length
  | [], l, acc => Nat.le_refl _
  | y :: r, l, acc => by
    unfold namesO
    split
    · exact Nt (names_less r _ _) (Nat.le_succ _)
    · exact Nat.le_refl _
theorem bind_shrinks {ex : Par Ex} (h : Shrinks ex) : Shrinks (bindO ex) := fun l r =>
  (want_shrinks _ l r).then fun _ l r => Less.mono ((want_shrinks _ _ _).then fun _ l2 r2 => (h l2 r2).then fun _ _ _ => less_ok _ _ _) (names_less r l [])
theorem more_shrinks {α : Type} {item : Par α} (h : Shrinks item) : ∀ (n : Nat) (acc : List α), Shrinks (moreO item n acc)
  | 0, acc => fun l r => less_ok _ _ _
  | n + 1, acc => fun l r => by
    unfold moreO
    split
    · exact (take_shrinks l r).then fun _ l r => (h l r).then fun a l2 r2 => more_shrinks h n _ l2 r2
    · exact less_ok _ _ _
theorem some_shrinks {α : Type} {item : Par α} (h : Shrinks item) : Shrinks (someO item) := fun l r => (h l r).then fun _ l r => more_shrinks h _ _ l r
theorem inner_shrinks {ex : Par Ex} (h : Shrinks ex) : Shrinks (innerO ex) := fun l r =>
  (want_shrinks _ l r).then fun _ l r => (h l r).then fun _ l2 r2 => (want_shrinks _ l2 r2).then fun _ _ _ => less_ok _ _ _
theorem atom_shrinks {ex : Par Ex} (h : Shrinks ex) : Shrinks (atomO ex) := fun l r => by
  unfold atomO
  split
  · exact (take_shrinks l r).then fun t l r => less_ok _ _ _
  split
  · exact (take_shrinks l r).then fun t l r => less_ok _ _ _
  split
  · exact (take_shrinks l r).then fun t l r => less_ok _ _ _
  split
  · exact (take_shrinks l r).then fun t l r => less_ok _ _ _
  split
  · exact inner_shrinks h l r
  · exact less_refuse _ _ _ _
theorem atoms_shrinks {ex : Par Ex} (h : Shrinks ex) : ∀ (n : Nat) (acc : List Ex), Shrinks (atomsO ex n acc)
  | 0, acc => fun l r => less_ok _ _ _
  | n + 1, acc => fun l r => by
    unfold atomsO
    split
    · exact (atom_shrinks h l r).then fun a l r => atoms_shrinks h n _ l r
    · exact less_ok _ _ _
theorem row_shrinks {ex : Par Ex} (h : Shrinks ex) : Shrinks (rowO ex) := fun l r =>
  (atom_shrinks h l r).then fun _ l r => (atoms_shrinks h _ _ l r).then fun _ _ _ => less_ok _ _ _
theorem rows_shrinks {ex : Par Ex} (h : Shrinks ex) : Shrinks (rowsO ex) := fun l r =>
  (row_shrinks h l r).then fun a l r => by
    split
    · exact (take_shrinks l r).then fun t l2 r2 => (row_shrinks h l2 r2).then fun b l3 r3 => less_ok _ _ _
    · exact less_ok _ _ _
theorem let_shrinks {ex : Par Ex} (h : Shrinks ex) : Shrinks (letO ex) := fun l r =>
  (want_shrinks _ l r).then fun _ l r => (some_shrinks (bind_shrinks h) l r).then fun _ l2 r2 => (want_shrinks _ l2 r2).then fun _ l3 r3 => (h l3 r3).then fun _ _ _ => less_ok _ _ _
theorem alt_shrinks {ex : Par Ex} (h : Shrinks ex) : Shrinks (altO ex) := fun l r => by
  unfold altO
  split
  · exact (take_shrinks l r).then fun t l r => Less.mono ((want_shrinks _ _ _).then fun _ l2 r2 => (h l2 r2).then fun x l3 r3 => less_ok _ _ _) (names_less r l [])
  split
  · exact (take_shrinks l r).then fun t l r => (want_shrinks _ l r).then fun _ l2 r2 => (h l2 r2).then fun x l3 r3 => less_ok _ _ _
  · exact (want_shrinks _ l r).then fun t l r => (want_shrinks _ l r).then fun _ l2 r2 => (h l2 r2).then fun x l3 r3 => less_ok _ _ _
theorem case_shrinks {ex : Par Ex} (h : Shrinks ex) : Shrinks (caseO ex) := fun l r =>
  (want_shrinks _ l r).then fun _ l r => (h l r).then fun x l2 r2 => (want_shrinks _ l2 r2).then fun _ l3 r3 => (want_shrinks _ l3 r3).then fun _ l4 r4 => by
    split
    · exact (want_shrinks _ l4 r4).then fun _ l5 r5 => less_ok _ _ _
    · exact (some_shrinks (alt_shrinks h) l4 r4).then fun xs l5 r5 => (want_shrinks _ l5 r5).then fun _ l6 r6 => less_ok _ _ _
theorem lam_shrinks {ex : Par Ex} (h : Shrinks ex) : Shrinks (lamO ex) := fun l r =>
  (want_shrinks _ l r).then fun _ l r => by
    split
    · exact Less.mono ((want_shrinks _ _ _).then fun _ l2 r2 => (h l2 r2).then fun x l3 r3 => less_ok _ _ _) (names_less r l [])
    · exact less_refuse _ _ _ _
theorem expr_shrinks : ∀ (n d : Nat), Shrinks (exprO n d)
  | 0, d => fun l r => trivial
  | n + 1, d => fun l r => by
    unfold exprO
    have h := expr_shrinks n (d + 1)
    split
    · split
      · exact less_refuse _ _ _ _
      split
      · exact let_shrinks h l r
      split
      · exact case_shrinks h l r
      split
      · exact lam_shrinks h l r
      · exact rows_shrinks h l r
    · exact less_refuse _ _ _ _
theorem take_strict {α : Type} {last : Int} {rest : List Tok} {f : Tok → Int → List Tok → Out α} (hf : ∀ a l r, Less r.length (f a l r)) {x : α} {l : Int} {r : List Tok} (h : (takeO last rest).bind f = .ok x l r) : r.length < rest.length := by
  cases rest with
  | nil => cases h
  | cons y r0 =>
    have h1 := hf y y.2 r0
    have h2 : f y y.2 r0 = .ok x l r := h
    rw [h2] at h1
    exact Nat.lt_succ_of_le h1
theorem want_strict {α : Type} {s : Sh} {last : Int} {rest : List Tok} {f : Tok → Int → List Tok → Out α} (hf : ∀ a l r, Less r.length (f a l r)) {x : α} {l : Int} {r : List Tok} (h : (wantO s last rest).bind f = .ok x l r) : r.length < rest.length := by
  unfold wantO at h
  split at h
  · exact take_strict hf h
  · rw [refuseO_eq] at h
    cases h
theorem atom_strict {ex : Par Ex} (hx : Shrinks ex) {last : Int} {rest : List Tok} {x : Ex} {l : Int} {r : List Tok} (h : atomO ex last rest = .ok x l r) : r.length < rest.length := by
  unfold atomO at h
  split at h
  · exact take_strict (fun t l r => less_ok _ _ _) h
  split at h
  · exact take_strict (fun t l r => less_ok _ _ _) h
  split at h
  · exact take_strict (fun t l r => less_ok _ _ _) h
  split at h
  · exact take_strict (fun t l r => less_ok _ _ _) h
  split at h
  · exact want_strict (fun _ l r => (hx l r).then fun x l2 r2 => (want_shrinks _ l2 r2).then fun _ l3 r3 => less_ok _ _ _) h
  · rw [refuseO_eq] at h
    cases h
def Sm (c : UInt8) : Prop := 97 ≤ c.toNat ∧ c.toNat ≤ 122
def Cp (c : UInt8) : Prop := 65 ≤ c.toNat ∧ c.toNat ≤ 90
def Dg (c : UInt8) : Prop := 48 ≤ c.toNat ∧ c.toNat ≤ 57
inductive TkOk (y : Tk) (c : UInt8) : Prop where
  | name (k : y.k = 1) (s : Sm c) (w : wordF y.t = none) (f : y.f = false) (x : y.x = 0)
  | word (k : y.k = 5 ∨ y.k = 7) (s : Sm c) (w : wordF y.t = some y.k) (f : y.f = false) (x : y.x = 0)
  | con (k : y.k = 2) (s : Cp c) (f : y.f = false) (x : y.x = 0)
  | num (k : y.k = 3) (s : Dg c ∨ c.toNat = 35)
  | sign (k : y.k = 4 ∨ y.k = 6) (ns : ¬ Sm c) (nc : ¬ Cp c) (nd : ¬ Dg c) (nh : c.toNat ≠ 35) (f : y.f = false) (x : y.x = 0)
theorem small_in : ∀ c, c ∈ smallsB.data.toList → Sm c := by unfold Sm; decide
theorem cap_in : ∀ c, c ∈ capsB.data.toList → Cp c := by unfold Cp; decide
theorem dig_in : ∀ c, c ∈ digsB.data.toList → Dg c := by unfold Dg; decide
theorem sign_in : ∀ x, x ∈ signsB → (x.2 = 4 ∨ x.2 = 6) ∧ ∃ c, x.1.data.toList.head? = some c ∧ (¬ (97 ≤ c.toNat ∧ c.toNat ≤ 122) ∧ ¬ (65 ≤ c.toNat ∧ c.toNat ≤ 90) ∧ ¬ (48 ≤ c.toNat ∧ c.toNat ≤ 57) ∧ c.toNat ≠ 35) := by
  intro x hx
  simp only [signsB, List.mem_cons, List.not_mem_nil, or_false] at hx
  rcases hx with rfl | rfl | rfl | rfl | rfl | rfl | rfl | rfl | rfl | rfl | rfl | rfl | rfl | rfl | rfl | rfl | rfl | rfl | rfl | rfl | rfl
  all_goals exact ⟨by decide, _, rfl, by decide⟩
theorem word_some {t : List UInt8} {k : Int} (h : wordF t = some k) : (k = 5 ∨ k = 7) ∧ ∃ c r, t = c :: r ∧ Sm c := by
  unfold wordF kput at h
  repeat' split at h
  all_goals first
    | (rename_i e; cases h; subst e; exact ⟨by decide, _, _, rfl, by unfold Sm; decide⟩)
    | cases h
theorem kputs_in {f : List UInt8 → Option Int} {l : List UInt8} {u : Int} {r : List UInt8} {k : Int} (h : kputs f l u r = some k) : (∃ c, c ∈ l ∧ r = [c] ∧ k = u) ∨ f r = some k := by
  unfold kputs at h
  split at h
  · rename_i e
    obtain ⟨c, hc, he⟩ := e
    exact Or.inl ⟨c, hc, he, (Oi h).symm⟩
  · exact Or.inr h
theorem kputs_some {f : List UInt8 → Option Int} {l : List UInt8} {u : Int} {r : List UInt8} (h : kputs f l u r = none) : f r = none := by
  unfold kputs at h
  split at h
  · cases h
  · exact h
theorem kind_some {t : List UInt8} {k : Int} (h : kindF t = some k) : (∃ c, t = [c] ∧ ((k = 1 ∧ Sm c) ∨ (k = 2 ∧ Cp c) ∨ (k = 3 ∧ Dg c))) ∨ wordF t = some k := by
  rcases kputs_in h with ⟨c, hc, e, rfl⟩ | h
  · exact Or.inl ⟨c, e, Or.inr (Or.inr ⟨rfl, dig_in c hc⟩)⟩
  rcases kputs_in h with ⟨c, hc, e, rfl⟩ | h
  · exact Or.inl ⟨c, e, Or.inr (Or.inl ⟨rfl, cap_in c hc⟩)⟩
  rcases kputs_in h with ⟨c, hc, e, rfl⟩ | h
  · exact Or.inl ⟨c, e, Or.inl ⟨rfl, small_in c hc⟩⟩
  exact Or.inr h
theorem kind_none {t : List UInt8} (h : kindF t = none) : wordF t = none := kputs_some (kputs_some (kputs_some h))
theorem kindOf_ok {c : UInt8} {r : List UInt8} (h : kindOf (c :: r) ≠ 0) : ∃ t, runL (c :: r) = c :: t ∧ ((kindOf (c :: r) = 1 ∧ Sm c ∧ wordF (c :: t) = none) ∨ ((kindOf (c :: r) = 5 ∨ kindOf (c :: r) = 7) ∧ Sm c ∧ wordF (c :: t) = some (kindOf (c :: r))) ∨ (kindOf (c :: r) = 2 ∧ Cp c) ∨ (kindOf (c :: r) = 3 ∧ Dg c)) := by
  cases hr : runL (c :: r) with
  | nil => exact absurd (kindOf_nil hr) h
  | cons d t =>
    obtain rfl : d = c := by
      have := List.takeWhile_prefix (p := inRun) (l := c :: r)
      unfold runL at hr
      rw [hr] at this
      exact (List.cons_prefix_cons.1 this).1
    refine ⟨t, rfl, ?_⟩
    unfold kindOf at h ⊢
    rw [hr] at h ⊢
    cases hk : kindF (d :: t) with
    | some k =>
      simp only [hk, Option.isSome_some, if_true, Option.getD_some] at h ⊢
      rcases kind_some hk with ⟨c', e, hh⟩ | hw
      · simp only [List.cons.injEq] at e
        obtain ⟨rfl, rfl⟩ := e
        rcases hh with ⟨rfl, hs⟩ | ⟨rfl, hs⟩ | ⟨rfl, hs⟩
        · exact Or.inl ⟨rfl, hs, word_one d⟩
        · exact Or.inr (Or.inr (Or.inl ⟨rfl, hs⟩))
        · exact Or.inr (Or.inr (Or.inr ⟨rfl, hs⟩))
      · obtain ⟨hk57, c', r', e, hs⟩ := word_some hw
        simp only [List.cons.injEq] at e
        obtain ⟨rfl, rfl⟩ := e
        exact Or.inr (Or.inl ⟨hk57, hs, hw⟩)
    | none =>
      have hw := kind_none hk
      simp only [hk, Option.isSome_none, Bool.false_eq_true, if_false, List.take_succ_cons, List.take_zero] at h ⊢
      cases hk1 : kindF [d] with
      | none => rw [hk1] at h; exact absurd rfl h
      | some k =>
        simp only [Option.getD_some]
        rcases kind_some hk1 with ⟨c', e, hh⟩ | hw1
        · simp only [List.cons.injEq, and_true] at e
          subst e
          rcases hh with ⟨rfl, hs⟩ | ⟨rfl, hs⟩ | ⟨rfl, hs⟩
          · exact Or.inl ⟨rfl, hs, hw⟩
          · exact Or.inr (Or.inr (Or.inl ⟨rfl, hs⟩))
          · exact Or.inr (Or.inr (Or.inr ⟨rfl, hs⟩))
        · rw [word_one] at hw1
          cases hw1
theorem numT_kind {t : List UInt8} (h : (numT t).2 = 0) : (numT t).1.k = 3 := by
  unfold numT at *
  split
  · rfl
  · rename_i g
    rw [if_neg g] at h
    exact absurd h g
theorem read_ok {c : UInt8} {r : List UInt8} (h : (readL (c :: r)).2 = 0) : ∃ t, (readL (c :: r)).1.t = c :: t ∧ TkOk (readL (c :: r)).1 c := by
  unfold readL at *
  cases hs : signL (c :: r) with
  | some x =>
    unfold signL at hs
    obtain ⟨hk, d, hd, h1, h2, h3, h4⟩ := sign_in x (List.mem_of_find?_eq_some hs)
    have hp := List.find?_some hs
    cases hx : x.1.data.toList with
    | nil => rw [hx] at hd; cases hd
    | cons d' t =>
      rw [hx] at hd hp
      obtain rfl := Oi hd
      unfold hasPrefix at hp
      obtain ⟨rfl, -⟩ := List.cons_prefix_cons.1 (List.isPrefixOf_iff_prefix.1 hp)
      exact ⟨t, hx, .sign hk h1 h2 h3 h4 rfl rfl⟩
  | none =>
    rw [hs] at h
    simp only at h ⊢
    split at h
    · rename_i g
      rw [if_pos g]
      have hc : c = 35 := by
        unfold hasPrefix at g
        exact (List.cons_prefix_cons.1 (List.isPrefixOf_iff_prefix.1 g)).1.symm
      have hl : ∃ n t, markedL (c :: r) = (c :: t).take (n + 1) := by
        unfold markedL
        have h1 := trimP_le r [45]
        simp only [List.drop_succ_cons, List.drop_zero, List.length_cons]
        refine ⟨r.length - (trimPrefix r [45]).length + (runL (trimPrefix r [45])).length, r, ?_⟩
        congr 1
        omega
      obtain ⟨n, t, hl⟩ := hl
      rw [List.take_succ_cons] at hl
      refine ⟨t.take n, (numT_ok h).trans hl, .num (numT_kind h) (Or.inr (by rw [hc]; rfl))⟩
    · rename_i g
      rw [if_neg g]
      unfold readR at *
      split at h
      · cases h
      · rename_i g0
        rw [if_neg g0]
        obtain ⟨t, hr, hh⟩ := kindOf_ok g0
        split at h
        · rename_i g3
          rw [if_pos g3]
          refine ⟨t, (numT_ok h).trans hr, .num (numT_kind h) (Or.inl ?_)⟩
          rcases hh with ⟨e, -⟩ | ⟨e, -⟩ | ⟨e, -⟩ | ⟨-, e⟩
          · omega
          · omega
          · omega
          · exact e
        · rename_i g3
          rw [if_neg g3]
          split at h
          · cases h
          · rename_i g16
            rw [if_neg g16]
            refine ⟨t, hr, ?_⟩
            rcases hh with ⟨e, hs, hw⟩ | ⟨e, hs, hw⟩ | ⟨e, hs⟩ | ⟨e, -⟩
            · exact .name e hs (by simpa [hr] using hw) rfl rfl
            · exact .word e hs (by simpa [hr] using hw) rfl rfl
            · exact .con e hs rfl rfl
            · exact absurd e g3
structure ToksOk (T : List (Tk × Int)) : Prop where
  ok : ∀ x, x ∈ T → 1 ≤ x.2 ∧ ∃ c t, x.1.t = c :: t ∧ TkOk x.1 c
  up : T.Pairwise fun a b => a.2 ≤ b.2
theorem lexA_ok : ∀ (f : Nat) (l : List UInt8) (line : Int) (acc T : List (Tk × Int)), 1 ≤ line → ToksOk acc → (∀ x, x ∈ acc → x.2 ≤ line) → lexA f l line acc = .good T → ToksOk T
  | 0, l, line, acc, T, _, ha, _, h => by unfold lexA at h; cases h; exact ha
  | f + 1, [], line, acc, T, _, ha, _, h => by unfold lexA at h; cases h; exact ha
  | f + 1, c :: r, line, acc, T, h0, ha, hl, h => by
    unfold lexA at h
    split at h
    · exact lexA_ok f _ _ _ _ (by omega) ha (fun x hx => by have := hl x hx; omega) h
    · split at h
      · exact lexA_ok f _ _ _ _ h0 ha hl h
      · split at h
        · split at h
          · cases h; exact ha
          · exact lexA_ok f _ _ _ _ h0 ha hl h
        · split at h
          · rename_i hr
            split at h
            · cases h
            · obtain ⟨t, ht, hk⟩ := read_ok hr
              refine lexA_ok f _ _ _ _ h0 ⟨fun x hx => ?_, ?_⟩ (fun x hx => ?_) h
              · rcases List.mem_append.1 hx with hx | hx
                · exact ha.ok x hx
                · rw [List.mem_singleton] at hx
                  subst hx
                  exact ⟨h0, c, t, ht, hk⟩
              · refine List.pairwise_append.2 ⟨ha.up, List.pairwise_singleton _ _, fun a ha' b hb => ?_⟩
                rw [List.mem_singleton] at hb
                subst hb
                exact hl a ha'
              · rcases List.mem_append.1 hx with hx | hx
                · exact hl x hx
                · rw [List.mem_singleton] at hx
                  subst hx
                  exact Int.le_refl _
          · cases h
theorem lexL_ok {l : List UInt8} {T : List (Tk × Int)} (h : lexL l = .good T) : ToksOk T := lexA_ok _ _ _ _ _ (by omega) ⟨fun x hx => (by cases hx), List.Pairwise.nil⟩ (fun x hx => by cases hx) h
structure St where
  r : List Tok
  e : Int
  ln : Int
def kindL : List Tok → Int
  | [] => 0
  | y :: _ => y.1.k
def seesL (t : Nm) : List Tok → Bool
  | [] => false
  | y :: _ => decide ((y.1.k = 5 ∨ y.1.k = 6) ∧ y.1.t = t)
def St.bad (ll er : Int) (s : St) : St :=
  if s.e ≠ 0 then s else
  match s.r with
  | [] => ⟨[], 17, ll⟩
  | y :: r => ⟨y :: r, er, y.2⟩
def St.next (s : St) : St := ⟨s.r.tail, s.e, s.ln⟩
def needD (ll : Int) (t : Nm) (s : St) : St := if s.e = 0 ∧ seesL t s.r = true then s.next else s.bad ll 3
def tokD (ll k : Int) (s : St) : Tok × St := if s.e = 0 ∧ kindL s.r = k then (tokO s.r, s.next) else (tokO [], s.bad ll 3)
def loopN (ll : Int) : Nat → Bool → List Nm → St → List Nm × St
  | 0, _, acc, s => (acc, s)
  | n + 1, least, acc, s => if s.e = 0 ∧ (least = true ∨ kindL s.r = 1) then loopN ll n false (acc ++ [(tokD ll 1 s).1.1.t]) (tokD ll 1 s).2 else (acc, s)
def namesD (ll : Int) (least : Bool) (s : St) : List Nm × St := loopN ll (s.r.length + 2) least [] s
abbrev Dp (α : Type) := St → α × St
def bindD (ll : Int) (ex : Dp Ex) : Dp Bnd := fun s =>
  (((namesD ll true s).1.headD [], (namesD ll true s).1.tail, (ex (needD ll [61] (namesD ll true s).2)).1), (ex (needD ll [61] (namesD ll true s).2)).2)
def moreD {α : Type} (item : Dp α) : Nat → List α → Dp (List α)
  | 0, acc => fun s => (acc, s)
  | n + 1, acc => fun s => if s.e = 0 ∧ seesL [59] s.r = true then moreD item n (acc ++ [(item s.next).1]) (item s.next).2 else (acc, s)
def someD {α : Type} (item : Dp α) : Dp (List α) := fun s => moreD item ((item s).2.r.length + 1) [(item s).1] (item s).2
def atomD (ll : Int) (ex : Dp Ex) : Dp Ex := fun s =>
  if kindL s.r = 1 then (.leaf 1 (tokD ll 1 s).1.1.t, (tokD ll 1 s).2)
  else if kindL s.r = 2 then (.leaf 2 (tokD ll 2 s).1.1.t, (tokD ll 2 s).2)
  else if kindL s.r = 7 then (.leaf 5 (tokD ll 7 s).1.1.t, (tokD ll 7 s).2)
  else if kindL s.r = 3 then (.num (tokD ll 3 s).1.1.f (tokD ll 3 s).1.1.x, (tokD ll 3 s).2)
  else ((ex s.next).1, needD ll [41] (ex s.next).2)
def begins (r : List Tok) : Prop := kindL r = 1 ∨ kindL r = 2 ∨ kindL r = 7 ∨ kindL r = 3 ∨ seesL [40] r = true
instance (r : List Tok) : Decidable (begins r) := inferInstanceAs (Decidable (_ ∨ _))
def atomsD (ll : Int) (ex : Dp Ex) : Nat → List Ex → Dp (List Ex)
  | 0, acc => fun s => (acc, s)
  | n + 1, acc => fun s => if s.e = 0 ∧ begins s.r then atomsD ll ex n (acc ++ [(atomD ll ex s).1]) (atomD ll ex s).2 else (acc, s)
def blankX : Ex := .leaf 0 []
def rowX (k : Int) : List Ex → Ex
  | [] => blankX
  | [x] => x
  | x :: y :: xs => if k = 2 ∨ k = 7 then x.withKids (y :: xs) else .mk 4 [] false 0 [] (x :: y :: xs) [] []
def rowD (ll : Int) (ex : Dp Ex) : Dp Ex := fun s =>
  (rowX (kindL s.r) (atomsD ll ex (s.r.length + 1) [] s).1, if (atomsD ll ex (s.r.length + 1) [] s).1 = [] then (atomsD ll ex (s.r.length + 1) [] s).2.bad ll 3 else (atomsD ll ex (s.r.length + 1) [] s).2)
def startsL (r : List Tok) : Prop := kindL r = 1 ∨ kindL r = 2 ∨ kindL r = 3 ∨ kindL r = 7 ∨ seesL [108, 101, 116] r = true ∨ seesL [99, 97, 115, 101] r = true ∨ seesL [40] r = true ∨ seesL [92] r = true
instance (r : List Tok) : Decidable (startsL r) := inferInstanceAs (Decidable (_ ∨ _))
def altD (ll : Int) (ex : Dp Ex) : Dp Alt := fun s =>
  if kindL s.r = 2 then
    ((0, (tokD ll 2 s).1.1.t, false, 0, (namesD ll false (tokD ll 2 s).2).1, (ex (needD ll [45, 62] (namesD ll false (tokD ll 2 s).2).2)).1), (ex (needD ll [45, 62] (namesD ll false (tokD ll 2 s).2).2)).2)
  else if kindL s.r = 3 then
    ((1, [], (tokD ll 3 s).1.1.f, (tokD ll 3 s).1.1.x, [], (ex (needD ll [45, 62] (tokD ll 3 s).2)).1), (ex (needD ll [45, 62] (tokD ll 3 s).2)).2)
  else
    ((2, (tokD ll 1 s).1.1.t, false, 0, [], (ex (needD ll [45, 62] (tokD ll 1 s).2)).1), (ex (needD ll [45, 62] (tokD ll 1 s).2)).2)
def letD (ll : Int) (ex : Dp Ex) : Dp Ex := fun s =>
  (.mk 6 [] false 0 [] [(ex (needD ll [105, 110] (someD (bindD ll ex) s).2)).1] (someD (bindD ll ex) s).1 [], (ex (needD ll [105, 110] (someD (bindD ll ex) s).2)).2)
def ofD (ll : Int) (s : St) : St := needD ll [123] (needD ll [111, 102] s)
def caseD (ll : Int) (ex : Dp Ex) : Dp Ex := fun s =>
  if (ofD ll (ex s).2).e = 0 ∧ seesL [125] (ofD ll (ex s).2).r = true then (.mk 7 [] false 0 [] [(ex s).1] [] [], (ofD ll (ex s).2).next)
  else (.mk 7 [] false 0 [] [(ex s).1] [] (someD (altD ll ex) (ofD ll (ex s).2)).1, needD ll [125] (someD (altD ll ex) (ofD ll (ex s).2)).2)
def lamD (ll : Int) (ex : Dp Ex) : Dp Ex := fun s =>
  (.mk 8 [] false 0 (namesD ll true s).1 [(ex (needD ll [45, 62] (namesD ll true s).2)).1] [] [], (ex (needD ll [45, 62] (namesD ll true s).2)).2)
def rowsD (ll : Int) (ex : Dp Ex) : Dp Ex := fun s =>
  if (rowD ll ex s).2.e = 0 ∧ kindL (rowD ll ex s).2.r = 4 then
    (.mk 5 (tokD ll 4 (rowD ll ex s).2).1.1.t false 0 [] [(rowD ll ex s).1, (rowD ll ex (tokD ll 4 (rowD ll ex s).2).2).1] [] [], (rowD ll ex (tokD ll 4 (rowD ll ex s).2).2).2)
  else rowD ll ex s
def exprD (ll : Int) : Nat → Dp Ex
  | 0 => fun s => if s.e ≠ 0 then (blankX, s) else (blankX, (if startsL s.r then s.bad ll 12 else s).bad ll 3)
  | k + 1 => fun s =>
    if s.e ≠ 0 then (blankX, s)
    else if seesL [108, 101, 116] s.r = true then letD ll (exprD ll k) s.next
    else if seesL [99, 97, 115, 101] s.r = true then caseD ll (exprD ll k) s.next
    else if seesL [92] s.r = true then lamD ll (exprD ll k) s.next
    else rowsD ll (exprD ll k) s
def declD (ll : Int) (s : St) : St := if kindL s.r = 3 ∧ ((tokO s.r).1.f = true ∨ 24 < (tokO s.r).1.x) then s.bad ll 1 else s
def declsD (ll : Int) : Nat → List (Nm × Int) → Dp (List (Nm × Int))
  | 0, acc => fun s => (acc, s)
  | n + 1, acc => fun s => if s.e = 0 ∧ kindL s.r = 2 then declsD ll n (acc ++ [((tokD ll 2 s).1.1.t, (tokD ll 3 (declD ll (tokD ll 2 s).2)).1.1.x)]) (tokD ll 3 (declD ll (tokD ll 2 s).2)).2 else (acc, s)
def dataD (ll : Int) : Dp (List (Nm × Int)) := fun s => ((declsD ll (s.r.length + 1) [] s).1, needD ll [59] (declsD ll (s.r.length + 1) [] s).2)
def moduleD (ll : Int) : Nat → List (Nm × Int) → List Bnd → Dp Md
  | 0, cs, bs => fun s => ((cs, bs), s)
  | n + 1, cs, bs => fun s =>
    if s.e = 0 ∧ s.r ≠ [] then
      (if seesL [100, 97, 116, 97] s.r = true then moduleD ll n (cs ++ (dataD ll s.next).1) bs (dataD ll s.next).2
       else moduleD ll n cs (bs ++ [(bindD ll (exprD ll 200) s).1]) (needD ll [59] (bindD ll (exprD ll 200) s).2))
    else ((cs, bs), s)
def Dead {α : Type} (d : Dp α) : Prop := ∀ s, s.e ≠ 0 → (d s).2.e = s.e ∧ (d s).2.ln = s.ln
theorem bad_dead {ll er : Int} {s : St} (h : s.e ≠ 0) : s.bad ll er = s := by unfold St.bad; rw [if_pos h]
theorem need_dead {ll : Int} {t : Nm} {s : St} (h : s.e ≠ 0) : needD ll t s = s := by unfold needD; rw [if_neg (fun g => h g.1), bad_dead h]
theorem tok_dead {ll k : Int} {s : St} (h : s.e ≠ 0) : tokD ll k s = (tokO [], s) := by unfold tokD; rw [if_neg (fun g => h g.1), bad_dead h]
theorem names_dead {ll : Int} {b : Bool} {s : St} (h : s.e ≠ 0) : namesD ll b s = ([], s) := by unfold namesD loopN; rw [if_neg (fun g => h g.1)]
theorem bind_dead {ll : Int} {ex : Dp Ex} (hx : Dead ex) : Dead (bindD ll ex) := fun s h => by
  unfold bindD; rw [names_dead h, need_dead h]; exact hx s h
theorem more_dead {α : Type} {item : Dp α} (n : Nat) (acc : List α) {s : St} (h : s.e ≠ 0) : moreD item n acc s = (acc, s) := by
  cases n with
  | zero => rfl
  | succ n => unfold moreD; rw [if_neg (fun g => h g.1)]
theorem some_dead {α : Type} {item : Dp α} (hx : Dead item) : Dead (someD item) := fun s h => by
  have h1 := hx s h
  unfold someD
  rw [more_dead _ _ (by rw [h1.1]; exact h)]
  exact h1
theorem atoms_dead {ll : Int} {ex : Dp Ex} (n : Nat) (acc : List Ex) {s : St} (h : s.e ≠ 0) : atomsD ll ex n acc s = (acc, s) := by
  cases n with
  | zero => rfl
  | succ n => unfold atomsD; rw [if_neg (fun g => h g.1)]
theorem expr_dead {ll : Int} : ∀ k, Dead (exprD ll k)
  | 0 => fun s h => by unfold exprD; rw [if_pos h]; exact ⟨rfl, rfl⟩
  | k + 1 => fun s h => by unfold exprD; rw [if_pos h]; exact ⟨rfl, rfl⟩
theorem alt_dead {ll : Int} {ex : Dp Ex} (hx : Dead ex) : Dead (altD ll ex) := fun s h => by
  unfold altD
  split
  · rw [tok_dead h, names_dead h, need_dead h]; exact hx s h
  split
  · rw [tok_dead h, need_dead h]; exact hx s h
  · rw [tok_dead h, need_dead h]; exact hx s h
def lastOf : Int → List Tok → Int
  | l, [] => l
  | _, y :: r => lastOf y.2 r
def Tv (y : Tok) : Prop := ∃ c t, y.1.t = c :: t ∧ TkOk y.1 c
def Tvs (r : List Tok) : Prop := ∀ x, x ∈ r → Tv x
theorem Tvs.tail {y : Tok} {r : List Tok} (h : Tvs (y :: r)) : Tvs r := fun x hx => h x (List.mem_cons_of_mem _ hx)
def AgS {α : Type} (ll : Int) (o : Out α) (s : St) : Prop :=
  match o with
  | .ok _ l r => s = ⟨r, 0, 0⟩ ∧ lastOf l r = ll ∧ Tvs r
  | .bad e ln => e ≠ 0 ∧ s.e = e ∧ s.ln = ln
def Ag {α : Type} (ll : Int) (o : Out α) (d : α × St) : Prop :=
  match o with
  | .ok a l r => d = (a, ⟨r, 0, 0⟩) ∧ lastOf l r = ll ∧ Tvs r
  | .bad e ln => e ≠ 0 ∧ d.2.e = e ∧ d.2.ln = ln
def Sim {α : Type} (ll : Int) (p : Par α) (d : Dp α) : Prop := ∀ last rest, lastOf last rest = ll → Tvs rest → Ag ll (p last rest) (d ⟨rest, 0, 0⟩)
theorem kind_shape {k : Int} (h5 : k ≠ 5) (h6 : k ≠ 6) (rest : List Tok) : kindL rest = k ↔ shapeL rest = (k, []) := by
  cases rest with
  | nil => simp [kindL, shapeL]
  | cons y r =>
    simp only [kindL, shapeL, shapeT]
    split
    · rename_i h
      constructor
      · intro e; rw [e] at h; rcases h with h | h; exact absurd h h5; exact absurd h h6
      · intro e; rw [(Prod.mk.inj e).1] at h; rcases h with h | h; exact absurd h h5; exact absurd h h6
    · simp
theorem kName (rest : List Tok) : kindL rest = 1 ↔ shapeL rest = sName := kind_shape (by decide) (by decide) rest
theorem kCon (rest : List Tok) : kindL rest = 2 ↔ shapeL rest = sCon := kind_shape (by decide) (by decide) rest
theorem kNum (rest : List Tok) : kindL rest = 3 ↔ shapeL rest = sNum := kind_shape (by decide) (by decide) rest
theorem kSign (rest : List Tok) : kindL rest = 4 ↔ shapeL rest = sSign := kind_shape (by decide) (by decide) rest
theorem kBack (rest : List Tok) : kindL rest = 7 ↔ shapeL rest = sBack := kind_shape (by decide) (by decide) rest
theorem sees_word {c : UInt8} {u : Nm} (hc : Sm c) {rest : List Tok} (hv : Tvs rest) : seesL (c :: u) rest = true ↔ shapeL rest = (5, c :: u) := by
  cases rest with
  | nil => simp [seesL, shapeL]
  | cons y r =>
    obtain ⟨c', u', e, ok⟩ := hv y (List.mem_cons_self ..)
    simp only [seesL, shapeL, shapeT, decide_eq_true_eq]
    constructor
    · rintro ⟨hk, ht⟩
      rw [if_pos hk, ht]
      rcases hk with hk | hk
      · rw [hk]
      · rw [e] at ht
        cases ht
        cases ok with
        | name k _ _ _ _ => rw [k] at hk; cases hk
        | word k _ _ _ _ => rw [hk] at k; rcases k with k | k <;> cases k
        | con k _ _ _ => rw [k] at hk; cases hk
        | num k _ => rw [k] at hk; cases hk
        | sign k ns _ _ _ _ _ => exact absurd hc ns
    · intro h
      split at h
      · rename_i hk
        exact ⟨hk, (Prod.mk.inj h).2⟩
      · cases (Prod.mk.inj h).2
theorem sees_sign {c : UInt8} {u : Nm} (hc : ¬ Sm c) {rest : List Tok} (hv : Tvs rest) : seesL (c :: u) rest = true ↔ shapeL rest = (6, c :: u) := by
  cases rest with
  | nil => simp [seesL, shapeL]
  | cons y r =>
    obtain ⟨c', u', e, ok⟩ := hv y (List.mem_cons_self ..)
    simp only [seesL, shapeL, shapeT, decide_eq_true_eq]
    constructor
    · rintro ⟨hk, ht⟩
      rw [if_pos hk, ht]
      rcases hk with hk | hk
      · rw [e] at ht
        cases ht
        cases ok with
        | name k _ _ _ _ => rw [k] at hk; cases hk
        | word k s _ _ _ => exact absurd s hc
        | con k _ _ _ => rw [k] at hk; cases hk
        | num k _ => rw [k] at hk; cases hk
        | sign k ns _ _ _ _ _ => rw [hk] at k; rcases k with k | k <;> cases k
      · rw [hk]
    · intro h
      split at h
      · rename_i hk
        exact ⟨hk, (Prod.mk.inj h).2⟩
      · cases (Prod.mk.inj h).2
theorem refuse_ag {α : Type} {ll er last : Int} {rest : List Tok} (her : er ≠ 0) (hl : lastOf last rest = ll) : AgS ll (refuseO er last rest : Out α) (St.bad ll er ⟨rest, 0, 0⟩) := by
  unfold St.bad
  cases rest with
  | nil => exact ⟨by decide, rfl, hl.symm⟩
  | cons y r => exact ⟨her, rfl, rfl⟩
theorem want_ag {ll last : Int} {rest : List Tok} {sh : Sh} {t : Nm} (h0 : sh.1 ≠ 0) (hs : seesL t rest = true ↔ shapeL rest = sh) (hl : lastOf last rest = ll) (hv : Tvs rest) : AgS ll (wantO sh last rest) (needD ll t ⟨rest, 0, 0⟩) := by
  unfold wantO needD
  by_cases g : shapeL rest = sh
  · rw [if_pos g, if_pos ⟨rfl, hs.2 g⟩]
    obtain ⟨y, r, rfl⟩ := take_of g h0
    exact ⟨rfl, hl, hv.tail⟩
  · rw [if_neg g, if_neg (fun h => g (hs.1 h.2))]
    exact refuse_ag (by decide) hl
theorem AgS.of {α β : Type} {ll : Int} {o : Out α} {s : St} (h : AgS ll o s) {f : α → Int → List Tok → Out β} {d : β × St} (hok : ∀ a l r, o = .ok a l r → s = ⟨r, 0, 0⟩ → lastOf l r = ll → Tvs r → Ag ll (f a l r) d) (hbad : s.e ≠ 0 → d.2.e = s.e ∧ d.2.ln = s.ln) : Ag ll (o.bind f) d := by
  cases o with
  | ok a l r => exact hok a l r rfl h.1 h.2.1 h.2.2
  | bad e ln =>
    obtain ⟨h1, h2, h3⟩ := h
    have := hbad (by rw [h2]; exact h1)
    exact ⟨h1, this.1.trans h2, this.2.trans h3⟩
theorem Ag.st {α : Type} {ll : Int} {o : Out α} {d : α × St} (h : Ag ll o d) : AgS ll o d.2 := by
  cases o with
  | ok a l r => rw [h.1]; exact ⟨rfl, h.2⟩
  | bad e ln => exact h
theorem Ag.of {α β : Type} {ll : Int} {o : Out α} {d0 : α × St} (h : Ag ll o d0) {f : α → Int → List Tok → Out β} {d : β × St} (hok : ∀ a l r, o = .ok a l r → d0 = (a, ⟨r, 0, 0⟩) → lastOf l r = ll → Tvs r → Ag ll (f a l r) d) (hbad : d0.2.e ≠ 0 → d.2.e = d0.2.e ∧ d.2.ln = d0.2.ln) : Ag ll (o.bind f) d := by
  cases o with
  | ok a l r => exact hok a l r rfl h.1 h.2.1 h.2.2
  | bad e ln => exact AgS.of (α := α) (o := .bad e ln) h.st (fun _ _ _ q => by cases q) hbad
theorem Ag.done {α : Type} {ll : Int} {a : α} {l : Int} {r : List Tok} {d : α × St} (hd : d = (a, ⟨r, 0, 0⟩)) (hl : lastOf l r = ll) (hv : Tvs r) : Ag ll (.ok a l r) d := ⟨hd, hl, hv⟩
theorem AgS.ag {α : Type} {ll : Int} {e ln : Int} {s : St} {d : α × St} (h : AgS ll (.bad e ln : Out α) s) (hd : d.2 = s) : Ag ll (.bad e ln) d := by
  obtain ⟨h1, h2, h3⟩ := h
  exact ⟨h1, by rw [hd]; exact h2, by rw [hd]; exact h3⟩
theorem refuse_Ag {α : Type} {ll er last : Int} {rest : List Tok} (her : er ≠ 0) (hl : lastOf last rest = ll) {d : α × St} (hd : d.2 = St.bad ll er ⟨rest, 0, 0⟩) : Ag ll (refuseO er last rest) d := by
  have h := refuse_ag (α := α) her hl
  rw [refuseO_eq] at h ⊢
  exact h.ag hd
theorem tok_ok {ll k : Int} {rest : List Tok} (h0 : k ≠ 0) (hk : kindL rest = k) : ∃ y r, rest = y :: r ∧ tokD ll k ⟨rest, 0, 0⟩ = (y, ⟨r, 0, 0⟩) := by
  cases rest with
  | nil => exact absurd hk.symm h0
  | cons y r => exact ⟨y, r, rfl, by unfold tokD; rw [if_pos ⟨rfl, hk⟩]; rfl⟩
theorem names_acc : ∀ (r : List Tok) (l : Int) (acc : List Nm), namesO l r acc = (acc ++ (namesO l r []).1, (namesO l r []).2)
  | [], l, acc => by simp [namesO]
  | y :: r, l, acc => by
    unfold namesO
    split
    · rw [names_acc r y.2 (acc ++ [y.1.t]), names_acc r y.2 ([] ++ [y.1.t])]
      simp
    · simp
theorem names_ag (ll : Int) : ∀ (r : List Tok) (l : Int) (acc : List Nm) (n : Nat), r.length < n → lastOf l r = ll → Tvs r →
    loopN ll n false acc ⟨r, 0, 0⟩ = ((namesO l r acc).1, ⟨(namesO l r acc).2.2, 0, 0⟩) ∧ lastOf (namesO l r acc).2.1 (namesO l r acc).2.2 = ll ∧ Tvs (namesO l r acc).2.2
  | [], l, acc, n + 1, hn, hl, hv => by
    refine ⟨?_, hl, hv⟩
    unfold loopN
    rw [if_neg (by rintro ⟨-, h | h⟩ <;> cases h)]
    rfl
  | y :: r, l, acc, n + 1, hn, hl, hv => by
    by_cases g : kindL (y :: r) = 1
    · have gs : shapeT y.1 = sName := (kName (y :: r)).1 g
      obtain ⟨y', r', e, ht⟩ := tok_ok (ll := ll) (k := 1) (by decide) g
      cases e
      unfold loopN namesO
      rw [if_pos ⟨rfl, Or.inr g⟩, ht, if_pos gs]
      exact names_ag ll r y.2 _ n (by simp at hn; omega) hl hv.tail
    · have gs : ¬ shapeT y.1 = sName := fun h => g ((kName _).2 h)
      unfold loopN namesO
      rw [if_neg (by rintro ⟨-, h | h⟩; cases h; exact g h), if_neg gs]
      exact ⟨rfl, hl, hv⟩
theorem names1_ok {ll : Int} {y : Tok} {r : List Tok} (hk : kindL (y :: r) = 1) (hl : lastOf y.2 r = ll) (hv : Tvs r) :
    namesD ll true ⟨y :: r, 0, 0⟩ = (y.1.t :: (namesO y.2 r []).1, ⟨(namesO y.2 r []).2.2, 0, 0⟩) ∧ lastOf (namesO y.2 r []).2.1 (namesO y.2 r []).2.2 = ll ∧ Tvs (namesO y.2 r []).2.2 := by
  obtain ⟨y', r', e, ht⟩ := tok_ok (ll := ll) (k := 1) (by decide) hk
  cases e
  have h := names_ag ll r y.2 [y.1.t] (r.length + 2) (by omega) hl hv
  rw [names_acc] at h
  unfold namesD
  rw [show (y :: r).length + 2 = (r.length + 2) + 1 from by simp]
  unfold loopN
  rw [if_pos ⟨rfl, Or.inl rfl⟩, ht]
  exact h
theorem names1_bad {ll : Int} {rest : List Tok} (hk : kindL rest ≠ 1) : namesD ll true ⟨rest, 0, 0⟩ = ([[]], St.bad ll 3 ⟨rest, 0, 0⟩) := by
  have ht : tokD ll 1 ⟨rest, 0, 0⟩ = (tokO [], St.bad ll 3 ⟨rest, 0, 0⟩) := by unfold tokD; rw [if_neg (fun h => hk h.2)]
  have hb : (St.bad ll 3 ⟨rest, 0, 0⟩).e ≠ 0 := by unfold St.bad; cases rest <;> simp
  unfold namesD loopN
  rw [if_pos ⟨rfl, Or.inl rfl⟩, ht]
  unfold loopN
  rw [if_neg (fun h => hb h.1)]
  rfl
theorem names0_ok {ll l : Int} {r : List Tok} (hl : lastOf l r = ll) (hv : Tvs r) :
    namesD ll false ⟨r, 0, 0⟩ = ((namesO l r []).1, ⟨(namesO l r []).2.2, 0, 0⟩) ∧ lastOf (namesO l r []).2.1 (namesO l r []).2.2 = ll ∧ Tvs (namesO l r []).2.2 :=
  names_ag ll r l [] (r.length + 2) (by omega) hl hv
theorem bad_ne0 {ll er : Int} {rest : List Tok} (her : er ≠ 0) : (St.bad ll er ⟨rest, 0, 0⟩).e ≠ 0 := by unfold St.bad; cases rest <;> simp [her]
theorem want_name {last : Int} {rest : List Tok} : wantO sName last rest = if kindL rest = 1 then takeO last rest else refuseO 3 last rest := by
  unfold wantO
  by_cases g : kindL rest = 1
  · rw [if_pos g, if_pos ((kName _).1 g)]
  · rw [if_neg g, if_neg (fun h => g ((kName _).2 h))]
theorem bind_sim {ll : Int} {ex : Par Ex} {dx : Dp Ex} (hx : Sim ll ex dx) (hd : Dead dx) : Sim ll (bindO ex) (bindD ll dx) := by
  intro last rest hl hv
  unfold bindO bindD
  rw [want_name]
  by_cases g : kindL rest = 1
  · rw [if_pos g]
    obtain ⟨y, r, rfl, -⟩ := tok_ok (ll := ll) (k := 1) (by decide) g
    obtain ⟨e1, e2, e3⟩ := names1_ok (ll := ll) g hl hv.tail
    rw [e1]
    simp only [takeO, Out.bind, List.headD_cons, List.tail_cons]
    refine (want_ag (sh := sEq) (by decide) (sees_sign (by unfold Sm; decide) e3) e2 e3).of (fun a l r ho hs hl hv => ?_) (fun he => hd _ he)
    rw [hs]
    refine (hx l r hl hv).of (fun b l2 r2 ho2 hs2 hl2 hv2 => ?_) (fun he => ⟨rfl, rfl⟩)
    rw [hs2]
    exact .done rfl hl2 hv2
  · rw [if_neg g, names1_bad g, refuseO_eq]
    have hb := bad_ne0 (ll := ll) (er := 3) (rest := rest) (by decide)
    rw [need_dead hb]
    have h := refuse_ag (α := Tok) (ll := ll) (er := 3) (by decide) hl
    rw [refuseO_eq] at h
    obtain ⟨h1, h2, h3⟩ := h
    obtain ⟨d1, d2⟩ := hd _ hb
    exact ⟨h1, d1.trans h2, d2.trans h3⟩
theorem more_sim {α : Type} {ll : Int} {item : Par α} {d : Dp α} (hi : Sim ll item d) (hd : Dead d) : ∀ (n : Nat) (acc : List α), Sim ll (moreO item n acc) (moreD d n acc)
  | 0, acc => fun last rest hl hv => .done rfl hl hv
  | n + 1, acc => fun last rest hl hv => by
    have hs : seesL [59] rest = true ↔ shapeL rest = sSemi := sees_sign (by unfold Sm; decide) hv
    unfold moreO moreD
    by_cases g : shapeL rest = sSemi
    · rw [if_pos g, if_pos ⟨rfl, hs.2 g⟩]
      obtain ⟨y, q, rfl⟩ := take_of g (by decide)
      simp only [takeO, Out.bind]
      rw [show St.next ⟨y :: q, 0, 0⟩ = ⟨q, 0, 0⟩ from rfl]
      refine (hi y.2 q hl hv.tail).of (fun a l r ho hs hl hv => ?_) (fun he => by rw [more_dead _ _ he]; exact ⟨rfl, rfl⟩)
      rw [hs]
      exact more_sim hi hd n _ l r hl hv
    · rw [if_neg g, if_neg (fun h => g (hs.1 h.2))]
      exact .done rfl hl hv
theorem some_sim {α : Type} {ll : Int} {item : Par α} {d : Dp α} (hi : Sim ll item d) (hd : Dead d) : Sim ll (someO item) (someD d) := by
  intro last rest hl hv
  unfold someO someD
  refine (hi last rest hl hv).of (fun a l r ho hs hl hv => ?_) (fun he => by rw [more_dead _ _ he]; exact ⟨rfl, rfl⟩)
  rw [hs]
  exact more_sim hi hd _ _ l r hl hv
theorem begins_iff {rest : List Tok} (hv : Tvs rest) : begins rest ↔ shapeL rest ∈ atomShapes := by
  unfold begins atomShapes
  rw [kind_shape (by decide) (by decide), kind_shape (by decide) (by decide), kind_shape (by decide) (by decide), kind_shape (by decide) (by decide), sees_sign (by unfold Sm; decide) hv]
  simp only [List.mem_cons, List.not_mem_nil, or_false, sName, sCon, sNum, sBack, sOpen]
  constructor
  · rintro (h | h | h | h | h) <;> simp [h]
  · rintro (h | h | h | h | h) <;> simp [h]
theorem tok_take {ll k last : Int} {rest : List Tok} (h0 : k ≠ 0) (hk : kindL rest = k) (hl : lastOf last rest = ll) (hv : Tvs rest) {β : Type} {f : Tok → Int → List Tok → Out β} {d : β × St}
    (h : ∀ y r, rest = y :: r → tokD ll k ⟨rest, 0, 0⟩ = (y, ⟨r, 0, 0⟩) → lastOf y.2 r = ll → Tvs r → Ag ll (f y y.2 r) d) : Ag ll ((takeO last rest).bind f) d := by
  obtain ⟨y, r, rfl, ht⟩ := tok_ok (ll := ll) h0 hk
  exact h y r rfl ht hl hv.tail
theorem atom_sim {ll : Int} {ex : Par Ex} {dx : Dp Ex} (hx : Sim ll ex dx) {last : Int} {rest : List Tok} (hl : lastOf last rest = ll) (hv : Tvs rest) (hb : begins rest) : Ag ll (atomO ex last rest) (atomD ll dx ⟨rest, 0, 0⟩) := by
  unfold atomO atomD
  have k1 := kName rest
  have k2 := kCon rest
  have k3 := kNum rest
  have k7 := kBack rest
  by_cases g1 : kindL rest = 1
  · rw [if_pos (k1.1 g1), if_pos g1]
    refine tok_take (by decide) g1 hl hv fun y r e ht hl hv => ?_
    rw [ht]
    exact .done rfl hl hv
  rw [if_neg (fun h => g1 (k1.2 h)), if_neg g1]
  by_cases g2 : kindL rest = 2
  · rw [if_pos (k2.1 g2), if_pos g2]
    refine tok_take (by decide) g2 hl hv fun y r e ht hl hv => ?_
    rw [ht]
    exact .done rfl hl hv
  rw [if_neg (fun h => g2 (k2.2 h)), if_neg g2]
  by_cases g3 : kindL rest = 3
  · rw [if_pos (k3.1 g3), if_neg (by rw [g3]; decide), if_pos g3]
    refine tok_take (by decide) g3 hl hv fun y r e ht hl hv => ?_
    rw [ht]
    exact .done rfl hl hv
  rw [if_neg (fun h => g3 (k3.2 h))]
  by_cases g7 : kindL rest = 7
  · rw [if_pos (k7.1 g7), if_pos g7]
    refine tok_take (by decide) g7 hl hv fun y r e ht hl hv => ?_
    rw [ht]
    exact .done rfl hl hv
  rw [if_neg (fun h => g7 (k7.2 h)), if_neg g7, if_neg g3]
  have hs : shapeL rest = sOpen := by
    rcases hb with h | h | h | h | h
    · exact absurd h g1
    · exact absurd h g2
    · exact absurd h g7
    · exact absurd h g3
    · exact (sees_sign (by unfold Sm; decide) hv).1 h
  rw [if_pos hs]
  unfold innerO wantO
  rw [if_pos hs]
  obtain ⟨y, q, rfl⟩ := take_of hs (by decide)
  simp only [takeO, Out.bind]
  rw [show (St.next ⟨y :: q, 0, 0⟩) = ⟨q, 0, 0⟩ from rfl]
  refine (hx y.2 q hl hv.tail).of (fun a l r ho hs hl hv => ?_) (fun he => by rw [need_dead he]; exact ⟨rfl, rfl⟩)
  rw [hs]
  refine (want_ag (sh := sShut) (t := [41]) (by decide) (sees_sign (by unfold Sm; decide) hv) hl hv).of (fun a2 l2 r2 ho hs hl hv => ?_) (fun he => ⟨rfl, rfl⟩)
  rw [hs]
  exact .done rfl hl hv
theorem atoms_sim {ll : Int} {ex : Par Ex} {dx : Dp Ex} (hx : Sim ll ex dx) (hsh : Shrinks ex) : ∀ (nO nD : Nat) (acc pre : List Ex) (last : Int) (rest : List Tok), rest.length < nO → rest.length < nD → lastOf last rest = ll → Tvs rest →
    Ag ll ((atomsO ex nO acc last rest).bind fun xs l r => .ok (pre ++ xs) l r) (atomsD ll dx nD (pre ++ acc) ⟨rest, 0, 0⟩)
  | nO + 1, nD + 1, acc, pre, last, rest, hO, hD, hl, hv => by
    unfold atomsO atomsD
    by_cases g : begins rest
    · rw [if_pos ((begins_iff hv).1 g), if_pos ⟨rfl, g⟩]
      have ha := atom_sim hx hl hv g
      cases ho : atomO ex last rest with
      | bad e ln =>
        rw [ho] at ha
        obtain ⟨h1, h2, h3⟩ := ha
        rw [atoms_dead _ _ (by rw [h2]; exact h1)]
        exact ⟨h1, h2, h3⟩
      | ok a l r =>
        have hst := atom_strict hsh ho
        rw [ho] at ha
        obtain ⟨h1, h2, h3⟩ := ha
        rw [h1]
        simp only [Out.bind]
        rw [List.append_assoc]
        exact atoms_sim hx hsh nO nD (acc ++ [a]) pre l r (by omega) (by omega) h2 h3
    · rw [if_neg (fun h => g ((begins_iff hv).2 h)), if_neg (fun h => g h.2)]
      exact .done rfl hl hv
theorem atom_leaf {ex : Par Ex} {last l : Int} {rest r : List Tok} {a : Ex} (h : atomO ex last rest = .ok a l r) (hs : shapeL rest = sCon ∨ shapeL rest = sBack) : a.withKids [] = a := by
  unfold atomO at h
  rcases hs with hs | hs
  · obtain ⟨y, q, rfl⟩ := take_of hs (by decide)
    rw [hs, if_neg (by decide), if_pos rfl] at h
    cases h
    rfl
  · obtain ⟨y, q, rfl⟩ := take_of hs (by decide)
    rw [hs, if_neg (by decide), if_neg (by decide), if_neg (by decide), if_pos rfl] at h
    cases h
    rfl
theorem row_sim {ll : Int} {ex : Par Ex} {dx : Dp Ex} (hx : Sim ll ex dx) (hsh : Shrinks ex) : Sim ll (rowO ex) (rowD ll dx) := by
  intro last rest hl hv
  unfold rowO rowD
  by_cases g : begins rest
  · have ha := atom_sim hx hl hv g
    have hun : atomsD ll dx (rest.length + 1) [] ⟨rest, 0, 0⟩ = atomsD ll dx rest.length [(atomD ll dx ⟨rest, 0, 0⟩).1] (atomD ll dx ⟨rest, 0, 0⟩).2 := by
      conv => lhs; unfold atomsD
      rw [if_pos ⟨rfl, g⟩]
      rfl
    simp only
    rw [hun]
    cases ho : atomO ex last rest with
    | bad e ln =>
      rw [ho] at ha
      obtain ⟨h1, h2, h3⟩ := ha
      rw [atoms_dead _ _ (by rw [h2]; exact h1)]
      refine ⟨h1, ?_⟩
      simp only [List.cons_ne_nil, if_false]
      exact ⟨h2, h3⟩
    | ok a l r =>
      have hst := atom_strict hsh ho
      have hlf := fun h => atom_leaf ho h
      rw [ho] at ha
      obtain ⟨h1, h2, h3⟩ := ha
      rw [h1]
      have hr := atoms_sim hx hsh (r.length + 1) rest.length [] [a] l r (by omega) hst h2 h3
      simp only [List.append_nil] at hr
      simp only [Out.bind]
      cases hq : atomsO ex (r.length + 1) [] l r with
      | bad e ln =>
        rw [hq] at hr
        obtain ⟨e1, e2, e3⟩ := hr
        have hne : (atomsD ll dx rest.length [a] ⟨r, 0, 0⟩).1 ≠ [] ∨ (atomsD ll dx rest.length [a] ⟨r, 0, 0⟩).2.bad ll 3 = (atomsD ll dx rest.length [a] ⟨r, 0, 0⟩).2 := Or.inr (bad_dead (by rw [e2]; exact e1))
        refine ⟨e1, ?_⟩
        split
        · rcases hne with h | h
          · contradiction
          · rw [h]; exact ⟨e2, e3⟩
        · exact ⟨e2, e3⟩
      | ok xs l2 r2 =>
        rw [hq] at hr
        obtain ⟨e1, e2, e3⟩ := hr
        refine .done ?_ e2 e3
        rw [e1]
        simp only [List.cons_append, List.nil_append, List.cons_ne_nil, if_false]
        congr 1
        have kk : (kindL rest = 2 ∨ kindL rest = 7) ↔ (shapeL rest = sCon ∨ shapeL rest = sBack) := by rw [kind_shape (by decide) (by decide), kind_shape (by decide) (by decide)]; rfl
        cases xs with
        | nil =>
          show a = rowE _ a []
          unfold rowE
          split
          · rename_i h
            exact (hlf (of_decide_eq_true h)).symm
          · rw [if_pos rfl]
        | cons x xs =>
          show (if kindL rest = 2 ∨ kindL rest = 7 then a.withKids (x :: xs) else .mk 4 [] false 0 [] (a :: x :: xs) [] []) = rowE _ a (x :: xs)
          unfold rowE
          by_cases h : kindL rest = 2 ∨ kindL rest = 7
          · rw [if_pos h, if_pos (decide_eq_true (kk.1 h))]
          · rw [if_neg h, if_neg (by simpa using fun h' => h (kk.2 h')), if_neg (by simp)]
  · have hn : shapeL rest ≠ sName ∧ shapeL rest ≠ sCon ∧ shapeL rest ≠ sNum ∧ shapeL rest ≠ sBack ∧ shapeL rest ≠ sOpen := by
      have this : ¬ shapeL rest ∈ atomShapes := fun h => g ((begins_iff hv).2 h)
      simp only [atomShapes, List.mem_cons, List.not_mem_nil, or_false, not_or] at this
      exact this
    have hun : atomsD ll dx (rest.length + 1) [] ⟨rest, 0, 0⟩ = ([], ⟨rest, 0, 0⟩) := by
      conv => lhs; unfold atomsD
      rw [if_neg (fun h => g h.2)]
    simp only
    rw [hun, atomO_none hn]
    have h := refuse_ag (α := Ex) (ll := ll) (er := 3) (by decide) hl
    rw [refuseO_eq] at h
    exact h.ag (by simp)
theorem rows_sim {ll : Int} {ex : Par Ex} {dx : Dp Ex} (hx : Sim ll ex dx) (hsh : Shrinks ex) : Sim ll (rowsO ex) (rowsD ll dx) := by
  intro last rest hl hv
  unfold rowsO rowsD
  refine (row_sim hx hsh last rest hl hv).of (fun a l r ho hs hl hv => ?_) (fun he => by rw [if_neg (fun h => he h.1)]; exact ⟨rfl, rfl⟩)
  rw [hs]
  by_cases g : kindL r = 4
  · rw [if_pos ((kSign _).1 g), if_pos ⟨rfl, g⟩]
    refine tok_take (by decide) g hl hv fun y r2 e ht hl hv => ?_
    rw [ht]
    refine (row_sim hx hsh y.2 r2 hl hv).of (fun b l3 r3 ho hs hl hv => ?_) (fun he => ⟨rfl, rfl⟩)
    rw [hs]
    exact .done rfl hl hv
  · rw [if_neg (fun h => g ((kSign _).2 h)), if_neg (fun h => g h.2)]
    exact .done rfl hl hv
theorem want_at {last : Int} {rest : List Tok} {sh : Sh} (g : shapeL rest = sh) (h0 : sh.1 ≠ 0) {β : Type} {f : Tok → Int → List Tok → Out β} {ll : Int} {d : Dp β} (hl : lastOf last rest = ll) (hv : Tvs rest)
    (h : ∀ y r, lastOf y.2 r = ll → Tvs r → Ag ll (f y y.2 r) (d ⟨r, 0, 0⟩)) : Ag ll ((wantO sh last rest).bind f) (d (St.next ⟨rest, 0, 0⟩)) := by
  obtain ⟨y, r, rfl⟩ := take_of g h0
  unfold wantO
  rw [if_pos g]
  exact h y r hl hv.tail
theorem let_sim {ll : Int} {ex : Par Ex} {dx : Dp Ex} (hx : Sim ll ex dx) (hd : Dead dx) {last : Int} {rest : List Tok} (hl : lastOf last rest = ll) (hv : Tvs rest) (g : shapeL rest = sLet) : Ag ll (letO ex last rest) (letD ll dx (St.next ⟨rest, 0, 0⟩)) := by
  unfold letO
  refine want_at g (by decide) hl hv fun y r hl hv => ?_
  unfold letD
  refine (some_sim (bind_sim hx hd) (bind_dead hd) y.2 r hl hv).of (fun a l r ho hs hl hv => ?_) (fun he => by rw [need_dead he]; exact hd _ he)
  rw [hs]
  refine (want_ag (sh := sIn) (t := [105, 110]) (by decide) (sees_word (by unfold Sm; decide) hv) hl hv).of (fun a2 l2 r2 ho hs hl hv => ?_) (fun he => hd _ he)
  rw [hs]
  refine (hx l2 r2 hl hv).of (fun b l3 r3 ho hs hl hv => ?_) (fun he => ⟨rfl, rfl⟩)
  rw [hs]
  exact .done rfl hl hv
theorem lam_sim {ll : Int} {ex : Par Ex} {dx : Dp Ex} (hx : Sim ll ex dx) (hd : Dead dx) {last : Int} {rest : List Tok} (hl : lastOf last rest = ll) (hv : Tvs rest) (g : shapeL rest = sLam) : Ag ll (lamO ex last rest) (lamD ll dx (St.next ⟨rest, 0, 0⟩)) := by
  unfold lamO
  refine want_at g (by decide) hl hv fun y r hl hv => ?_
  unfold lamD
  by_cases g : kindL r = 1
  · rw [if_pos ((kName _).1 g)]
    obtain ⟨z, r, rfl, -⟩ := tok_ok (ll := ll) (k := 1) (by decide) g
    obtain ⟨e1, e2, e3⟩ := names1_ok (ll := ll) g hl hv.tail
    have hn : namesO y.2 (z :: r) [] = (z.1.t :: (namesO z.2 r []).1, (namesO z.2 r []).2) := by
      conv => lhs; unfold namesO
      rw [if_pos (show shapeT z.1 = sName from (kName (z :: r)).1 g), names_acc]
      rfl
    rw [e1, hn]
    refine (want_ag (sh := sArrow) (t := [45, 62]) (by decide) (sees_sign (by unfold Sm; decide) e3) e2 e3).of (fun a2 l2 r2 ho hs hl hv => ?_) (fun he => hd _ he)
    rw [hs]
    refine (hx l2 r2 hl hv).of (fun b l3 r3 ho hs hl hv => ?_) (fun he => ⟨rfl, rfl⟩)
    rw [hs]
    exact .done rfl hl hv
  · rw [if_neg (fun h => g ((kName _).2 h)), names1_bad g]
    have hb := bad_ne0 (ll := ll) (er := 3) (rest := r) (by decide)
    rw [need_dead hb]
    have h := refuse_ag (α := Ex) (ll := ll) (er := 3) (by decide) hl
    rw [refuseO_eq] at h ⊢
    obtain ⟨h1, h2, h3⟩ := h
    obtain ⟨d1, d2⟩ := hd _ hb
    exact ⟨h1, d1.trans h2, d2.trans h3⟩
theorem alt_sim {ll : Int} {ex : Par Ex} {dx : Dp Ex} (hx : Sim ll ex dx) (hd : Dead dx) : Sim ll (altO ex) (altD ll dx) := by
  intro last rest hl hv
  unfold altO altD
  have k2 := kCon rest
  have k3 := kNum rest
  by_cases g2 : kindL rest = 2
  · rw [if_pos (k2.1 g2), if_pos g2]
    refine tok_take (by decide) g2 hl hv fun y r e ht hl hv => ?_
    obtain ⟨e1, e2, e3⟩ := names0_ok (ll := ll) hl hv
    rw [ht, e1]
    refine (want_ag (sh := sArrow) (t := [45, 62]) (by decide) (sees_sign (by unfold Sm; decide) e3) e2 e3).of (fun a2 l2 r2 ho hs hl hv => ?_) (fun he => hd _ he)
    rw [hs]
    refine (hx l2 r2 hl hv).of (fun b l3 r3 ho hs hl hv => ?_) (fun he => ⟨rfl, rfl⟩)
    rw [hs]
    exact .done rfl hl hv
  rw [if_neg (fun h => g2 (k2.2 h)), if_neg g2]
  by_cases g3 : kindL rest = 3
  · rw [if_pos (k3.1 g3), if_pos g3]
    refine tok_take (by decide) g3 hl hv fun y r e ht hl hv => ?_
    rw [ht]
    refine (want_ag (sh := sArrow) (t := [45, 62]) (by decide) (sees_sign (by unfold Sm; decide) hv) hl hv).of (fun a2 l2 r2 ho hs hl hv => ?_) (fun he => hd _ he)
    rw [hs]
    refine (hx l2 r2 hl hv).of (fun b l3 r3 ho hs hl hv => ?_) (fun he => ⟨rfl, rfl⟩)
    rw [hs]
    exact .done rfl hl hv
  rw [if_neg (fun h => g3 (k3.2 h)), if_neg g3, want_name]
  by_cases g : kindL rest = 1
  · rw [if_pos g]
    refine tok_take (by decide) g hl hv fun y r e ht hl hv => ?_
    rw [ht]
    refine (want_ag (sh := sArrow) (t := [45, 62]) (by decide) (sees_sign (by unfold Sm; decide) hv) hl hv).of (fun a2 l2 r2 ho hs hl hv => ?_) (fun he => hd _ he)
    rw [hs]
    refine (hx l2 r2 hl hv).of (fun b l3 r3 ho hs hl hv => ?_) (fun he => ⟨rfl, rfl⟩)
    rw [hs]
    exact .done rfl hl hv
  · rw [if_neg g]
    have ht : tokD ll 1 ⟨rest, 0, 0⟩ = (tokO [], St.bad ll 3 ⟨rest, 0, 0⟩) := by unfold tokD; rw [if_neg (fun h => g h.2)]
    have hb := bad_ne0 (ll := ll) (er := 3) (rest := rest) (by decide)
    rw [ht, need_dead hb]
    have h := refuse_ag (α := Ex) (ll := ll) (er := 3) (by decide) hl
    rw [refuseO_eq] at h ⊢
    obtain ⟨h1, h2, h3⟩ := h
    obtain ⟨d1, d2⟩ := hd _ hb
    exact ⟨h1, d1.trans h2, d2.trans h3⟩
theorem case_sim {ll : Int} {ex : Par Ex} {dx : Dp Ex} (hx : Sim ll ex dx) (hd : Dead dx) {last : Int} {rest : List Tok} (hl : lastOf last rest = ll) (hv : Tvs rest) (g : shapeL rest = sCase) : Ag ll (caseO ex last rest) (caseD ll dx (St.next ⟨rest, 0, 0⟩)) := by
  unfold caseO
  refine want_at g (by decide) hl hv fun y r hl hv => ?_
  unfold caseD
  have dead : ∀ s : St, s.e ≠ 0 → ∀ x : Ex, (if s.e = 0 ∧ seesL [125] s.r = true then (Ex.mk 7 [] false 0 [] [x] [] [], s.next) else (.mk 7 [] false 0 [] [x] [] (someD (altD ll dx) s).1, needD ll [125] (someD (altD ll dx) s).2)).2.e = s.e ∧ (if s.e = 0 ∧ seesL [125] s.r = true then (Ex.mk 7 [] false 0 [] [x] [] [], s.next) else (.mk 7 [] false 0 [] [x] [] (someD (altD ll dx) s).1, needD ll [125] (someD (altD ll dx) s).2)).2.ln = s.ln := by
    intro s hs x
    rw [if_neg (fun h => hs h.1)]
    obtain ⟨d1, d2⟩ := some_dead (alt_dead hd) s hs
    simp only
    rw [need_dead (by rw [d1]; exact hs)]
    exact ⟨d1, d2⟩
  refine (hx y.2 r hl hv).of (fun a l r ho hs hl hv => ?_) (fun he => ?_)
  rotate_left
  · have ho : ofD ll (dx ⟨r, 0, 0⟩).2 = (dx ⟨r, 0, 0⟩).2 := by unfold ofD; rw [need_dead he, need_dead he]
    rw [ho]
    exact dead _ he _
  rw [hs]
  simp only
  unfold ofD
  refine (want_ag (sh := sOf) (t := [111, 102]) (by decide) (sees_word (by unfold Sm; decide) hv) hl hv).of (fun a2 l2 r2 ho hs hl hv => ?_) (fun he => ?_)
  rotate_left
  · rw [need_dead he]
    exact dead _ he _
  rw [hs]
  refine (want_ag (sh := sCurl) (t := [123]) (by decide) (sees_sign (by unfold Sm; decide) hv) hl hv).of (fun a2 l2 r2 ho hs hl hv => ?_) (fun he => dead _ he _)
  rw [hs]
  have hq : seesL [125] r2 = true ↔ shapeL r2 = sLruc := sees_sign (by unfold Sm; decide) hv
  by_cases g : shapeL r2 = sLruc
  · rw [if_pos g, if_pos ⟨rfl, hq.2 g⟩]
    obtain ⟨z, q, rfl⟩ := take_of g (by decide)
    unfold wantO
    rw [if_pos g]
    exact .done rfl hl hv.tail
  · rw [if_neg g, if_neg (fun h => g (hq.1 h.2))]
    refine (some_sim (alt_sim hx hd) (alt_dead hd) l2 r2 hl hv).of (fun a l r ho hs hl hv => ?_) (fun he => by rw [need_dead he]; exact ⟨rfl, rfl⟩)
    rw [hs]
    refine (want_ag (sh := sLruc) (t := [125]) (by decide) (sees_sign (by unfold Sm; decide) hv) hl hv).of (fun a2 l2 r2 ho hs hl hv => ?_) (fun he => ⟨rfl, rfl⟩)
    rw [hs]
    exact .done rfl hl hv
theorem starts_iff {rest : List Tok} (hv : Tvs rest) : startsL rest ↔ shapeL rest ∈ exprShapes := by
  unfold startsL exprShapes
  rw [kind_shape (by decide) (by decide), kind_shape (by decide) (by decide), kind_shape (by decide) (by decide), kind_shape (by decide) (by decide), sees_sign (c := 40) (by unfold Sm; decide) hv, sees_sign (c := 92) (by unfold Sm; decide) hv, sees_word (c := 108) (by unfold Sm; decide) hv, sees_word (c := 99) (by unfold Sm; decide) hv]
  simp only [List.mem_cons, List.not_mem_nil, or_false, sName, sCon, sNum, sBack, sOpen, sLet, sCase, sLam]
  constructor
  · rintro (h | h | h | h | h | h | h | h) <;> simp [h]
  · rintro (h | h | h | h | h | h | h | h) <;> simp [h]
theorem expr_sim {ll : Int} : ∀ (n k d : Nat), k + d = 200 → 200 < n + d → Sim ll (exprO n d) (exprD ll k)
  | 0, k, d, h1, h2 => by omega
  | n + 1, 0, d, h1, h2 => by
    intro last rest hl hv
    obtain rfl : d = 200 := by omega
    unfold exprO exprD
    rw [if_neg (show ¬ ((⟨rest, 0, 0⟩ : St).e ≠ 0) by simp)]
    by_cases g : startsL rest
    · rw [if_pos ((starts_iff hv).1 g), if_pos rfl, if_pos g, bad_dead (bad_ne0 (by decide))]
      exact refuse_Ag (by decide) hl rfl
    · rw [if_neg (fun h => g ((starts_iff hv).2 h)), if_neg g]
      exact refuse_Ag (by decide) hl rfl
  | n + 1, k + 1, d, h1, h2 => by
    intro last rest hl hv
    have hx : Sim ll (exprO n (d + 1)) (exprD ll k) := expr_sim n k (d + 1) (by omega) (by omega)
    have hd : Dead (exprD ll k) := expr_dead k
    have hsh := expr_shrinks n (d + 1)
    have s1 : seesL [108, 101, 116] rest = true ↔ shapeL rest = sLet := sees_word (by unfold Sm; decide) hv
    have s2 : seesL [99, 97, 115, 101] rest = true ↔ shapeL rest = sCase := sees_word (by unfold Sm; decide) hv
    have s3 : seesL [92] rest = true ↔ shapeL rest = sLam := sees_sign (by unfold Sm; decide) hv
    unfold exprO exprD
    rw [if_neg (show ¬ ((⟨rest, 0, 0⟩ : St).e ≠ 0) by simp)]
    by_cases g : shapeL rest ∈ exprShapes
    · rw [if_pos g, if_neg (by omega)]
      by_cases g1 : shapeL rest = sLet
      · rw [if_pos g1, if_pos (s1.2 g1)]
        exact let_sim hx hd hl hv g1
      rw [if_neg g1, if_neg (fun h => g1 (s1.1 h))]
      by_cases g2 : shapeL rest = sCase
      · rw [if_pos g2, if_pos (s2.2 g2)]
        exact case_sim hx hd hl hv g2
      rw [if_neg g2, if_neg (fun h => g2 (s2.1 h))]
      by_cases g3 : shapeL rest = sLam
      · rw [if_pos g3, if_pos (s3.2 g3)]
        exact lam_sim hx hd hl hv g3
      rw [if_neg g3, if_neg (fun h => g3 (s3.1 h))]
      exact rows_sim hx hsh last rest hl hv
    · have hn := g
      simp only [exprShapes, List.mem_cons, List.not_mem_nil, or_false, not_or] at hn
      rw [if_neg g, if_neg (fun h => hn.1 (s1.1 h)), if_neg (fun h => hn.2.1 (s2.1 h)), if_neg (fun h => hn.2.2.1 (s3.1 h))]
      have hb : ¬ begins rest := fun h => by
        have := (begins_iff hv).1 h
        simp only [atomShapes, List.mem_cons, List.not_mem_nil, or_false] at this
        rcases this with h | h | h | h | h
        · exact hn.2.2.2.1 h
        · exact hn.2.2.2.2.1 h
        · exact hn.2.2.2.2.2.1 h
        · exact hn.2.2.2.2.2.2.1 h
        · exact hn.2.2.2.2.2.2.2 h
      have hun : atomsD ll (exprD ll k) (rest.length + 1) [] ⟨rest, 0, 0⟩ = ([], ⟨rest, 0, 0⟩) := by
        conv => lhs; unfold atomsD
        rw [if_neg (fun h => hb h.2)]
      have hrow : rowD ll (exprD ll k) ⟨rest, 0, 0⟩ = (blankX, St.bad ll 3 ⟨rest, 0, 0⟩) := by
        unfold rowD
        simp only
        rw [hun]
        rfl
      unfold rowsD
      rw [hrow, if_neg (fun h => bad_ne0 (by decide) h.1)]
      exact refuse_Ag (by decide) hl rfl
theorem decls_sim {ll : Int} : ∀ (n : Nat) (acc : List (Nm × Int)), Sim ll (declsO n acc) (declsD ll n acc)
  | 0, acc => fun last rest hl hv => .done rfl hl hv
  | n + 1, acc => fun last rest hl hv => by
    unfold declsO declsD
    by_cases g : kindL rest = 2
    · rw [if_pos ((kCon _).1 g), if_pos ⟨rfl, g⟩]
      refine tok_take (by decide) g hl hv fun y r e ht hl hv => ?_
      rw [ht]
      simp only
      by_cases g3 : kindL r = 3
      · rw [if_pos ((kNum _).1 g3)]
        obtain ⟨u, q, rfl, hu⟩ := tok_ok (ll := ll) (k := 3) (by decide) g3
        simp only [takeO, Out.bind]
        by_cases gr : u.1.f = true ∨ 24 < u.1.x
        · have hdd : declD ll ⟨u :: q, 0, 0⟩ = St.bad ll 1 ⟨u :: q, 0, 0⟩ := by unfold declD; rw [if_pos ⟨g3, gr⟩]
          have hb := bad_ne0 (ll := ll) (er := 1) (rest := u :: q) (by decide)
          rw [if_pos gr, hdd, tok_dead hb]
          have hdz : ∀ acc, declsD ll n acc (St.bad ll 1 ⟨u :: q, 0, 0⟩) = (acc, St.bad ll 1 ⟨u :: q, 0, 0⟩) := fun acc => by
            cases n with
            | zero => rfl
            | succ n => unfold declsD; rw [if_neg (fun h => hb h.1)]
          simp only
          rw [hdz]
          exact refuse_Ag (by decide) hl rfl
        · have hdd : declD ll ⟨u :: q, 0, 0⟩ = ⟨u :: q, 0, 0⟩ := by unfold declD; rw [if_neg (fun h => gr h.2)]
          rw [if_neg gr, hdd, hu]
          exact decls_sim n _ u.2 q hl hv.tail
      · have hdd : declD ll ⟨r, 0, 0⟩ = ⟨r, 0, 0⟩ := by unfold declD; rw [if_neg (fun h => g3 h.1)]
        have ht3 : tokD ll 3 ⟨r, 0, 0⟩ = (tokO [], St.bad ll 3 ⟨r, 0, 0⟩) := by unfold tokD; rw [if_neg (fun h => g3 h.2)]
        have hb := bad_ne0 (ll := ll) (er := 3) (rest := r) (by decide)
        have hdz : ∀ acc, declsD ll n acc (St.bad ll 3 ⟨r, 0, 0⟩) = (acc, St.bad ll 3 ⟨r, 0, 0⟩) := fun acc => by
          cases n with
          | zero => rfl
          | succ n => unfold declsD; rw [if_neg (fun h => hb h.1)]
        rw [if_neg (fun h => g3 ((kNum _).2 h)), hdd, ht3]
        simp only
        rw [hdz]
        exact refuse_Ag (by decide) hl rfl
    · rw [if_neg (fun h => g ((kCon _).2 h)), if_neg (fun h => g h.2)]
      exact .done rfl hl hv
theorem module_dead {ll : Int} (n : Nat) (cs : List (Nm × Int)) (bs : List Bnd) {s : St} (h : s.e ≠ 0) : moduleD ll n cs bs s = ((cs, bs), s) := by
  cases n with
  | zero => rfl
  | succ n => unfold moduleD; rw [if_neg (fun g => h g.1)]
theorem module_sim {ll : Int} : ∀ (n : Nat) (cs : List (Nm × Int)) (bs : List Bnd), Sim ll (moduleO n cs bs) (moduleD ll n cs bs)
  | 0, cs, bs => fun last rest hl hv => .done rfl hl hv
  | n + 1, cs, bs => fun last rest hl hv => by
    unfold moduleO moduleD
    by_cases g0 : rest = []
    · rw [if_pos g0, if_neg (fun h => h.2 g0)]
      exact .done rfl hl hv
    rw [if_neg g0, if_pos (show (⟨rest, 0, 0⟩ : St).e = 0 ∧ (⟨rest, 0, 0⟩ : St).r ≠ [] from ⟨rfl, g0⟩)]
    have s1 : seesL [100, 97, 116, 97] rest = true ↔ shapeL rest = sData := sees_word (by unfold Sm; decide) hv
    by_cases g : shapeL rest = sData
    · rw [if_pos g, if_pos (s1.2 g)]
      obtain ⟨y, r, rfl⟩ := take_of g (by decide)
      simp only [takeO, Out.bind]
      rw [show (St.next ⟨y :: r, 0, 0⟩) = ⟨r, 0, 0⟩ from rfl]
      unfold dataD
      refine (decls_sim (r.length + 1) [] y.2 r hl hv.tail).of (fun a l r2 ho hs hl hv => ?_) (fun he => by simp only [need_dead he, module_dead _ _ _ he, and_self])
      simp only
      rw [hs]
      refine (want_ag (sh := sSemi) (t := [59]) (by decide) (sees_sign (by unfold Sm; decide) hv) hl hv).of (fun a2 l2 r2 ho hs hl hv => ?_) (fun he => by simp only [module_dead _ _ _ he, and_self])
      simp only
      rw [hs]
      exact module_sim n _ _ l2 r2 hl hv
    · rw [if_neg g, if_neg (fun h => g (s1.1 h))]
      refine (bind_sim (expr_sim (rest.length + 201) 200 0 rfl (by omega)) (expr_dead 200) last rest hl hv).of (fun a l r ho hs hl hv => ?_) (fun he => by simp only [need_dead he, module_dead _ _ _ he, and_self])
      rw [hs]
      refine (want_ag (sh := sSemi) (t := [59]) (by decide) (sees_sign (by unfold Sm; decide) hv) hl hv).of (fun a2 l2 r2 ho hs hl hv => ?_) (fun he => by simp only [module_dead _ _ _ he, and_self])
      simp only
      rw [hs]
      exact module_sim n _ _ l2 r2 hl hv
theorem parse_sim {T : List Tok} (hv : Tvs T) : Ag (lastOf 1 T) (parseO T) (moduleD (lastOf 1 T) (T.length + 1) [] [] ⟨T, 0, 0⟩) := module_sim _ _ _ 1 T rfl hv
def mS (s : St) : Nat := if s.e = 0 then s.r.length + 1 else 0
theorem mS_dead {s : St} (h : s.e ≠ 0) : mS s = 0 := if_neg h
theorem mS_alive {s : St} (h : s.e = 0) : mS s = s.r.length + 1 := if_pos h
def Mn {α : Type} (d : Dp α) : Prop := ∀ s, mS (d s).2 ≤ mS s
theorem bad_e {ll er : Int} {s : St} (he : er ≠ 0) : (s.bad ll er).e ≠ 0 := by
  unfold St.bad
  by_cases h : s.e ≠ 0
  · rw [if_pos h]; exact h
  · rw [if_neg h]
    cases s.r with
    | nil => simp
    | cons y r => exact he
theorem bad_mn {ll er : Int} {s : St} (he : er ≠ 0) : mS (s.bad ll er) ≤ mS s := by rw [mS_dead (bad_e he)]; exact Nat.zero_le _
theorem next_mn (s : St) : mS s.next ≤ mS s := by
  unfold mS St.next
  simp only
  split
  · have := List.length_tail (l := s.r); omega
  · exact Nat.le_refl _
theorem next_lt {s : St} (h : s.e = 0) (hr : s.r ≠ []) : mS s.next < mS s := by
  unfold mS St.next
  simp only [h, if_true]
  have := List.length_pos_iff.2 hr
  have := List.length_tail (l := s.r)
  omega
theorem sees_ne {t : Nm} {r : List Tok} (h : seesL t r = true) : r ≠ [] := by rintro rfl; cases h
theorem kind_ne {k : Int} (hk : k ≠ 0) {r : List Tok} (h : kindL r = k) : r ≠ [] := by rintro rfl; exact hk h.symm
theorem need_mn (ll : Int) (t : Nm) (s : St) : mS (needD ll t s) ≤ mS s := by
  unfold needD
  split
  · exact next_mn s
  · exact bad_mn (by decide)
theorem tok_mn (ll k : Int) (s : St) : mS (tokD ll k s).2 ≤ mS s := by
  unfold tokD
  split
  · exact next_mn s
  · exact bad_mn (by decide)
theorem tok_lt {ll k : Int} (hk : k ≠ 0) {s : St} (h : s.e = 0) : mS (tokD ll k s).2 < mS s := by
  unfold tokD
  split
  · rename_i g; exact next_lt h (kind_ne hk g.2)
  · simp only
    rw [mS_dead (bad_e (by decide)), mS_alive h]
    omega
theorem loop_mn (ll : Int) : ∀ (n : Nat) (b : Bool) (acc : List Nm) (s : St), mS (loopN ll n b acc s).2 ≤ mS s
  | 0, _, _, _ => Nat.le_refl _
  | n + 1, b, acc, s => by
    unfold loopN
    split
    · exact Nt (loop_mn ll n _ _ _) (tok_mn _ _ _)
    · exact Nat.le_refl _
theorem names_mn (ll : Int) (b : Bool) (s : St) : mS (namesD ll b s).2 ≤ mS s := loop_mn _ _ _ _ _
theorem names_lt {ll : Int} {s : St} (h : s.e = 0) : mS (namesD ll true s).2 < mS s := by
  unfold namesD loopN
  rw [if_pos ⟨h, Or.inl rfl⟩]
  exact Nat.lt_of_le_of_lt (loop_mn _ _ _ _ _) (tok_lt (by decide) h)
theorem bind_mn {ll : Int} {ex : Dp Ex} (hx : Mn ex) : Mn (bindD ll ex) := fun _ => Nt (hx _) (Nt (need_mn _ _ _) (names_mn _ _ _))
theorem bind_lt {ll : Int} {ex : Dp Ex} (hx : Mn ex) {s : St} (h : s.e = 0) : mS (bindD ll ex s).2 < mS s := Nat.lt_of_le_of_lt (Nt (hx _) (need_mn _ _ _)) (names_lt h)
theorem more_mn {α : Type} {item : Dp α} (hx : Mn item) : ∀ (n : Nat) (acc : List α), Mn (moreD item n acc)
  | 0, _ => fun _ => Nat.le_refl _
  | n + 1, acc => fun s => by
    unfold moreD
    split
    · exact Nt (more_mn hx n _ _) (Nt (hx _) (next_mn _))
    · exact Nat.le_refl _
theorem some_mn {α : Type} {item : Dp α} (hx : Mn item) : Mn (someD item) := fun s => Nt (more_mn hx _ _ _) (hx s)
theorem atom_mn {ll : Int} {ex : Dp Ex} (hx : Mn ex) : Mn (atomD ll ex) := fun s => by
  unfold atomD
  split
  · exact tok_mn _ _ _
  split
  · exact tok_mn _ _ _
  split
  · exact tok_mn _ _ _
  split
  · exact tok_mn _ _ _
  · exact Nt (need_mn _ _ _) (Nt (hx _) (next_mn _))
theorem atom_lt {ll : Int} {ex : Dp Ex} (hx : Mn ex) {s : St} (h : s.e = 0) (hb : begins s.r) : mS (atomD ll ex s).2 < mS s := by
  unfold atomD
  split
  · exact tok_lt (by decide) h
  split
  · exact tok_lt (by decide) h
  split
  · exact tok_lt (by decide) h
  split
  · exact tok_lt (by decide) h
  · rename_i g1 g2 g3 g4
    have hs : seesL [40] s.r = true := by
      rcases hb with h | h | h | h | h
      · exact absurd h g1
      · exact absurd h g2
      · exact absurd h g3
      · exact absurd h g4
      · exact h
    exact Nat.lt_of_le_of_lt (Nt (need_mn _ _ _) (hx _)) (next_lt h (sees_ne hs))
theorem atoms_mn {ll : Int} {ex : Dp Ex} (hx : Mn ex) : ∀ (n : Nat) (acc : List Ex), Mn (atomsD ll ex n acc)
  | 0, _ => fun _ => Nat.le_refl _
  | n + 1, acc => fun s => by
    unfold atomsD
    split
    · exact Nt (atoms_mn hx n _ _) (atom_mn hx _)
    · exact Nat.le_refl _
theorem row_mn {ll : Int} {ex : Dp Ex} (hx : Mn ex) : Mn (rowD ll ex) := fun s => by
  unfold rowD
  simp only
  split
  · exact Nt (bad_mn (by decide)) (atoms_mn hx _ _ _)
  · exact atoms_mn hx _ _ _
theorem alt_mn {ll : Int} {ex : Dp Ex} (hx : Mn ex) : Mn (altD ll ex) := fun s => by
  unfold altD
  split
  · exact Nt (hx _) (Nt (need_mn _ _ _) (Nt (names_mn _ _ _) (tok_mn _ _ _)))
  split
  · exact Nt (hx _) (Nt (need_mn _ _ _) (tok_mn _ _ _))
  · exact Nt (hx _) (Nt (need_mn _ _ _) (tok_mn _ _ _))
theorem let_mn {ll : Int} {ex : Dp Ex} (hx : Mn ex) : Mn (letD ll ex) := fun _ => Nt (hx _) (Nt (need_mn _ _ _) (some_mn (bind_mn hx) _))
theorem of_mn (ll : Int) (s : St) : mS (ofD ll s) ≤ mS s := Nt (need_mn _ _ _) (need_mn _ _ _)
theorem case_mn {ll : Int} {ex : Dp Ex} (hx : Mn ex) : Mn (caseD ll ex) := fun s => by
  unfold caseD
  split
  · exact Nt (next_mn _) (Nt (of_mn _ _) (hx _))
  · exact Nt (need_mn _ _ _) (Nt (some_mn (alt_mn hx) _) (Nt (of_mn _ _) (hx _)))
theorem lam_mn {ll : Int} {ex : Dp Ex} (hx : Mn ex) : Mn (lamD ll ex) := fun _ => Nt (hx _) (Nt (need_mn _ _ _) (names_mn _ _ _))
theorem rows_mn {ll : Int} {ex : Dp Ex} (hx : Mn ex) : Mn (rowsD ll ex) := fun s => by
  unfold rowsD
  split
  · exact Nt (row_mn hx _) (Nt (tok_mn _ _ _) (row_mn hx _))
  · exact row_mn hx _
theorem expr_mn {ll : Int} : ∀ k, Mn (exprD ll k)
  | 0 => fun s => by
    unfold exprD
    split
    · exact Nat.le_refl _
    · refine Nt (bad_mn (by decide)) ?_
      split
      · exact bad_mn (by decide)
      · exact Nat.le_refl _
  | k + 1 => fun s => by
    unfold exprD
    split
    · exact Nat.le_refl _
    split
    · exact Nt (let_mn (expr_mn k) _) (next_mn _)
    split
    · exact Nt (case_mn (expr_mn k) _) (next_mn _)
    split
    · exact Nt (lam_mn (expr_mn k) _) (next_mn _)
    · exact rows_mn (expr_mn k) _
theorem decl_mn (ll : Int) (s : St) : mS (declD ll s) ≤ mS s := by
  unfold declD
  split
  · exact bad_mn (by decide)
  · exact Nat.le_refl _
theorem decl_lt {ll : Int} {s : St} (h : s.e = 0) : mS (tokD ll 3 (declD ll (tokD ll 2 s).2)).2 < mS s := Nat.lt_of_le_of_lt (Nt (tok_mn _ _ _) (decl_mn _ _)) (tok_lt (by decide) h)
theorem declsd_len (ll : Int) : ∀ (n : Nat) (acc : List (Nm × Int)) (s : St), (declsD ll n acc s).1.length + mS (declsD ll n acc s).2 ≤ acc.length + mS s
  | 0, _, _ => Nat.le_refl _
  | n + 1, acc, s => by
    unfold declsD
    split
    · rename_i g
      have h1 := declsd_len ll n (acc ++ [((tokD ll 2 s).1.1.t, (tokD ll 3 (declD ll (tokD ll 2 s).2)).1.1.x)]) (tokD ll 3 (declD ll (tokD ll 2 s).2)).2
      have h2 := decl_lt (ll := ll) g.1
      simp only [List.length_append, List.length_cons, List.length_nil] at h1
      omega
    · exact Nat.le_refl _
structure PAt (w : World) (b : Nat) (T : List Tok) (s : St) : Prop where
  c0 : ∃ v, w.cell? ⟨b, 0, none⟩ = some v ∧ RestIn w b v T
  c1 : ∃ i : Nat, i ≤ T.length ∧ s.r = T.drop i ∧ w.cell? ⟨b, 1, none⟩ = some (.int .i64 i)
  c2 : w.cell? ⟨b, 2, none⟩ = some (.int .i64 s.e)
  c3 : w.cell? ⟨b, 3, none⟩ = some (.int .i64 s.ln)
  z : ∀ j, w.frozen? ⟨b, j, none⟩ = false
  n : T.length ≤ 100000
theorem PAt.lt {w : World} {b : Nat} {T : List Tok} {s : St} (h : PAt w b T s) : b < w.heap.size := Bl h.c2
theorem RestIn.keep {w w' : World} {b : Nat} {v : Value} {rest : List Tok} (h : RestIn w b v rest) (hk : ∀ g, g ≤ b → w'.heap[g]? = w.heap[g]?) : RestIn w' b v rest := by
  obtain ⟨a, c, e, h1, h2, h3⟩ := h
  refine ⟨a, c, e, h1, h2, ?_⟩
  rcases h3 with h3 | ⟨g, o, e2, hg, ht⟩
  · exact Or.inl h3
  · refine Or.inr ⟨g, o, e2, hg, fun j hj => ?_⟩
    obtain ⟨t0, t1, t2, t3, t4⟩ := ht j hj
    have k := hk g (Nat.le_of_lt hg)
    exact ⟨(World.cell?_of_block (a := ⟨g, _, none⟩) k).trans t0, (World.cell?_of_block (a := ⟨g, _, none⟩) k).trans t1, (World.cell?_of_block (a := ⟨g, _, none⟩) k).trans t2, (World.cell?_of_block (a := ⟨g, _, none⟩) k).trans t3, (World.cell?_of_block (a := ⟨g, _, none⟩) k).trans t4⟩
theorem PAt.keep {w w' : World} {b : Nat} {T : List Tok} {s : St} (h : PAt w b T s) (hk : ∀ g, g ≤ b → w'.heap[g]? = w.heap[g]?) : PAt w' b T s := by
  obtain ⟨v, hv, hr⟩ := h.c0
  obtain ⟨i, h1, h2, h3⟩ := h.c1
  have k := hk b Nr
  exact ⟨⟨v, (World.cell?_of_block (a := ⟨b, _, none⟩) k).trans hv, hr.keep hk⟩, ⟨i, h1, h2, (World.cell?_of_block (a := ⟨b, _, none⟩) k).trans h3⟩, (World.cell?_of_block (a := ⟨b, _, none⟩) k).trans h.c2, (World.cell?_of_block (a := ⟨b, _, none⟩) k).trans h.c3, fun j => (World.frozen?_of_block (a := ⟨b, _, none⟩) k).trans (h.z j), h.n⟩
theorem PAt.later {w w' : World} {b : Nat} {T : List Tok} {s : St} (h : PAt w b T s) (hb : Below w.heap.size w w') : PAt w' b T s := h.keep fun g hg => hb.block g (by have := h.lt; omega)
theorem PAt.past {w w' : World} {b q : Nat} {T : List Tok} {s : St} (h : PAt w b T s) (hg : w.grownBy w' (some q)) (hq : b < q) : PAt w' b T s := h.keep fun g hg' => hg.block g (by have := h.lt; omega) (by simp; omega)
theorem PAt.over {w : World} {b p i : Nat} {T : List Tok} {s : St} (h : PAt w b T s) (hp : b < p) (u : Value) : PAt (w.setCell ⟨p, i, none⟩ u) b T s := h.keep fun g hg => Below.heap_setCell _ _ _ _ (by simp only; omega)
theorem PAt.set {w : World} {b i : Nat} {T : List Tok} {s : St} (h : PAt w b T s) (u : Value) (hi : i ≠ 0) : (∃ v, (w.setCell ⟨b, i, none⟩ u).cell? ⟨b, 0, none⟩ = some v ∧ RestIn (w.setCell ⟨b, i, none⟩ u) b v T) ∧ ∀ j, (w.setCell ⟨b, i, none⟩ u).frozen? ⟨b, j, none⟩ = false := by
  obtain ⟨v, hv, hr⟩ := h.c0
  exact ⟨⟨v, (at_oth _ _ _ _ _ hi).trans hv, hr.later (set_grown ..)⟩, fun j => by simp [h.z j]⟩
theorem PAt.next {w : World} {b i : Nat} {T : List Tok} {s : St} (h : PAt w b T s) (hi : w.cell? ⟨b, 1, none⟩ = some (.int .i64 i)) (hr : s.r ≠ []) : PAt (w.setCell ⟨b, 1, none⟩ (.int .i64 ((i : Int) + 1))) b T s.next := by
  obtain ⟨j, h1, h2, h3⟩ := h.c1
  obtain rfl : j = i := by rw [hi] at h3; have := Oi h3; injection this with _ h; omega
  obtain ⟨k0, kz⟩ := h.set (i := 1) (.int .i64 ((j : Int) + 1)) (by decide)
  have hlt : j < T.length := by
    rcases Nat.lt_or_ge j T.length with h | h
    · exact h
    · exact absurd (h2.trans (List.drop_eq_nil_of_le h)) hr
  refine ⟨k0, ⟨j + 1, hlt, ?_, at_sam _ hi⟩, (at_oth _ _ _ _ _ (by decide)).trans h.c2, (at_oth _ _ _ _ _ (by decide)).trans h.c3, kz, h.n⟩
  show s.r.tail = _
  rw [h2, List.tail_drop]
theorem PAt.setE {w : World} {b : Nat} {T : List Tok} {s : St} (h : PAt w b T s) (e : Int) : PAt (w.setCell ⟨b, 2, none⟩ (.int .i64 e)) b T ⟨s.r, e, s.ln⟩ := by
  obtain ⟨i, h1, h2, h3⟩ := h.c1
  obtain ⟨k0, kz⟩ := h.set (i := 2) (.int .i64 e) (by decide)
  exact ⟨k0, ⟨i, h1, h2, (at_oth _ _ _ _ _ (by decide)).trans h3⟩, at_sam _ h.c2, (at_oth _ _ _ _ _ (by decide)).trans h.c3, kz, h.n⟩
theorem PAt.setL {w : World} {b : Nat} {T : List Tok} {s : St} (h : PAt w b T s) (ln : Int) : PAt (w.setCell ⟨b, 3, none⟩ (.int .i64 ln)) b T ⟨s.r, s.e, ln⟩ := by
  obtain ⟨i, h1, h2, h3⟩ := h.c1
  obtain ⟨k0, kz⟩ := h.set (i := 3) (.int .i64 ln) (by decide)
  exact ⟨k0, ⟨i, h1, h2, (at_oth _ _ _ _ _ (by decide)).trans h3⟩, (at_oth _ _ _ _ _ (by decide)).trans h.c2, at_sam _ h.c3, kz, h.n⟩
theorem PAt.view {w : World} {b : Nat} {T : List Tok} {s : St} (h : PAt w b T s) : ∃ i a c, w.cell? ⟨b, 0, none⟩ = some (.slice a T.length c) ∧ T.length ≤ c ∧ c ≤ maxLen ∧ w.cell? ⟨b, 1, none⟩ = some (.int .i64 ((i : Nat) : Int)) ∧ i ≤ T.length ∧ s.r = T.drop i ∧ w.cell? ⟨b, 2, none⟩ = some (.int .i64 s.e) ∧ w.cell? ⟨b, 3, none⟩ = some (.int .i64 s.ln) ∧ (T = [] ∨ ∃ g o, a = some ⟨g, o, none⟩ ∧ g < b ∧ ∀ i (h : i < T.length), TokIn w g (o + i * 5) T[i]) := by
  obtain ⟨v, hv, a, c, rfl, hc, hm, ht⟩ := h.c0
  obtain ⟨i, h1, h2, h3⟩ := h.c1
  exact ⟨i, a, c, hv, hc, hm, h3, h1, h2, h.c2, h.c3, ht⟩
def stM (n b : Nat) (w : World) : Nat :=
  match w.cell? ⟨b, 2, none⟩ with
  | some (.int _ 0) => n + 1 - (RowKit.intOf ((w.cell? ⟨b, 1, none⟩).getD .nilFunc)).toNat
  | _ => 0
theorem PAt.m {w : World} {b : Nat} {T : List Tok} {s : St} (h : PAt w b T s) : stM T.length b w = mS s := by
  obtain ⟨i, h1, h2, h3⟩ := h.c1
  unfold stM mS
  rw [h.c2, h3]
  by_cases g : s.e = 0
  · rw [g, if_pos rfl, h2, List.length_drop]
    simp only [Option.getD_some, RowKit.intOf]
    omega
  · rw [if_neg g]
    split
    · rename_i k heq
      injection heq with heq
      injection heq with _ heq
      exact absurd heq g
    · rfl
theorem dbelow {B : Nat} {w W : World} (h : Below B w W) (n : Nat) : Below B w (W.drewN n) := ⟨h.os, h.tape, h.output, h.size, h.block⟩
def DSaid {α : Type} (b : Nat) (T : List Tok) (V : α → Ending → World → Prop) (o : α × St) (w : World) (e : Ending) (w' : World) : Prop :=
  V o.1 e w' ∧ PAt w' b T o.2 ∧ w.grownBy w' (some b)
theorem last_get {T : List Tok} (h : T ≠ []) (l : Int) : ∃ y, T[T.length - 1]? = some y ∧ lastOf l T = y.2 := by
  induction T generalizing l with
  | nil => exact absurd rfl h
  | cons y r ih =>
    cases r with
    | nil => exact ⟨y, rfl, rfl⟩
    | cons z r =>
      obtain ⟨u, h1, h2⟩ := ih (by simp) y.2
      exact ⟨u, by simpa using h1, h2⟩
end Go.Proofs.YtdjcdecbmeickaaGreatDoor
