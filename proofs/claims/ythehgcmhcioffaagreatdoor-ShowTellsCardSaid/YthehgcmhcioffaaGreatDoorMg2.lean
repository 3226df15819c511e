import Derived.Lib.ItoaLen
import Derived.Deep.QuietTactic
import Derived.BigQuiet
import Derived.Laws.DeepStrings4
import Derived.Test.YthehgcmhcioffaaGreatDoorMg1
namespace Go.Proofs.YthehgcmhcioffaaGreatDoor
set_option maxHeartbeats 64000000
set_option maxRecDepth 100000
open Go.RowKit Go.Lib
abbrev Nm := List UInt8
abbrev Tok := Tk × Int
abbrev Sh := Int × Nm
def shapeT (y : Tk) : Sh := if y.k = 5 ∨ y.k = 6 then (y.k, y.t) else (y.k, [])
def shapeL : List Tok → Sh
  | [] => (0, [])
  | x :: _ => shapeT x.1
def sName : Sh := (1, [])
def sCon : Sh := (2, [])
def sNum : Sh := (3, [])
def sSign : Sh := (4, [])
def sBack : Sh := (7, [])
def sData : Sh := (5, [100, 97, 116, 97])
def sLet : Sh := (5, [108, 101, 116])
def sIn : Sh := (5, [105, 110])
def sCase : Sh := (5, [99, 97, 115, 101])
def sOf : Sh := (5, [111, 102])
def sOpen : Sh := (6, [40])
def sShut : Sh := (6, [41])
def sCurl : Sh := (6, [123])
def sLruc : Sh := (6, [125])
def sSemi : Sh := (6, [59])
def sEq : Sh := (6, [61])
def sArrow : Sh := (6, [45, 62])
def sLam : Sh := (6, [92])
inductive Ex where
  | mk (kind : Int) (name : Nm) (f : Bool) (x : Int) (params : List Nm) (kids : List Ex) (binds : List (Nm × List Nm × Ex)) (alts : List (Int × Nm × Bool × Int × List Nm × Ex))
abbrev Bnd := Nm × List Nm × Ex
abbrev Alt := Int × Nm × Bool × Int × List Nm × Ex
abbrev Md := List (Nm × Int) × List Bnd
def Ex.leaf (kind : Int) (name : Nm) : Ex := .mk kind name false 0 [] [] [] []
def Ex.num (f : Bool) (x : Int) : Ex := .mk 3 [] f x [] [] [] []
def Ex.withKids : Ex → List Ex → Ex
  | .mk k n f x p _ b a, ks => .mk k n f x p ks b a
inductive Out (α : Type) where
  | ok (a : α) (last : Int) (rest : List Tok)
  | bad (e line : Int)
def Out.bind {α β : Type} (o : Out α) (f : α → Int → List Tok → Out β) : Out β :=
  match o with
  | .ok a l r => f a l r
  | .bad e l => .bad e l
abbrev Par (α : Type) := Int → List Tok → Out α
def refuseO {α : Type} (e : Int) : Par α := fun last rest =>
  match rest with
  | [] => .bad 17 last
  | x :: _ => .bad e x.2
def takeO : Par Tok := fun last rest =>
  match rest with
  | [] => .bad 17 last
  | x :: r => .ok x x.2 r
def wantO (s : Sh) : Par Tok := fun last rest => if shapeL rest = s then takeO last rest else refuseO 3 last rest
def namesO : Int → List Tok → List Nm → List Nm × Int × List Tok
  | last, [], acc => (acc, last, [])
  | last, x :: r, acc => if shapeT x.1 = sName then namesO x.2 r (acc ++ [x.1.t]) else (acc, last, x :: r)
def bindO (ex : Par Ex) : Par Bnd := fun last rest =>
  (wantO sName last rest).bind fun t l r =>
    (wantO sEq (namesO l r []).2.1 (namesO l r []).2.2).bind fun _ l2 r2 =>
      (ex l2 r2).bind fun b l3 r3 => .ok (t.1.t, (namesO l r []).1, b) l3 r3
def moreO {α : Type} (item : Par α) : Nat → List α → Par (List α)
  | 0, acc => fun last rest => .ok acc last rest
  | n + 1, acc => fun last rest =>
    if shapeL rest = sSemi then
      (takeO last rest).bind fun _ l r => (item l r).bind fun a l2 r2 => moreO item n (acc ++ [a]) l2 r2
    else .ok acc last rest
def someO {α : Type} (item : Par α) : Par (List α) := fun last rest =>
  (item last rest).bind fun a l r => moreO item (r.length + 1) [a] l r
def atomShapes : List Sh := [sName, sCon, sNum, sBack, sOpen]
def exprShapes : List Sh := [sLet, sCase, sLam, sName, sCon, sNum, sBack, sOpen]
def innerO (ex : Par Ex) : Par Ex := fun last rest =>
  (wantO sOpen last rest).bind fun _ l r => (ex l r).bind fun x l2 r2 => (wantO sShut l2 r2).bind fun _ l3 r3 => .ok x l3 r3
def atomO (ex : Par Ex) : Par Ex := fun last rest =>
  if shapeL rest = sName then (takeO last rest).bind fun t l r => .ok (.leaf 1 t.1.t) l r
  else if shapeL rest = sCon then (takeO last rest).bind fun t l r => .ok (.leaf 2 t.1.t) l r
  else if shapeL rest = sNum then (takeO last rest).bind fun t l r => .ok (.num t.1.f t.1.x) l r
  else if shapeL rest = sBack then (takeO last rest).bind fun t l r => .ok (.leaf 5 t.1.t) l r
  else if shapeL rest = sOpen then innerO ex last rest
  else refuseO 3 last rest
def atomsO (ex : Par Ex) : Nat → List Ex → Par (List Ex)
  | 0, acc => fun last rest => .ok acc last rest
  | n + 1, acc => fun last rest =>
    if shapeL rest ∈ atomShapes then (atomO ex last rest).bind fun a l r => atomsO ex n (acc ++ [a]) l r
    else .ok acc last rest
def rowE (kids : Bool) (first : Ex) (others : List Ex) : Ex :=
  if kids = true then first.withKids others else if others = [] then first else .mk 4 [] false 0 [] (first :: others) [] []
def rowO (ex : Par Ex) : Par Ex := fun last rest =>
  (atomO ex last rest).bind fun a l r => (atomsO ex (r.length + 1) [] l r).bind fun xs l2 r2 => .ok (rowE (decide (shapeL rest = sCon ∨ shapeL rest = sBack)) a xs) l2 r2
def rowsO (ex : Par Ex) : Par Ex := fun last rest =>
  (rowO ex last rest).bind fun a l r =>
    if shapeL r = sSign then
      (takeO l r).bind fun t l2 r2 => (rowO ex l2 r2).bind fun b l3 r3 => .ok (.mk 5 t.1.t false 0 [] [a, b] [] []) l3 r3
    else .ok a l r
def letO (ex : Par Ex) : Par Ex := fun last rest =>
  (wantO sLet last rest).bind fun _ l r => (someO (bindO ex) l r).bind fun bs l2 r2 => (wantO sIn l2 r2).bind fun _ l3 r3 =>
    (ex l3 r3).bind fun x l4 r4 => .ok (.mk 6 [] false 0 [] [x] bs []) l4 r4
def altO (ex : Par Ex) : Par Alt := fun last rest =>
  if shapeL rest = sCon then
    (takeO last rest).bind fun t l r =>
      (wantO sArrow (namesO l r []).2.1 (namesO l r []).2.2).bind fun _ l2 r2 => (ex l2 r2).bind fun x l3 r3 => .ok (0, t.1.t, false, 0, (namesO l r []).1, x) l3 r3
  else if shapeL rest = sNum then
    (takeO last rest).bind fun t l r => (wantO sArrow l r).bind fun _ l2 r2 => (ex l2 r2).bind fun x l3 r3 => .ok (1, [], t.1.f, t.1.x, [], x) l3 r3
  else
    (wantO sName last rest).bind fun t l r => (wantO sArrow l r).bind fun _ l2 r2 => (ex l2 r2).bind fun x l3 r3 => .ok (2, t.1.t, false, 0, [], x) l3 r3
def caseO (ex : Par Ex) : Par Ex := fun last rest =>
  (wantO sCase last rest).bind fun _ l r => (ex l r).bind fun x l2 r2 => (wantO sOf l2 r2).bind fun _ l3 r3 => (wantO sCurl l3 r3).bind fun _ l4 r4 =>
    if shapeL r4 = sLruc then (wantO sLruc l4 r4).bind fun _ l5 r5 => .ok (.mk 7 [] false 0 [] [x] [] []) l5 r5
    else (someO (altO ex) l4 r4).bind fun xs l5 r5 => (wantO sLruc l5 r5).bind fun _ l6 r6 => .ok (.mk 7 [] false 0 [] [x] [] xs) l6 r6
def lamO (ex : Par Ex) : Par Ex := fun last rest =>
  (wantO sLam last rest).bind fun _ l r =>
    if shapeL r = sName then
      (wantO sArrow (namesO l r []).2.1 (namesO l r []).2.2).bind fun _ l2 r2 => (ex l2 r2).bind fun x l3 r3 => .ok (.mk 8 [] false 0 (namesO l r []).1 [x] [] []) l3 r3
    else refuseO 3 l r
def exprO : Nat → Nat → Par Ex
  | 0, _ => fun _ _ => .bad 0 0
  | n + 1, d => fun last rest =>
    if shapeL rest ∈ exprShapes then
      (if d = 200 then refuseO 12 last rest
       else if shapeL rest = sLet then letO (exprO n (d + 1)) last rest
       else if shapeL rest = sCase then caseO (exprO n (d + 1)) last rest
       else if shapeL rest = sLam then lamO (exprO n (d + 1)) last rest
       else rowsO (exprO n (d + 1)) last rest)
    else refuseO 3 last rest
def declsO : Nat → List (Nm × Int) → Par (List (Nm × Int))
  | 0, acc => fun last rest => .ok acc last rest
  | n + 1, acc => fun last rest =>
    if shapeL rest = sCon then
      (takeO last rest).bind fun t l r =>
        if shapeL r = sNum then
          (takeO l r).bind fun u l2 r2 => if u.1.f = true ∨ 24 < u.1.x then refuseO 1 l r else declsO n (acc ++ [(t.1.t, u.1.x)]) l2 r2
        else refuseO 3 l r
    else .ok acc last rest
def moduleO : Nat → List (Nm × Int) → List Bnd → Par Md
  | 0, cs, bs => fun last rest => .ok (cs, bs) last rest
  | n + 1, cs, bs => fun last rest =>
    if rest = [] then .ok (cs, bs) last rest
    else if shapeL rest = sData then
      (takeO last rest).bind fun _ l r => (declsO (r.length + 1) [] l r).bind fun ds l2 r2 => (wantO sSemi l2 r2).bind fun _ l3 r3 => moduleO n (cs ++ ds) bs l3 r3
    else
      (bindO (exprO (rest.length + 201) 0) last rest).bind fun b l2 r2 => (wantO sSemi l2 r2).bind fun _ l3 r3 => moduleO n cs (bs ++ [b]) l3 r3
def parseO (T : List Tok) : Out Md := moduleO (T.length + 1) [] [] 1 T
def Less {α : Type} (m : Nat) : Out α → Prop
  | .ok _ _ r => r.length ≤ m
  | .bad _ _ => True
def Shrinks {α : Type} (p : Par α) : Prop := ∀ last rest, Less rest.length (p last rest)
theorem Less.bind {α β : Type} {m : Nat} {o : Out α} {f : α → Int → List Tok → Out β} (h : Less m o) (hf : ∀ a l r, r.length ≤ m → Less m (f a l r)) : Less m (o.bind f) := by
  cases o with
  | ok a l r => exact hf a l r h
  | bad e l => trivial
theorem Less.mono {α : Type} {m n : Nat} {o : Out α} (h : Less m o) (hm : m ≤ n) : Less n o := by
  cases o with
  | ok a l r => exact Nt h hm
  | bad e l => trivial
def Sm (c : UInt8) : Prop := 97 ≤ c.toNat ∧ c.toNat ≤ 122
def Cp (c : UInt8) : Prop := 65 ≤ c.toNat ∧ c.toNat ≤ 90
def Dg (c : UInt8) : Prop := 48 ≤ c.toNat ∧ c.toNat ≤ 57
inductive TkOk (y : Tk) (c : UInt8) : Prop where
  | name (k : y.k = 1) (s : Sm c) (w : wordF y.t = none) (f : y.f = false) (x : y.x = 0)
  | word (k : y.k = 5 ∨ y.k = 7) (s : Sm c) (w : wordF y.t = some y.k) (f : y.f = false) (x : y.x = 0)
  | con (k : y.k = 2) (s : Cp c) (f : y.f = false) (x : y.x = 0)
  | num (k : y.k = 3) (s : Dg c ∨ c.toNat = 35)
  | sign (k : y.k = 4 ∨ y.k = 6) (ns : ¬ Sm c) (nc : ¬ Cp c) (nd : ¬ Dg c) (nh : c.toNat ≠ 35) (f : y.f = false) (x : y.x = 0)
theorem small_in : ∀ c, c ∈ smallsB.data.toList → Sm c := by unfold Sm; decide
theorem cap_in : ∀ c, c ∈ capsB.data.toList → Cp c := by unfold Cp; decide
theorem dig_in : ∀ c, c ∈ digsB.data.toList → Dg c := by unfold Dg; decide
theorem sign_in : ∀ x, x ∈ signsB → (x.2 = 4 ∨ x.2 = 6) ∧ ∃ c, x.1.data.toList.head? = some c ∧ (¬ (97 ≤ c.toNat ∧ c.toNat ≤ 122) ∧ ¬ (65 ≤ c.toNat ∧ c.toNat ≤ 90) ∧ ¬ (48 ≤ c.toNat ∧ c.toNat ≤ 57) ∧ c.toNat ≠ 35) := by
  intro x hx
  simp only [signsB, List.mem_cons, List.not_mem_nil, or_false] at hx
  rcases hx with rfl | rfl | rfl | rfl | rfl | rfl | rfl | rfl | rfl | rfl | rfl | rfl | rfl | rfl | rfl | rfl | rfl | rfl | rfl | rfl | rfl
  all_goals exact ⟨by decide, _, rfl, by decide⟩
theorem word_some {t : List UInt8} {k : Int} (h : wordF t = some k) : (k = 5 ∨ k = 7) ∧ ∃ c r, t = c :: r ∧ Sm c := by
  unfold wordF kput at h
  repeat' split at h
  all_goals first
    | (rename_i e; cases h; subst e; exact ⟨by decide, _, _, rfl, by unfold Sm; decide⟩)
    | cases h
theorem kputs_in {f : List UInt8 → Option Int} {l : List UInt8} {u : Int} {r : List UInt8} {k : Int} (h : kputs f l u r = some k) : (∃ c, c ∈ l ∧ r = [c] ∧ k = u) ∨ f r = some k := by
  unfold kputs at h
  split at h
  · rename_i e
    obtain ⟨c, hc, he⟩ := e
    exact Or.inl ⟨c, hc, he, (Oi h).symm⟩
  · exact Or.inr h
theorem kputs_some {f : List UInt8 → Option Int} {l : List UInt8} {u : Int} {r : List UInt8} (h : kputs f l u r = none) : f r = none := by
  unfold kputs at h
  split at h
  · cases h
  · exact h
theorem kind_some {t : List UInt8} {k : Int} (h : kindF t = some k) : (∃ c, t = [c] ∧ ((k = 1 ∧ Sm c) ∨ (k = 2 ∧ Cp c) ∨ (k = 3 ∧ Dg c))) ∨ wordF t = some k := by
  rcases kputs_in h with ⟨c, hc, e, rfl⟩ | h
  · exact Or.inl ⟨c, e, Or.inr (Or.inr ⟨rfl, dig_in c hc⟩)⟩
  rcases kputs_in h with ⟨c, hc, e, rfl⟩ | h
  · exact Or.inl ⟨c, e, Or.inr (Or.inl ⟨rfl, cap_in c hc⟩)⟩
  rcases kputs_in h with ⟨c, hc, e, rfl⟩ | h
  · exact Or.inl ⟨c, e, Or.inl ⟨rfl, small_in c hc⟩⟩
  exact Or.inr h
theorem kind_none {t : List UInt8} (h : kindF t = none) : wordF t = none := kputs_some (kputs_some (kputs_some h))
theorem kindOf_ok {c : UInt8} {r : List UInt8} (h : kindOf (c :: r) ≠ 0) : ∃ t, runL (c :: r) = c :: t ∧ ((kindOf (c :: r) = 1 ∧ Sm c ∧ wordF (c :: t) = none) ∨ ((kindOf (c :: r) = 5 ∨ kindOf (c :: r) = 7) ∧ Sm c ∧ wordF (c :: t) = some (kindOf (c :: r))) ∨ (kindOf (c :: r) = 2 ∧ Cp c) ∨ (kindOf (c :: r) = 3 ∧ Dg c)) := by
  cases hr : runL (c :: r) with
  | nil => exact absurd (kindOf_nil hr) h
  | cons d t =>
    obtain rfl : d = c := by
      have := List.takeWhile_prefix (p := inRun) (l := c :: r)
      unfold runL at hr
      rw [hr] at this
      exact (List.cons_prefix_cons.1 this).1
    refine ⟨t, rfl, ?_⟩
    unfold kindOf at h ⊢
    rw [hr] at h ⊢
    cases hk : kindF (d :: t) with
    | some k =>
      simp only [hk, Option.isSome_some, if_true, Option.getD_some] at h ⊢
      rcases kind_some hk with ⟨c', e, hh⟩ | hw
      · simp only [List.cons.injEq] at e
        obtain ⟨rfl, rfl⟩ := e
        rcases hh with ⟨rfl, hs⟩ | ⟨rfl, hs⟩ | ⟨rfl, hs⟩
        · exact Or.inl ⟨rfl, hs, word_one d⟩
        · exact Or.inr (Or.inr (Or.inl ⟨rfl, hs⟩))
        · exact Or.inr (Or.inr (Or.inr ⟨rfl, hs⟩))
      · obtain ⟨hk57, c', r', e, hs⟩ := word_some hw
        simp only [List.cons.injEq] at e
        obtain ⟨rfl, rfl⟩ := e
        exact Or.inr (Or.inl ⟨hk57, hs, hw⟩)
    | none =>
      have hw := kind_none hk
      simp only [hk, Option.isSome_none, Bool.false_eq_true, if_false, List.take_succ_cons, List.take_zero] at h ⊢
      cases hk1 : kindF [d] with
      | none => rw [hk1] at h; exact absurd rfl h
      | some k =>
        simp only [Option.getD_some]
        rcases kind_some hk1 with ⟨c', e, hh⟩ | hw1
        · simp only [List.cons.injEq, and_true] at e
          subst e
          rcases hh with ⟨rfl, hs⟩ | ⟨rfl, hs⟩ | ⟨rfl, hs⟩
          · exact Or.inl ⟨rfl, hs, hw⟩
          · exact Or.inr (Or.inr (Or.inl ⟨rfl, hs⟩))
          · exact Or.inr (Or.inr (Or.inr ⟨rfl, hs⟩))
        · rw [word_one] at hw1
          cases hw1
theorem numT_kind {t : List UInt8} (h : (numT t).2 = 0) : (numT t).1.k = 3 := by
  unfold numT at *
  split
  · rfl
  · rename_i g
    rw [if_neg g] at h
    exact absurd h g
theorem read_ok {c : UInt8} {r : List UInt8} (h : (readL (c :: r)).2 = 0) : ∃ t, (readL (c :: r)).1.t = c :: t ∧ TkOk (readL (c :: r)).1 c := by
  unfold readL at *
  cases hs : signL (c :: r) with
  | some x =>
    unfold signL at hs
    obtain ⟨hk, d, hd, h1, h2, h3, h4⟩ := sign_in x (List.mem_of_find?_eq_some hs)
    have hp := List.find?_some hs
    cases hx : x.1.data.toList with
    | nil => rw [hx] at hd; cases hd
    | cons d' t =>
      rw [hx] at hd hp
      obtain rfl := Oi hd
      unfold hasPrefix at hp
      obtain ⟨rfl, -⟩ := List.cons_prefix_cons.1 (List.isPrefixOf_iff_prefix.1 hp)
      exact ⟨t, hx, .sign hk h1 h2 h3 h4 rfl rfl⟩
  | none =>
    rw [hs] at h
    simp only at h ⊢
    split at h
    · rename_i g
      rw [if_pos g]
      have hc : c = 35 := by
        unfold hasPrefix at g
        exact (List.cons_prefix_cons.1 (List.isPrefixOf_iff_prefix.1 g)).1.symm
      have hl : ∃ n t, markedL (c :: r) = (c :: t).take (n + 1) := by
        unfold markedL
        have h1 := trimP_le r [45]
        simp only [List.drop_succ_cons, List.drop_zero, List.length_cons]
        refine ⟨r.length - (trimPrefix r [45]).length + (runL (trimPrefix r [45])).length, r, ?_⟩
        congr 1
        omega
      obtain ⟨n, t, hl⟩ := hl
      rw [List.take_succ_cons] at hl
      refine ⟨t.take n, (numT_ok h).trans hl, .num (numT_kind h) (Or.inr (by rw [hc]; rfl))⟩
    · rename_i g
      rw [if_neg g]
      unfold readR at *
      split at h
      · cases h
      · rename_i g0
        rw [if_neg g0]
        obtain ⟨t, hr, hh⟩ := kindOf_ok g0
        split at h
        · rename_i g3
          rw [if_pos g3]
          refine ⟨t, (numT_ok h).trans hr, .num (numT_kind h) (Or.inl ?_)⟩
          rcases hh with ⟨e, -⟩ | ⟨e, -⟩ | ⟨e, -⟩ | ⟨-, e⟩
          · omega
          · omega
          · omega
          · exact e
        · rename_i g3
          rw [if_neg g3]
          split at h
          · cases h
          · rename_i g16
            rw [if_neg g16]
            refine ⟨t, hr, ?_⟩
            rcases hh with ⟨e, hs, hw⟩ | ⟨e, hs, hw⟩ | ⟨e, hs⟩ | ⟨e, -⟩
            · exact .name e hs (by simpa [hr] using hw) rfl rfl
            · exact .word e hs (by simpa [hr] using hw) rfl rfl
            · exact .con e hs rfl rfl
            · exact absurd e g3
structure ToksOk (T : List (Tk × Int)) : Prop where
  ok : ∀ x, x ∈ T → 1 ≤ x.2 ∧ ∃ c t, x.1.t = c :: t ∧ TkOk x.1 c
  up : T.Pairwise fun a b => a.2 ≤ b.2
theorem lexA_ok : ∀ (f : Nat) (l : List UInt8) (line : Int) (acc T : List (Tk × Int)), 1 ≤ line → ToksOk acc → (∀ x, x ∈ acc → x.2 ≤ line) → lexA f l line acc = .good T → ToksOk T
  | 0, l, line, acc, T, _, ha, _, h => by unfold lexA at h; cases h; exact ha
  | f + 1, [], line, acc, T, _, ha, _, h => by unfold lexA at h; cases h; exact ha
  | f + 1, c :: r, line, acc, T, h0, ha, hl, h => by
    unfold lexA at h
    split at h
    · exact lexA_ok f _ _ _ _ (by omega) ha (fun x hx => by have := hl x hx; omega) h
    · split at h
      · exact lexA_ok f _ _ _ _ h0 ha hl h
      · split at h
        · split at h
          · cases h; exact ha
          · exact lexA_ok f _ _ _ _ h0 ha hl h
        · split at h
          · rename_i hr
            split at h
            · cases h
            · obtain ⟨t, ht, hk⟩ := read_ok hr
              refine lexA_ok f _ _ _ _ h0 ⟨fun x hx => ?_, ?_⟩ (fun x hx => ?_) h
              · rcases List.mem_append.1 hx with hx | hx
                · exact ha.ok x hx
                · rw [List.mem_singleton] at hx
                  subst hx
                  exact ⟨h0, c, t, ht, hk⟩
              · refine List.pairwise_append.2 ⟨ha.up, List.pairwise_singleton _ _, fun a ha' b hb => ?_⟩
                rw [List.mem_singleton] at hb
                subst hb
                exact hl a ha'
              · rcases List.mem_append.1 hx with hx | hx
                · exact hl x hx
                · rw [List.mem_singleton] at hx
                  subst hx
                  exact Int.le_refl _
          · cases h
theorem lexL_ok {l : List UInt8} {T : List (Tk × Int)} (h : lexL l = .good T) : ToksOk T := lexA_ok _ _ _ _ _ (by omega) ⟨fun x hx => (by cases hx), List.Pairwise.nil⟩ (fun x hx => by cases hx) h
def Gap (b : UInt8) : Prop := b = 32 ∨ b = 10
theorem find_same {α : Type} {p q : α → Bool} : ∀ (l : List α), (∀ x, x ∈ l → p x = q x) → l.find? p = l.find? q
  | [], _ => rfl
  | a :: l, h => by
    rw [List.find?_cons, List.find?_cons, h a (List.mem_cons_self ..), find_same l fun x hx => h x (List.mem_cons_of_mem _ hx)]
theorem signs_gap : ∀ x, x ∈ signsB → (32 : UInt8) ∉ x.1.data.toList ∧ (10 : UInt8) ∉ x.1.data.toList := by decide
theorem inRun_gap {b : UInt8} (hb : Gap b) : inRun b = false := by
  rcases hb with rfl | rfl <;> decide
theorem run_run (l : List UInt8) : runL (runL l) = runL l := by
  unfold runL
  induction l with
  | nil => rfl
  | cons c l ih =>
    rw [List.takeWhile_cons]
    split
    · rename_i h
      rw [List.takeWhile_cons, if_pos h, ih]
    · rfl
theorem run_mem {l : List UInt8} {x : UInt8} (h : x ∈ runL l) : inRun x = true := by
  unfold runL at h
  induction l with
  | nil => cases h
  | cons c l ih =>
    rw [List.takeWhile_cons] at h
    split at h
    · rename_i g
      rcases List.mem_cons.1 h with rfl | h
      · exact g
      · exact ih h
    · cases h
theorem run_take (l : List UInt8) : l.take (runL l).length = runL l := (List.prefix_iff_eq_take.1 (List.takeWhile_prefix _)).symm
theorem marked_minus (q : List UInt8) : markedL (35 :: 45 :: q) = 35 :: 45 :: runL q := by
  have e : trimPrefix ((35 :: 45 :: q : List UInt8).drop 1) [45] = q := by simp [trimPrefix, hasPrefix]
  unfold markedL
  rw [e]
  have e2 : (35 :: 45 :: q : List UInt8).length - q.length + (runL q).length = (runL q).length + 1 + 1 := by simp only [List.length_cons]; omega
  rw [e2, List.take_succ_cons, List.take_succ_cons, run_take]
theorem marked_plain {m : List UInt8} (h : hasPrefix m [45] = false) : markedL (35 :: m) = 35 :: runL m := by
  have e : trimPrefix ((35 :: m : List UInt8).drop 1) [45] = m := by simp [trimPrefix, h]
  unfold markedL
  rw [e]
  have e2 : (35 :: m : List UInt8).length - m.length + (runL m).length = (runL m).length + 1 := by simp only [List.length_cons]; omega
  rw [e2, List.take_succ_cons, run_take]
theorem minus_split (m : List UInt8) : (∃ q, m = 45 :: q) ∨ hasPrefix m [45] = false := by
  cases m with
  | nil => exact Or.inr (by decide)
  | cons c q =>
    by_cases h : c = 45
    · exact Or.inl ⟨q, by rw [h]⟩
    · refine Or.inr ?_
      unfold hasPrefix
      rw [Bool.eq_false_iff]
      intro g
      exact h (List.cons_prefix_cons.1 (List.isPrefixOf_iff_prefix.1 g)).1.symm
theorem has35 {l : List UInt8} (h : hasPrefix l [35] = true) : ∃ m, l = 35 :: m := by
  unfold hasPrefix at h
  obtain ⟨t, rfl⟩ := List.isPrefixOf_iff_prefix.1 h
  exact ⟨t, rfl⟩
theorem signs_own : ∀ x, x ∈ signsB → signL x.1.data.toList = some x := by decide
theorem sign_pre {t l : List UInt8} (ht : t <+: l) (h : signL l = none) : signL t = none := by
  unfold signL at *
  rw [List.find?_eq_none] at *
  intro x hx g
  refine h x hx ?_
  unfold hasPrefix at *
  exact List.isPrefixOf_iff_prefix.2 ((List.isPrefixOf_iff_prefix.1 g).trans ht)
theorem marked_pre (m : List UInt8) : markedL (35 :: m) <+: 35 :: m ∧ markedL (markedL (35 :: m)) = markedL (35 :: m) := by
  rcases minus_split m with ⟨q, rfl⟩ | h
  · rw [marked_minus, marked_minus, run_run]
    exact ⟨List.cons_prefix_cons.2 ⟨rfl, List.cons_prefix_cons.2 ⟨rfl, List.takeWhile_prefix _⟩⟩, rfl⟩
  · rw [marked_plain h, marked_plain, run_run]
    · exact ⟨List.cons_prefix_cons.2 ⟨rfl, List.takeWhile_prefix _⟩, rfl⟩
    · rcases minus_split (runL m) with ⟨q, e⟩ | g
      · exact absurd (run_mem (l := m) (x := 45) (by rw [e]; exact List.mem_cons_self ..)) (by decide)
      · exact g
theorem marked_gaps {m : List UInt8} {x : UInt8} (h : x ∈ markedL (35 :: m)) : ¬ Gap x := by
  have hr : ∀ q, x ∈ runL q → ¬ Gap x := fun q hx g => by have := run_mem hx; rw [inRun_gap g] at this; cases this
  have h35 : x = 35 → ¬ Gap x := fun e g => by subst e; rcases g with g | g <;> revert g <;> decide
  have h45 : x = 45 → ¬ Gap x := fun e g => by subst e; rcases g with g | g <;> revert g <;> decide
  rcases minus_split m with ⟨q, rfl⟩ | g
  · rw [marked_minus] at h
    rcases List.mem_cons.1 h with h | h
    · exact h35 h
    · rcases List.mem_cons.1 h with h | h
      · exact h45 h
      · exact hr _ h
  · rw [marked_plain g] at h
    rcases List.mem_cons.1 h with h | h
    · exact h35 h
    · exact hr _ h
theorem read_own {l : List UInt8} (hl : l ≠ []) (h : (readL l).2 = 0) : readL (readL l).1.t = ((readL l).1, 0) ∧ (readL l).1.t <+: l ∧ ∀ x, x ∈ (readL l).1.t → ¬ Gap x := by
  cases hs : signL l with
  | some x =>
    have e : readL l = (⟨x.2, x.1.data.toList, false, 0⟩, 0) := by unfold readL; rw [hs]
    have hx : x ∈ signsB := by unfold signL at hs; exact List.mem_of_find?_eq_some hs
    have hp := by unfold signL at hs; exact List.find?_some hs
    rw [e]
    refine ⟨?_, ?_, ?_⟩
    · unfold readL
      simp only
      rw [signs_own x hx]
    · unfold hasPrefix at hp
      exact List.isPrefixOf_iff_prefix.1 hp
    · intro b hb g
      rcases g with rfl | rfl
      · exact (signs_gap x hx).1 hb
      · exact (signs_gap x hx).2 hb
  | none =>
    by_cases g : hasPrefix l [35] = true
    · have e : readL l = numT (markedL l) := by unfold readL; rw [hs]; exact if_pos g
      rw [e] at h ⊢
      rw [numT_ok h]
      obtain ⟨m, rfl⟩ := has35 g
      obtain ⟨hp, hm⟩ := marked_pre m
      refine ⟨?_, hp, fun x hx => marked_gaps hx⟩
      have h35 : hasPrefix (markedL (35 :: m)) [35] = true := by
        rcases minus_split m with ⟨q, rfl⟩ | gm
        · rw [marked_minus]; rfl
        · rw [marked_plain gm]; rfl
      have e2 : readL (markedL (35 :: m)) = numT (markedL (markedL (35 :: m))) := by
        unfold readL
        rw [sign_pre hp hs]
        exact if_pos h35
      rw [e2, hm, ← h]
    · have e : readL l = readR l := by unfold readL; rw [hs]; exact if_neg g
      rw [e] at h ⊢
      have hne : kindOf l ≠ 0 := by
        intro k
        unfold readR at h
        rw [if_pos k] at h
        cases h
      have hrn : runL l ≠ [] := by
        intro k
        cases l with
        | nil => exact hl rfl
        | cons c r => exact hne (kindOf_nil k)
      have hkk : kindOf (runL l) = kindOf l := by
        unfold kindOf
        rw [run_run]
        have : (runL l).take 1 = l.take 1 := by
          cases l with
          | nil => exact absurd rfl hl
          | cons c r =>
            unfold runL at hrn ⊢
            rw [List.takeWhile_cons] at hrn ⊢
            split
            · rfl
            · rename_i k
              rw [if_neg k] at hrn
              exact absurd rfl hrn
        rw [this]
      have ht : (readR l).1.t = runL l := by
        unfold readR at h ⊢
        rw [if_neg hne] at h ⊢
        split at h
        · rename_i g3
          rw [if_pos g3]
          exact numT_ok h
        · rename_i g3
          rw [if_neg g3]
          split at h
          · cases h
          · rename_i g16
            rw [if_neg g16]
      rw [ht]
      refine ⟨?_, List.takeWhile_prefix _, fun x hx gx => by have := run_mem hx; rw [inRun_gap gx] at this; cases this⟩
      have g2 : ¬ hasPrefix (runL l) [35] = true := by
        intro k
        obtain ⟨m, hm⟩ := has35 k
        exact absurd (run_mem (l := l) (x := 35) (by rw [hm]; exact List.mem_cons_self ..)) (by decide)
      have e2 : readL (runL l) = readR (runL l) := by
        unfold readL
        rw [sign_pre (show runL l <+: l from List.takeWhile_prefix _) hs]
        exact if_neg g2
      have e3 : readR (runL l) = readR l := by
        unfold readR
        rw [hkk, run_run]
      rw [e2, e3, ← h]
def Own (y : Tk) : Prop := ∃ c r, y.t = c :: r ∧ c ≠ 10 ∧ ¬ (c = 9 ∨ c = 13 ∨ c = 32) ∧ hasPrefix y.t [45, 45] = false ∧ readL y.t = (y, 0)
theorem fuel : ∀ (f g : Nat) (l : List UInt8) (line : Int) (acc : List (Tk × Int)), l.length < f → l.length < g → lexA f l line acc = lexA g l line acc
  | 0, _, l, _, _, hf, _ => by omega
  | _, 0, l, _, _, _, hg => by omega
  | f + 1, g + 1, [], _, _, _, _ => by unfold lexA; rfl
  | f + 1, g + 1, c :: r, line, acc, hf, hg => by
    simp only [List.length_cons] at hf hg
    unfold lexA
    split
    · exact fuel f g _ _ _ (by omega) (by omega)
    · rename_i h10
      split
      · exact fuel f g _ _ _ (by omega) (by omega)
      · split
        · have hip := index_pos (r := r) h10
          split
          · rfl
          · exact fuel f g _ _ _ (by rw [List.length_drop, List.length_cons]; omega) (by rw [List.length_drop, List.length_cons]; omega)
        · split
          · rename_i hr
            have hle := read_len hr
            split
            · rfl
            · exact fuel f g _ _ _ (by rw [List.length_drop, List.length_cons]; omega) (by rw [List.length_drop, List.length_cons]; omega)
          · rfl
def spaced (T : List (Tk × Int)) : List UInt8 := T.flatMap fun x => x.1.t ++ [32]
theorem lexA_bad : ∀ (f : Nat) (l : List UInt8) (line : Int) (acc : List (Tk × Int)) (e k : Int), lexA f l line acc = .bad e k → e ≠ 0
  | 0, l, line, acc, e, k, h => by unfold lexA at h; cases h
  | f + 1, [], line, acc, e, k, h => by unfold lexA at h; cases h
  | f + 1, c :: r, line, acc, e, k, h => by
    unfold lexA at h
    split at h
    · exact lexA_bad f _ _ _ _ _ h
    · split at h
      · exact lexA_bad f _ _ _ _ _ h
      · split at h
        · split at h
          · cases h
          · exact lexA_bad f _ _ _ _ _ h
        · split at h
          · split at h
            · cases h
              decide
            · exact lexA_bad f _ _ _ _ _ h
          · rename_i g
            cases h
            exact g
theorem lexL_bad {l : List UInt8} {e k : Int} (h : lexL l = .bad e k) : e ≠ 0 := lexA_bad _ _ _ _ _ _ h
def bytesT (T : List (Tk × Int)) : Nat := (T.map fun x => x.1.t.length).sum
theorem own_of {c : UInt8} {r : List UInt8} (h10 : c ≠ 10) (hbl : ¬ (c = 9 ∨ c = 13 ∨ c = 32)) (hp : ¬ hasPrefix (c :: r) [45, 45] = true) (h : (readL (c :: r)).2 = 0) : Own (readL (c :: r)).1 := by
  obtain ⟨h1, h2, -⟩ := read_own (List.cons_ne_nil c r) h
  have hl := read_len h
  cases ht : (readL (c :: r)).1.t with
  | nil => rw [ht] at hl; simp at hl
  | cons d q =>
    obtain ⟨u, hu⟩ := h2
    rw [ht] at hu
    obtain rfl : d = c := by simpa using (List.cons.inj hu).1
    refine ⟨d, q, ht, h10, hbl, ?_, h1⟩
    rw [Bool.eq_false_iff]
    intro g
    refine hp ?_
    unfold hasPrefix at *
    refine List.isPrefixOf_iff_prefix.2 ((List.isPrefixOf_iff_prefix.1 g).trans ⟨u, ?_⟩)
    rw [ht, hu]
theorem lexA_own : ∀ (f : Nat) (l : List UInt8) (line : Int) (acc T : List (Tk × Int)) (B : Nat), (∀ x, x ∈ acc → Own x.1) → acc.length ≤ 4096 → bytesT acc + l.length ≤ B → lexA f l line acc = .good T → (∀ x, x ∈ T → Own x.1) ∧ T.length ≤ 4096 ∧ bytesT T ≤ B
  | 0, l, line, acc, T, B, ha, hn, hB, h => by unfold lexA at h; cases h; exact ⟨ha, hn, by omega⟩
  | f + 1, [], line, acc, T, B, ha, hn, hB, h => by unfold lexA at h; cases h; exact ⟨ha, hn, by simpa using hB⟩
  | f + 1, c :: r, line, acc, T, B, ha, hn, hB, h => by
    simp only [List.length_cons] at hB
    unfold lexA at h
    split at h
    · exact lexA_own f _ _ _ _ _ ha hn (by omega) h
    · rename_i h10
      split at h
      · exact lexA_own f _ _ _ _ _ ha hn (by omega) h
      · rename_i hbl
        split at h
        · split at h
          · cases h; exact ⟨ha, hn, by omega⟩
          · exact lexA_own f _ _ _ _ _ ha hn (by rw [List.length_drop, List.length_cons]; omega) h
        · rename_i hp
          split at h
          · rename_i hr
            split at h
            · cases h
            · have hle := read_len hr
              refine lexA_own f _ _ _ _ _ (fun x hx => ?_) (by rw [List.length_append, List.length_singleton]; omega) ?_ h
              · rcases List.mem_append.1 hx with hx | hx
                · exact ha x hx
                · rw [List.mem_singleton] at hx
                  subst hx
                  exact own_of h10 hbl hp hr
              · have e : bytesT (acc ++ [((readL (c :: r)).1, line)]) = bytesT acc + (readL (c :: r)).1.t.length := by simp [bytesT]
                rw [e, List.length_drop, List.length_cons]
                simp only [List.length_cons] at hle
                omega
          · cases h
theorem lexL_own {l : List UInt8} {T : List (Tk × Int)} (h : lexL l = .good T) : (∀ x, x ∈ T → Own x.1) ∧ T.length ≤ 4096 ∧ bytesT T ≤ l.length :=
  lexA_own _ _ _ _ _ _ (fun x hx => by cases hx) (by simp) (by simp [bytesT]) h
theorem bytes_mem : ∀ {T : List (Tk × Int)} {x : Tk × Int}, x ∈ T → x.1.t.length ≤ bytesT T
  | y :: T, x, h => by
    rcases List.mem_cons.1 h with rfl | h
    · simp [bytesT]
    · have := bytes_mem h
      simp only [bytesT, List.map_cons, List.sum_cons] at *
      omega
theorem capital_any (c : UInt8) (w : World) : Calls Tryz.prog 90 #[.int .u8 c.toNat] w fun e w' => e = .returned (.bool (decide (65 ≤ c.toNat ∧ c.toNat ≤ 90))) ∧ Below w.heap.size w w' := by
  by_cases g1 : 65 ≤ c.toNat
  · have f1 : decide ((65 : Int) ≤ (c.toNat : Int)) = true := decide_eq_true (by omega)
    by_cases g2 : c.toNat ≤ 90
    · have f2 : decide ((c.toNat : Int) ≤ (90 : Int)) = true := decide_eq_true (by omega)
      rw [decide_eq_true (show 65 ≤ c.toNat ∧ c.toNat ≤ 90 from ⟨g1, g2⟩)]
      go_enter Tryz.func90, Tryz.ntmps90
      go_wp2_with fail
      go_ret
      exact ⟨rfl, Below.refl _ _⟩
    · have f2 : decide ((c.toNat : Int) ≤ (90 : Int)) = false := decide_eq_false (by omega)
      rw [decide_eq_false (show ¬ (65 ≤ c.toNat ∧ c.toNat ≤ 90) from fun h => g2 h.2)]
      go_enter Tryz.func90, Tryz.ntmps90
      go_wp2_with fail
      go_ret
      exact ⟨rfl, Below.refl _ _⟩
  · have f1 : decide ((65 : Int) ≤ (c.toNat : Int)) = false := decide_eq_false (by omega)
    rw [decide_eq_false (show ¬ (65 ≤ c.toNat ∧ c.toNat ≤ 90) from fun h => g1 h.1)]
    go_enter Tryz.func90, Tryz.ntmps90
    go_wp2_with fail
    go_ret
    exact ⟨rfl, Below.refl _ _⟩
def refK (l : List UInt8) (c : UInt8) : Int := (wordF l).getD (if 65 ≤ c.toNat ∧ c.toNat ≤ 90 then 2 else 1)
theorem words10 (l : List UInt8) : l = [108, 101, 116] ∨ l = [105, 110] ∨ l = [99, 97, 115, 101] ∨ l = [111, 102] ∨ l = [100, 97, 116, 97] ∨ l = [119, 101, 97, 107] ∨ l = [100, 101, 114, 101, 102] ∨ l = [115, 101, 113] ∨ l = [102, 108, 111, 97, 116] ∨ l = [116, 114, 117, 110, 99] ∨ (l ≠ [108, 101, 116] ∧ l ≠ [105, 110] ∧ l ≠ [99, 97, 115, 101] ∧ l ≠ [111, 102] ∧ l ≠ [100, 97, 116, 97] ∧ l ≠ [119, 101, 97, 107] ∧ l ≠ [100, 101, 114, 101, 102] ∧ l ≠ [115, 101, 113] ∧ l ≠ [102, 108, 111, 97, 116] ∧ l ≠ [116, 114, 117, 110, 99]) := by
  by_cases h0 : l = [108, 101, 116]
  · exact Or.inl h0
  by_cases h1 : l = [105, 110]
  · exact Or.inr (Or.inl h1)
  by_cases h2 : l = [99, 97, 115, 101]
  · exact Or.inr (Or.inr (Or.inl h2))
  by_cases h3 : l = [111, 102]
  · exact Or.inr (Or.inr (Or.inr (Or.inl h3)))
  by_cases h4 : l = [100, 97, 116, 97]
  · exact Or.inr (Or.inr (Or.inr (Or.inr (Or.inl h4))))
  by_cases h5 : l = [119, 101, 97, 107]
  · exact Or.inr (Or.inr (Or.inr (Or.inr (Or.inr (Or.inl h5)))))
  by_cases h6 : l = [100, 101, 114, 101, 102]
  · exact Or.inr (Or.inr (Or.inr (Or.inr (Or.inr (Or.inr (Or.inl h6))))))
  by_cases h7 : l = [115, 101, 113]
  · exact Or.inr (Or.inr (Or.inr (Or.inr (Or.inr (Or.inr (Or.inr (Or.inl h7)))))))
  by_cases h8 : l = [102, 108, 111, 97, 116]
  · exact Or.inr (Or.inr (Or.inr (Or.inr (Or.inr (Or.inr (Or.inr (Or.inr (Or.inl h8))))))))
  by_cases h9 : l = [116, 114, 117, 110, 99]
  · exact Or.inr (Or.inr (Or.inr (Or.inr (Or.inr (Or.inr (Or.inr (Or.inr (Or.inr (Or.inl h9)))))))))
  exact Or.inr (Or.inr (Or.inr (Or.inr (Or.inr (Or.inr (Or.inr (Or.inr (Or.inr (Or.inr (⟨h0, h1, h2, h3, h4, h5, h6, h7, h8, h9⟩))))))))))
theorem kind_any (s : ByteArray) (c : UInt8) (t : List UInt8) (hs : s.data.toList = c :: t) (w : World) : Calls Tryz.prog 92 #[.string s] w fun e w' => e = .returned (.int .i64 (refK (c :: t) c)) ∧ Below w.heap.size w w' := by
  have e0 : s.toList = c :: t := by rw [ByteArray.toList_eq, hs]
  have hz : 0 < s.size := by rw [size_eq, hs]; simp
  have hx : s[0]'hz = c := by
    have e : s[0]'hz = s.data.toList[0]'(by rw [hs]; simp) := rfl
    rw [e]
    simp only [hs, List.getElem_cons_zero]
  obtain ⟨r, hr⟩ : ∃ r, refK (c :: t) c = r := ⟨_, rfl⟩
  rw [hr]
  rcases words10 (c :: t) with h | h | h | h | h | h | h | h | h | h | h
  · have b0 : (s.toList == [108, 101, 116]) = true := by rw [e0, h]; decide
    have hk : r = 5 := by
      rw [← hr, h]
      rfl
    subst hk
    clear hx hr h e0 hs hz
    go_enter Tryz.func92, Tryz.ntmps92
    go_wp2_with fail
    go_ret
    exact ⟨rfl, Below.refl _ _⟩
  · have b0 : (s.toList == [108, 101, 116]) = false := by rw [e0, h]; decide
    have b1 : (s.toList == [105, 110]) = true := by rw [e0, h]; decide
    have hk : r = 5 := by
      rw [← hr, h]
      rfl
    subst hk
    clear hx hr h e0 hs hz
    go_enter Tryz.func92, Tryz.ntmps92
    go_wp2_with fail
    go_ret
    exact ⟨rfl, Below.refl _ _⟩
  · have b0 : (s.toList == [108, 101, 116]) = false := by rw [e0, h]; decide
    have b1 : (s.toList == [105, 110]) = false := by rw [e0, h]; decide
    have b2 : (s.toList == [99, 97, 115, 101]) = true := by rw [e0, h]; decide
    have hk : r = 5 := by
      rw [← hr, h]
      rfl
    subst hk
    clear hx hr h e0 hs hz
    go_enter Tryz.func92, Tryz.ntmps92
    go_wp2_with fail
    go_ret
    exact ⟨rfl, Below.refl _ _⟩
  · have b0 : (s.toList == [108, 101, 116]) = false := by rw [e0, h]; decide
    have b1 : (s.toList == [105, 110]) = false := by rw [e0, h]; decide
    have b2 : (s.toList == [99, 97, 115, 101]) = false := by rw [e0, h]; decide
    have b3 : (s.toList == [111, 102]) = true := by rw [e0, h]; decide
    have hk : r = 5 := by
      rw [← hr, h]
      rfl
    subst hk
    clear hx hr h e0 hs hz
    go_enter Tryz.func92, Tryz.ntmps92
    go_wp2_with fail
    go_ret
    exact ⟨rfl, Below.refl _ _⟩
  · have b0 : (s.toList == [108, 101, 116]) = false := by rw [e0, h]; decide
    have b1 : (s.toList == [105, 110]) = false := by rw [e0, h]; decide
    have b2 : (s.toList == [99, 97, 115, 101]) = false := by rw [e0, h]; decide
    have b3 : (s.toList == [111, 102]) = false := by rw [e0, h]; decide
    have b4 : (s.toList == [100, 97, 116, 97]) = true := by rw [e0, h]; decide
    have hk : r = 5 := by
      rw [← hr, h]
      rfl
    subst hk
    clear hx hr h e0 hs hz
    go_enter Tryz.func92, Tryz.ntmps92
    go_wp2_with fail
    go_ret
    exact ⟨rfl, Below.refl _ _⟩
  · have b0 : (s.toList == [108, 101, 116]) = false := by rw [e0, h]; decide
    have b1 : (s.toList == [105, 110]) = false := by rw [e0, h]; decide
    have b2 : (s.toList == [99, 97, 115, 101]) = false := by rw [e0, h]; decide
    have b3 : (s.toList == [111, 102]) = false := by rw [e0, h]; decide
    have b4 : (s.toList == [100, 97, 116, 97]) = false := by rw [e0, h]; decide
    have b5 : (s.toList == [119, 101, 97, 107]) = true := by rw [e0, h]; decide
    have hk : r = 7 := by
      rw [← hr, h]
      rfl
    subst hk
    clear hx hr h e0 hs hz
    go_enter Tryz.func92, Tryz.ntmps92
    go_wp2_with fail
    go_ret
    exact ⟨rfl, Below.refl _ _⟩
  · have b0 : (s.toList == [108, 101, 116]) = false := by rw [e0, h]; decide
    have b1 : (s.toList == [105, 110]) = false := by rw [e0, h]; decide
    have b2 : (s.toList == [99, 97, 115, 101]) = false := by rw [e0, h]; decide
    have b3 : (s.toList == [111, 102]) = false := by rw [e0, h]; decide
    have b4 : (s.toList == [100, 97, 116, 97]) = false := by rw [e0, h]; decide
    have b5 : (s.toList == [119, 101, 97, 107]) = false := by rw [e0, h]; decide
    have b6 : (s.toList == [100, 101, 114, 101, 102]) = true := by rw [e0, h]; decide
    have hk : r = 7 := by
      rw [← hr, h]
      rfl
    subst hk
    clear hx hr h e0 hs hz
    go_enter Tryz.func92, Tryz.ntmps92
    go_wp2_with fail
    go_ret
    exact ⟨rfl, Below.refl _ _⟩
  · have b0 : (s.toList == [108, 101, 116]) = false := by rw [e0, h]; decide
    have b1 : (s.toList == [105, 110]) = false := by rw [e0, h]; decide
    have b2 : (s.toList == [99, 97, 115, 101]) = false := by rw [e0, h]; decide
    have b3 : (s.toList == [111, 102]) = false := by rw [e0, h]; decide
    have b4 : (s.toList == [100, 97, 116, 97]) = false := by rw [e0, h]; decide
    have b5 : (s.toList == [119, 101, 97, 107]) = false := by rw [e0, h]; decide
    have b6 : (s.toList == [100, 101, 114, 101, 102]) = false := by rw [e0, h]; decide
    have b7 : (s.toList == [115, 101, 113]) = true := by rw [e0, h]; decide
    have hk : r = 7 := by
      rw [← hr, h]
      rfl
    subst hk
    clear hx hr h e0 hs hz
    go_enter Tryz.func92, Tryz.ntmps92
    go_wp2_with fail
    go_ret
    exact ⟨rfl, Below.refl _ _⟩
  · have b0 : (s.toList == [108, 101, 116]) = false := by rw [e0, h]; decide
    have b1 : (s.toList == [105, 110]) = false := by rw [e0, h]; decide
    have b2 : (s.toList == [99, 97, 115, 101]) = false := by rw [e0, h]; decide
    have b3 : (s.toList == [111, 102]) = false := by rw [e0, h]; decide
    have b4 : (s.toList == [100, 97, 116, 97]) = false := by rw [e0, h]; decide
    have b5 : (s.toList == [119, 101, 97, 107]) = false := by rw [e0, h]; decide
    have b6 : (s.toList == [100, 101, 114, 101, 102]) = false := by rw [e0, h]; decide
    have b7 : (s.toList == [115, 101, 113]) = false := by rw [e0, h]; decide
    have b8 : (s.toList == [102, 108, 111, 97, 116]) = true := by rw [e0, h]; decide
    have hk : r = 7 := by
      rw [← hr, h]
      rfl
    subst hk
    clear hx hr h e0 hs hz
    go_enter Tryz.func92, Tryz.ntmps92
    go_wp2_with fail
    go_ret
    exact ⟨rfl, Below.refl _ _⟩
  · have b0 : (s.toList == [108, 101, 116]) = false := by rw [e0, h]; decide
    have b1 : (s.toList == [105, 110]) = false := by rw [e0, h]; decide
    have b2 : (s.toList == [99, 97, 115, 101]) = false := by rw [e0, h]; decide
    have b3 : (s.toList == [111, 102]) = false := by rw [e0, h]; decide
    have b4 : (s.toList == [100, 97, 116, 97]) = false := by rw [e0, h]; decide
    have b5 : (s.toList == [119, 101, 97, 107]) = false := by rw [e0, h]; decide
    have b6 : (s.toList == [100, 101, 114, 101, 102]) = false := by rw [e0, h]; decide
    have b7 : (s.toList == [115, 101, 113]) = false := by rw [e0, h]; decide
    have b8 : (s.toList == [102, 108, 111, 97, 116]) = false := by rw [e0, h]; decide
    have b9 : (s.toList == [116, 114, 117, 110, 99]) = true := by rw [e0, h]; decide
    have hk : r = 7 := by
      rw [← hr, h]
      rfl
    subst hk
    clear hx hr h e0 hs hz
    go_enter Tryz.func92, Tryz.ntmps92
    go_wp2_with fail
    go_ret
    exact ⟨rfl, Below.refl _ _⟩
  · have b0 : (s.toList == [108, 101, 116]) = false := by rw [e0]; exact beq_false_of_ne h.1
    have b1 : (s.toList == [105, 110]) = false := by rw [e0]; exact beq_false_of_ne h.2.1
    have b2 : (s.toList == [99, 97, 115, 101]) = false := by rw [e0]; exact beq_false_of_ne h.2.2.1
    have b3 : (s.toList == [111, 102]) = false := by rw [e0]; exact beq_false_of_ne h.2.2.2.1
    have b4 : (s.toList == [100, 97, 116, 97]) = false := by rw [e0]; exact beq_false_of_ne h.2.2.2.2.1
    have b5 : (s.toList == [119, 101, 97, 107]) = false := by rw [e0]; exact beq_false_of_ne h.2.2.2.2.2.1
    have b6 : (s.toList == [100, 101, 114, 101, 102]) = false := by rw [e0]; exact beq_false_of_ne h.2.2.2.2.2.2.1
    have b7 : (s.toList == [115, 101, 113]) = false := by rw [e0]; exact beq_false_of_ne h.2.2.2.2.2.2.2.1
    have b8 : (s.toList == [102, 108, 111, 97, 116]) = false := by rw [e0]; exact beq_false_of_ne h.2.2.2.2.2.2.2.2.1
    have b9 : (s.toList == [116, 114, 117, 110, 99]) = false := by rw [e0]; exact beq_false_of_ne h.2.2.2.2.2.2.2.2.2
    have hk : r = if 65 ≤ c.toNat ∧ c.toNat ≤ 90 then 2 else 1 := by
      rw [← hr]
      have hw : wordF (c :: t) = none := by
        unfold wordF kput
        simp only [h.1, h.2.1, h.2.2.1, h.2.2.2.1, h.2.2.2.2.1, h.2.2.2.2.2.1, h.2.2.2.2.2.2.1, h.2.2.2.2.2.2.2.1, h.2.2.2.2.2.2.2.2.1, h.2.2.2.2.2.2.2.2.2, if_false]
      unfold refK
      rw [hw]
      rfl
    subst hk
    clear hr h e0 hs
    by_cases g : 65 ≤ c.toNat ∧ c.toNat ≤ 90
    · rw [if_pos g]
      go_enter Tryz.func92, Tryz.ntmps92
      go_wp2_with fail
      refine (capital_any c _).mono ?_
      rw [decide_eq_true g]
      rintro e w2 ⟨rfl, hb⟩
      go_wp2_with fail
      go_ret
      exact ⟨rfl, hb⟩
    · rw [if_neg g]
      go_enter Tryz.func92, Tryz.ntmps92
      go_wp2_with fail
      refine (capital_any c _).mono ?_
      rw [decide_eq_false g]
      rintro e w2 ⟨rfl, hb⟩
      go_wp2_with fail
      go_ret
      exact ⟨rfl, hb⟩
def smB (c : UInt8) : Bool := decide (97 ≤ c.toNat ∧ c.toNat ≤ 122)
def cpB (c : UInt8) : Bool := decide (65 ≤ c.toNat ∧ c.toNat ≤ 90)
def dgB (c : UInt8) : Bool := decide (48 ≤ c.toNat ∧ c.toNat ≤ 57)
def usB (c : UInt8) : Bool := decide (c.toNat = 95)
theorem inRun_all : ∀ n : Fin 256, inRun (UInt8.ofNat n.val) = (smB (UInt8.ofNat n.val) || cpB (UInt8.ofNat n.val) || dgB (UInt8.ofNat n.val) || usB (UInt8.ofNat n.val)) := by decide +kernel
theorem inRun_eq (c : UInt8) : inRun c = (smB c || cpB c || dgB c || usB c) := by
  have h := inRun_all ⟨c.toNat, c.toNat_lt⟩
  simpa using h
theorem run_cons (c : UInt8) (r : List UInt8) : runL (c :: r) = if inRun c = true then c :: runL r else [] := by
  unfold runL
  rw [List.takeWhile_cons]
def opsB : List ByteArray := [⟨#[43]⟩, ⟨#[45]⟩, ⟨#[42]⟩, ⟨#[47]⟩, ⟨#[37]⟩, ⟨#[61, 61]⟩, ⟨#[60]⟩, ⟨#[43, 46]⟩, ⟨#[45, 46]⟩, ⟨#[42, 46]⟩, ⟨#[47, 46]⟩, ⟨#[61, 61, 46]⟩, ⟨#[60, 46]⟩]
def punB : List ByteArray := [⟨#[40]⟩, ⟨#[41]⟩, ⟨#[123]⟩, ⟨#[125]⟩, ⟨#[59]⟩, ⟨#[61]⟩, ⟨#[45, 62]⟩, ⟨#[92]⟩]
def longM (M : List UInt8 → Bool) (b : ByteArray) (p : ByteArray) : ByteArray := if M p.data.toList = true ∧ b.size < p.size then p else b
def chosenM (M : List UInt8 → Bool) : ByteArray × Int := if (opsB.foldl (longM M) ⟨#[]⟩).size < (punB.foldl (longM M) ⟨#[]⟩).size then (punB.foldl (longM M) ⟨#[]⟩, 6) else (opsB.foldl (longM M) ⟨#[]⟩, 4)
def signOfM (M : List UInt8 → Bool) : Option (ByteArray × Int) := if (chosenM M).1.size = 0 then none else some (chosenM M)
def signM (M : List UInt8 → Bool) : Option (ByteArray × Int) := signsB.find? fun x => M x.1.data.toList
def longL (l : List UInt8) (ps : List ByteArray) : ByteArray := ps.foldl (longM (hasPrefix l)) ⟨#[]⟩
def sgChosen (l : List UInt8) : ByteArray × Int := chosenM (hasPrefix l)
def mtF (c : UInt8) (d : Fin 4) (p4 : Bool) : List UInt8 → Bool
  | [a] => a == c
  | [a, b] => a == c && (if b = 46 then d == 0 else if b = 61 then d == 1 else if b = 62 then d == 2 else false)
  | [a, _, _] => a == c && p4
  | _ => false
theorem sign_fin : ∀ (n : Fin 256) (d : Fin 4) (p4 : Bool), signM (mtF (UInt8.ofNat n.val) d p4) = signOfM (mtF (UInt8.ofNat n.val) d p4) := by decide +kernel
def nextF : List UInt8 → Fin 4
  | [] => 3
  | d :: _ => if d = 46 then 0 else if d = 61 then 1 else if d = 62 then 2 else 3
theorem has_cons (c a : UInt8) (r p : List UInt8) : hasPrefix (c :: r) (a :: p) = (a == c && hasPrefix r p) := by
  unfold hasPrefix
  rfl
theorem has_nil (r : List UInt8) : hasPrefix r [] = true := by cases r <;> rfl
theorem has_nil' (a : UInt8) (p : List UInt8) : hasPrefix [] (a :: p) = false := rfl
theorem fold_same {M N : List UInt8 → Bool} : ∀ (l : List ByteArray) (b : ByteArray), (∀ x, x ∈ l → M x.data.toList = N x.data.toList) → l.foldl (longM M) b = l.foldl (longM N) b
  | [], _, _ => rfl
  | a :: l, b, h => by
    rw [List.foldl_cons, List.foldl_cons]
    have e : longM M b a = longM N b a := by unfold longM; rw [h a (List.mem_cons_self ..)]
    rw [e]
    exact fold_same l _ fun x hx => h x (List.mem_cons_of_mem _ hx)
theorem next_is (r : List UInt8) : hasPrefix r [46] = (nextF r == 0) ∧ hasPrefix r [61] = (nextF r == 1) ∧ hasPrefix r [62] = (nextF r == 2) := by
  cases r with
  | nil => decide
  | cons d r =>
    simp only [has_cons, has_nil, Bool.and_true, nextF]
    by_cases h1 : d = 46
    · subst h1; decide
    · by_cases h2 : d = 61
      · subst h2; decide
      · by_cases h3 : d = 62
        · subst h3; decide
        · have e : ∀ a : UInt8, d ≠ a → (a == d) = false := fun a ha => by simpa using Ne.symm ha
          rw [e _ h1, e _ h2, e _ h3, if_neg h1, if_neg h2, if_neg h3]
          decide
theorem mt_is (c : UInt8) (r : List UInt8) : ∀ x, x ∈ signsB.map Prod.fst ++ opsB ++ punB → hasPrefix (c :: r) x.data.toList = mtF c (nextF r) (hasPrefix r [61, 46]) x.data.toList := by
  obtain ⟨n1, n2, n3⟩ := next_is r
  intro x hx
  simp only [signsB, opsB, punB, List.map_cons, List.map_nil, List.cons_append, List.nil_append, List.mem_cons, List.not_mem_nil, or_false] at hx
  rcases hx with rfl | rfl | rfl | rfl | rfl | rfl | rfl | rfl | rfl | rfl | rfl | rfl | rfl | rfl | rfl | rfl | rfl | rfl | rfl | rfl | rfl | rfl | rfl | rfl | rfl | rfl | rfl | rfl | rfl | rfl | rfl | rfl | rfl | rfl | rfl | rfl | rfl | rfl | rfl | rfl | rfl | rfl
  all_goals
    rw [has_cons]
    simp [mtF, has_nil, n1, n2, n3]
def signOf (l : List UInt8) : Option (ByteArray × Int) := if (sgChosen l).1.size = 0 then none else some (sgChosen l)
theorem sign_long (c : UInt8) (r : List UInt8) : signL (c :: r) = signOf (c :: r) := by
  have hm := mt_is c r
  have hf := sign_fin ⟨c.toNat, c.toNat_lt⟩ (nextF r) (hasPrefix r [61, 46])
  simp only [UInt8.ofNat_toNat] at hf
  generalize mtF c (nextF r) (hasPrefix r [61, 46]) = N at hm hf
  have e1 : signL (c :: r) = signM N := find_same _ fun x hx => hm _ (List.mem_append_left _ (List.mem_append_left _ (List.mem_map_of_mem hx)))
  have e2 : opsB.foldl (longM (hasPrefix (c :: r))) ⟨#[]⟩ = opsB.foldl (longM N) ⟨#[]⟩ := fold_same _ _ fun x hx => hm _ (List.mem_append_left _ (List.mem_append_right _ hx))
  have e3 : punB.foldl (longM (hasPrefix (c :: r))) ⟨#[]⟩ = punB.foldl (longM N) ⟨#[]⟩ := fold_same _ _ fun x hx => hm _ (List.mem_append_right _ hx)
  have e4 : sgChosen (c :: r) = chosenM N := by unfold sgChosen chosenM; rw [e2, e3]
  unfold signOf
  rw [e1, e4, hf]
  rfl
def lexF (l : List UInt8) (line : Int) (acc : List (Tk × Int)) : Res := lexA (l.length + 1) l line acc
theorem lexF_nil (line : Int) (acc : List (Tk × Int)) : lexF [] line acc = .good acc := by unfold lexF lexA; rfl
theorem lexF_nl (r : List UInt8) (line : Int) (acc : List (Tk × Int)) : lexF (10 :: r) line acc = lexF r (line + 1) acc := by
  unfold lexF
  conv => lhs; unfold lexA
  rw [if_pos rfl]
  exact fuel _ _ _ _ _ (by simp) (by omega)
theorem lexF_blank {c : UInt8} (r : List UInt8) (line : Int) (acc : List (Tk × Int)) (h10 : c ≠ 10) (h : c = 9 ∨ c = 13 ∨ c = 32) : lexF (c :: r) line acc = lexF r line acc := by
  unfold lexF
  conv => lhs; unfold lexA
  rw [if_neg h10, if_pos h]
  exact fuel _ _ _ _ _ (by simp) (by omega)
theorem drop_index : ∀ (l : List UInt8), l.dropWhile (fun c => c != 10) = if indexByte l 10 < 0 then [] else l.drop (indexByte l 10).toNat
  | [] => by simp [indexByte]
  | c :: l => by
    have ih := drop_index l
    obtain ⟨i1, i2, i3, -⟩ := index_le l 10
    rw [List.dropWhile_cons]
    by_cases g : c = 10
    · have e : indexByte (c :: l) 10 = 0 := by unfold indexByte; rw [if_pos (by simpa using g)]
      rw [e, g]
      rfl
    · have e1 : (c != 10) = true := by simpa using g
      rw [if_pos e1, ih]
      by_cases g2 : indexByte l 10 < 0
      · have e : indexByte (c :: l) 10 = -1 := by unfold indexByte; rw [if_neg (by simpa using g), if_pos (by rw [i3 g2]; rfl)]
        rw [if_pos g2, e, if_pos (by decide)]
      · have e : indexByte (c :: l) 10 = indexByte l 10 + 1 := by
          conv => lhs; unfold indexByte
          rw [if_neg (by simpa using g), if_neg (by simp; omega)]
        rw [if_neg g2, e, if_neg (by omega)]
        have e2 : (indexByte l 10 + 1).toNat = (indexByte l 10).toNat + 1 := by omega
        rw [e2, List.drop_succ_cons]
theorem lexF_rem {c : UInt8} {r : List UInt8} (line : Int) (acc : List (Tk × Int)) (h : hasPrefix (c :: r) [45, 45] = true) : lexF (c :: r) line acc = lexF ((c :: r).dropWhile fun c => c != 10) line acc := by
  have hc : c = 45 := by
    rw [has_cons] at h
    simp only [Bool.and_eq_true, beq_iff_eq] at h
    exact h.1.symm
  have h10 : c ≠ 10 := by rw [hc]; decide
  have hb : ¬ (c = 9 ∨ c = 13 ∨ c = 32) := by rw [hc]; decide
  rw [drop_index]
  unfold lexF
  conv => lhs; unfold lexA
  rw [if_neg h10, if_neg hb, if_pos h]
  have hip := index_pos (r := r) h10
  split
  · unfold lexA
    rfl
  · refine fuel _ _ _ _ _ ?_ (by omega)
    rw [List.length_drop, List.length_cons]
    omega
theorem lexF_tok {c : UInt8} {r : List UInt8} (line : Int) (acc : List (Tk × Int)) (h10 : c ≠ 10) (hb : ¬ (c = 9 ∨ c = 13 ∨ c = 32)) (h : hasPrefix (c :: r) [45, 45] = false) :
    lexF (c :: r) line acc = if (readL (c :: r)).2 = 0 then (if acc.length = 4096 then .bad 2 line else lexF ((c :: r).drop (readL (c :: r)).1.t.length) line (acc ++ [((readL (c :: r)).1, line)])) else .bad (readL (c :: r)).2 line := by
  unfold lexF
  conv => lhs; unfold lexA
  rw [if_neg h10, if_neg hb, if_neg (by rw [h]; decide)]
  split
  · rename_i hr
    have hle := read_len hr
    split
    · rfl
    · exact fuel _ _ _ _ _ (by rw [List.length_drop, List.length_cons]; omega) (by omega)
  · rfl
def Starts (l : List UInt8) : Prop := ∀ c r, l = c :: r → c ≠ 10 ∧ ¬ (c = 9 ∨ c = 13 ∨ c = 32) ∧ hasPrefix l [45, 45] = false
def oneL (c : UInt8) (r : List UInt8) : Tk × Int :=
  if smB c = true ∨ cpB c = true then (if 16 < (runL (c :: r)).length then (.zero, 9) else (⟨refK (runL (c :: r)) c, runL (c :: r), false, 0⟩, 0))
  else if dgB c = true then numT (runL (c :: r))
  else if c = 35 then (if runL (trimPrefix r [45]) = [] then (.zero, 3) else numT (markedL (c :: r)))
  else if (sgChosen (c :: r)).1.size = 0 then (.zero, 3) else (⟨(sgChosen (c :: r)).2, (sgChosen (c :: r)).1.data.toList, false, 0⟩, 0)
theorem numT_bad {t : List UInt8} (h : (parseL (trimPrefix t [35])).2.2 = 3) : numT t = (.zero, 3) := by
  unfold numT
  rw [h, if_neg (by decide)]
theorem no_sign {c : UInt8} (r : List UInt8) (h : inRun c = true ∨ c = 35) : signL (c :: r) = none := by
  have h0 : ∀ x, x ∈ signsB → ∃ d q, x.1.data.toList = d :: q ∧ inRun d = false ∧ d ≠ 35 := by
    intro x hx
    simp only [signsB, List.mem_cons, List.not_mem_nil, or_false] at hx
    rcases hx with rfl | rfl | rfl | rfl | rfl | rfl | rfl | rfl | rfl | rfl | rfl | rfl | rfl | rfl | rfl | rfl | rfl | rfl | rfl | rfl | rfl
    all_goals exact ⟨_, _, rfl, by decide, by decide⟩
  unfold signL
  rw [List.find?_eq_none]
  intro x hx g
  obtain ⟨d, q, e, h1, h2⟩ := h0 x hx
  rw [e, has_cons] at g
  simp only [Bool.and_eq_true, beq_iff_eq] at g
  obtain rfl := g.1
  rcases h with h | h
  · rw [h1] at h; cases h
  · exact h2 h
theorem smB_iff (c : UInt8) : smB c = true ↔ Sm c := by unfold smB Sm; exact decide_eq_true_iff
theorem cpB_iff (c : UInt8) : cpB c = true ↔ Cp c := by unfold cpB Cp; exact decide_eq_true_iff
theorem dgB_iff (c : UInt8) : dgB c = true ↔ Dg c := by unfold dgB Dg; exact decide_eq_true_iff
theorem mem_all : ∀ n : Fin 256, decide (UInt8.ofNat n.val ∈ smallsB.data.toList) = smB (UInt8.ofNat n.val) ∧ decide (UInt8.ofNat n.val ∈ capsB.data.toList) = cpB (UInt8.ofNat n.val) ∧ decide (UInt8.ofNat n.val ∈ digsB.data.toList) = dgB (UInt8.ofNat n.val) := by decide +kernel
theorem mem_of (c : UInt8) : decide (c ∈ smallsB.data.toList) = smB c ∧ decide (c ∈ capsB.data.toList) = cpB c ∧ decide (c ∈ digsB.data.toList) = dgB c := by
  have h := mem_all ⟨c.toNat, c.toNat_lt⟩
  simpa using h
theorem kputs_at (f : List UInt8 → Option Int) (l : List UInt8) (u : Int) (c : UInt8) : kputs f l u [c] = if c ∈ l then some u else f [c] := by
  unfold kputs
  by_cases h : c ∈ l
  · rw [if_pos ⟨c, h, rfl⟩, if_pos h]
  · rw [if_neg h, if_neg]
    rintro ⟨d, hd, e⟩
    simp only [List.cons.injEq, and_true] at e
    rw [e] at h
    exact h hd
theorem kputs_far (f : List UInt8 → Option Int) (l : List UInt8) (u : Int) (c d : UInt8) (r : List UInt8) : kputs f l u (c :: d :: r) = f (c :: d :: r) := by
  unfold kputs
  rw [if_neg]
  rintro ⟨x, hx, e⟩
  simp at e
def baseK (c : UInt8) : Int := if dgB c = true then 3 else if cpB c = true then 2 else if smB c = true then 1 else 0
theorem kind_one (c : UInt8) : (kindF [c]).getD 0 = baseK c ∧ (kindF [c] = none → baseK c = 0) := by
  obtain ⟨h1, h2, h3⟩ := mem_of c
  unfold kindF
  have e1 : c ∈ smallsB.data.toList ↔ smB c = true := by rw [← h1]; exact decide_eq_true_iff.symm
  have e2 : c ∈ capsB.data.toList ↔ cpB c = true := by rw [← h2]; exact decide_eq_true_iff.symm
  have e3 : c ∈ digsB.data.toList ↔ dgB c = true := by rw [← h3]; exact decide_eq_true_iff.symm
  simp only [kputs_at, word_one, e1, e2, e3]
  unfold baseK
  cases dgB c <;> cases cpB c <;> cases smB c <;> simp
theorem kindOf_eq {c : UInt8} {r : List UInt8} (h : inRun c = true) : kindOf (c :: r) = (wordF (runL (c :: r))).getD (baseK c) := by
  obtain ⟨k1, k2⟩ := kind_one c
  unfold kindOf
  rw [run_cons, if_pos h]
  have e1 : List.take 1 (c :: r) = [c] := rfl
  rw [e1]
  cases hr : runL r with
  | nil =>
    rw [word_one]
    cases hk : kindF [c] with
    | none => rw [hk] at k1; simpa using k1
    | some k => rw [hk] at k1; simpa using k1
  | cons d q =>
    have e : kindF (c :: d :: q) = wordF (c :: d :: q) := by
      unfold kindF
      rw [kputs_far, kputs_far, kputs_far]
    rw [e]
    cases hw : wordF (c :: d :: q) with
    | none => simpa using k1
    | some k => simp
theorem word_small {c : UInt8} {t : List UInt8} (h : smB c = false) : wordF (c :: t) = none := by
  cases hw : wordF (c :: t) with
  | none => rfl
  | some k =>
    obtain ⟨-, d, q, e, hs⟩ := word_some hw
    simp only [List.cons.injEq] at e
    obtain ⟨rfl, rfl⟩ := e
    rw [(smB_iff c).2 hs] at h
    cases h
theorem has35_iff (c : UInt8) (r : List UInt8) : hasPrefix (c :: r) [35] = true ↔ c = 35 := by
  rw [has_cons, has_nil]
  simp only [Bool.and_true, beq_iff_eq]
  exact ⟨Eq.symm, Eq.symm⟩
theorem marked_none {r : List UInt8} (h : runL (trimPrefix r [45]) = []) : numT (markedL (35 :: r)) = (.zero, 3) := by
  rcases minus_split r with ⟨q, rfl⟩ | g
  · have e : trimPrefix (45 :: q) [45] = q := by simp [trimPrefix, hasPrefix]
    rw [e] at h
    rw [marked_minus, h]
    exact numT_bad (by decide)
  · have e : trimPrefix r [45] = r := by simp [trimPrefix, g]
    rw [e] at h
    rw [marked_plain g, h]
    exact numT_bad (by decide)
theorem one_read (c : UInt8) (r : List UInt8) : readL (c :: r) = oneL c r := by
  have hin := inRun_eq c
  unfold oneL
  by_cases h1 : smB c = true ∨ cpB c = true
  · have hi : inRun c = true := by rw [hin]; rcases h1 with h | h <;> simp [h]
    have h35 : ¬ c = 35 := by
      intro e
      subst e
      rcases h1 with h | h <;> revert h <;> decide
    have hd : dgB c = false := by
      rw [Bool.eq_false_iff]
      intro hd
      rw [dgB_iff] at hd
      rw [smB_iff, cpB_iff] at h1
      unfold Sm Cp at h1
      unfold Dg at hd
      omega
    rw [if_pos h1]
    have hk := kindOf_eq (r := r) hi
    have hrf : (wordF (runL (c :: r))).getD (baseK c) = refK (runL (c :: r)) c := by
      unfold refK baseK
      rw [hd]
      cases hc : cpB c with
      | true =>
        have := (cpB_iff c).1 hc
        unfold Cp at this
        simp [this]
      | false =>
        have hc' : ¬ (65 ≤ c.toNat ∧ c.toNat ≤ 90) := fun h => by
          rw [(cpB_iff c).2 h] at hc
          cases hc
        rw [hc] at h1
        have hs : smB c = true := h1.resolve_right (by decide)
        simp [hs, hc']
    rw [hrf] at hk
    have hk03 : refK (runL (c :: r)) c ≠ 0 ∧ refK (runL (c :: r)) c ≠ 3 := by
      unfold refK
      cases hw : wordF (runL (c :: r)) with
      | none =>
        simp only [Option.getD_none]
        split <;> decide
      | some k =>
        obtain ⟨h57, -⟩ := word_some hw
        simp only [Option.getD_some]
        omega
    unfold readL
    rw [no_sign r (Or.inl hi)]
    simp only
    rw [if_neg (by rw [has35_iff]; exact h35)]
    unfold readR
    rw [hk, if_neg hk03.1, if_neg hk03.2]
  · rw [if_neg h1]
    simp only [not_or, Bool.not_eq_true] at h1
    by_cases h2 : dgB c = true
    · have hi : inRun c = true := by rw [hin]; simp [h2]
      have h35 : ¬ c = 35 := by
        intro e
        subst e
        revert h2
        decide
      rw [if_pos h2]
      have hk := kindOf_eq (r := r) hi
      have hw : wordF (runL (c :: r)) = none := by rw [run_cons, if_pos hi]; exact word_small h1.1
      have hb : baseK c = 3 := by unfold baseK; rw [h2]; rfl
      rw [hw, hb] at hk
      unfold readL
      rw [no_sign r (Or.inl hi)]
      simp only
      rw [if_neg (by rw [has35_iff]; exact h35)]
      unfold readR
      rw [hk]
      rfl
    · rw [if_neg h2]
      simp only [Bool.not_eq_true] at h2
      by_cases h3 : c = 35
      · rw [if_pos h3]
        subst h3
        unfold readL
        rw [no_sign r (Or.inr rfl)]
        simp only
        rw [if_pos ((has35_iff 35 r).2 rfl)]
        split
        · rename_i g
          exact marked_none g
        · rfl
      · rw [if_neg h3]
        have hs := sign_long c r
        unfold signOf at hs
        unfold readL
        rw [hs]
        by_cases h4 : (sgChosen (c :: r)).1.size = 0
        · rw [if_pos h4, if_pos h4]
          simp only
          rw [if_neg (by rw [has35_iff]; exact h3)]
          have hk : kindOf (c :: r) = 0 := by
            by_cases hi : inRun c = true
            · rw [kindOf_eq hi, run_cons, if_pos hi, word_small h1.1]
              unfold baseK
              rw [h2, h1.1, h1.2]
              rfl
            · refine kindOf_nil ?_
              rw [run_cons, if_neg hi]
          unfold readR
          rw [hk]
          rfl
        · rw [if_neg h4, if_neg h4]
end Go.Proofs.YthehgcmhcioffaaGreatDoor
namespace Go.Proofs.YthehgcmhcioffaaGreatDoor
set_option maxHeartbeats 64000000
set_option maxRecDepth 100000
open Go.RowKit
open Go.Lib (NumEnd parseIntB itoa)
def printL (f : Bool) (x : Int) : List UInt8 := if f = true then fltL x.toNat else itoa (wrap64 x)
theorem U_range (v : Int) : 0 ≤ U v ∧ U v < 18446744073709551616 := by rw [U_eq]; omega
theorem print_len (f : Bool) (x : Int) (h0 : 0 ≤ x) (h1 : x < 18446744073709551616) : (printL f x).length ≤ 1000 := by
  cases f with
  | false =>
    have h := wrap64_range x
    have := Lib.itoa_length_le (wrap64 x) h.1 h.2
    show (itoa (wrap64 x)).length ≤ 1000
    omega
  | true =>
    show (fltL x.toNat).length ≤ 1000
    rw [fltL_eq _ (by omega)]
    simp only [List.length_cons, hexK_length]
    omega
theorem back (l : List UInt8) (b : Bool) (y : Int) (h : parseL l = (b, y, 0)) : 0 ≤ y ∧ y < 18446744073709551616 ∧ printL b y = l := by
  unfold parseL at h
  split at h
  · rename_i hp
    split at h
    · rename_i hx
      simp only [Prod.mk.injEq] at h
      obtain ⟨rfl, rfl, _⟩ := h
      obtain ⟨e1, e2⟩ := hex_back (l.drop 2) hx.1 hx.2
      refine ⟨by omega, by omega, ?_⟩
      show fltL ((hexN 0 (l.drop 2) : Nat) : Int).toNat = l
      rw [Int.toNat_natCast, e2]
      have hp' : List.isPrefixOf [48, 102] l = true := hp
      obtain ⟨t, ht⟩ := List.isPrefixOf_iff_prefix.1 hp'
      rw [← ht]; rfl
    · simp at h
  · split at h
    · rename_i hf
      cases hv : parseIntB 64 l with
      | ok v =>
        rw [hv] at h
        simp only [Prod.mk.injEq] at h
        obtain ⟨rfl, rfl, _⟩ := h
        obtain ⟨b1, b2⟩ := Lib.parseIntB_bounds hv
        refine ⟨(U_range v).1, (U_range v).2, ?_⟩
        show itoa (wrap64 (U v)) = l
        rw [wrap64_U v ⟨by simpa using b1, by have := b2; simp at this; omega⟩]
        exact int_back l v hf hv
      | range => rw [hv] at h; simp at h
      | _ => rw [hv] at h; simp at h
    · simp at h
end Go.Proofs.YthehgcmhcioffaaGreatDoor
namespace Go.Proofs.YthehgcmhcioffaaGreatDoor
set_option maxHeartbeats 64000000
set_option maxRecDepth 100000
open Go.RowKit
def digV (c : Nat) : Nat := if 48 ≤ c ∧ c ≤ 57 then c - 48 else if 97 ≤ c ∧ c ≤ 102 then c - 87 else 99
theorem digit_any (c : Nat) (w : World) (hc : c < 256) :
    Calls Tryz.prog 148 #[.int .u8 c] w fun e w' => e = .returned (.int .u64 (digV c : Nat)) ∧ w' = w := by
  have h : (48 ≤ c ∧ c ≤ 57) ∨ (97 ≤ c ∧ c ≤ 102) ∨ c < 48 ∨ (57 < c ∧ c < 97) ∨ 102 < c := by omega
  rcases h with h | h | h | h | h
  · have e : (digV c : Int) = (c : Int) - 48 := by unfold digV; rw [if_pos h]; omega
    rw [e]; clear e
    obtain ⟨h1, h2⟩ := h
    go_enter Tryz.func148, Tryz.ntmps148
    go_wp2_with fail
    go_ret
    exact ⟨rfl, rfl⟩
  · have e : (digV c : Int) = (c : Int) - 97 + 10 := by unfold digV; rw [if_neg (by omega), if_pos h]; omega
    rw [e]; clear e
    obtain ⟨h1, h2⟩ := h
    go_enter Tryz.func148, Tryz.ntmps148
    go_wp2_with fail
    go_ret
    exact ⟨rfl, rfl⟩
  · have e : (digV c : Int) = 99 := by unfold digV; rw [if_neg (by omega), if_neg (by omega)]; rfl
    rw [e]; clear e
    go_enter Tryz.func148, Tryz.ntmps148
    go_wp2_with fail
    go_ret
    exact ⟨rfl, rfl⟩
  · have e : (digV c : Int) = 99 := by unfold digV; rw [if_neg (by omega), if_neg (by omega)]; rfl
    rw [e]; clear e
    obtain ⟨h1, h2⟩ := h
    go_enter Tryz.func148, Tryz.ntmps148
    go_wp2_with fail
    go_ret
    exact ⟨rfl, rfl⟩
  · have e : (digV c : Int) = 99 := by unfold digV; rw [if_neg (by omega), if_neg (by omega)]; rfl
    rw [e]; clear e
    go_enter Tryz.func148, Tryz.ntmps148
    go_wp2_with fail
    go_ret
    exact ⟨rfl, rfl⟩
end Go.Proofs.YthehgcmhcioffaaGreatDoor
