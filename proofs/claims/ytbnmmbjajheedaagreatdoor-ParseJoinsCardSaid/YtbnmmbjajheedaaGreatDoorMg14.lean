import Derived.Test.YtbnmmbjajheedaaGreatDoorMg3
import Derived.Test.YtbnmmbjajheedaaGreatDoorMg11
import Derived.Test.YtbnmmbjajheedaaGreatDoorMg13
namespace Go.Proofs.YtbnmmbjajheedaaGreatDoor
set_option maxHeartbeats 64000000
set_option maxRecDepth 100000
open Go.RowKit Go.Lib
theorem begins_iff {rest : List Tok} (hv : Tvs rest) : begins rest ↔ shapeL rest ∈ atomShapes := by
 unfold begins atomShapes
 rw [kind_shape (by decide) (by decide), kind_shape (by decide) (by decide), kind_shape (by decide) (by decide), kind_shape (by decide) (by decide), sees_sign (by unfold Sm; decide) hv]
 simp only [List.mem_cons, List.not_mem_nil, or_false, sName, sCon, sNum, sBack, sOpen]
 constructor
 ·rintro (h | h | h | h | h) <;> simp [h]
 ·rintro (h | h | h | h | h) <;> simp [h]
theorem tok_take {ll k last : Int} {rest : List Tok} (h0 : k ≠ 0) (hk : kindL rest = k) (hl : lastOf last rest = ll) (hv : Tvs rest) {β : Type} {f : Tok → Int → List Tok → Out β} {d : β × St}
  (h : ∀ y r, rest = y :: r → tokD ll k ⟨rest, 0, 0⟩ = (y, ⟨r, 0, 0⟩) → lastOf y.2 r = ll → Tvs r → Ag ll (f y y.2 r) d) : Ag ll ((takeO last rest).bind f) d := by
 obtain ⟨y, r, rfl, ht⟩ := tok_ok (ll := ll) h0 hk
 exact h y r rfl ht hl hv.tail
theorem atom_sim {ll : Int} {ex : Par Ex} {dx : Dp Ex} (hx : Sim ll ex dx) {last : Int} {rest : List Tok} (hl : lastOf last rest = ll) (hv : Tvs rest) (hb : begins rest) : Ag ll (atomO ex last rest) (atomD ll dx ⟨rest, 0, 0⟩) := by
 unfold atomO atomD
 have k1 := kName rest
 have k2 := kCon rest
 have k3 := kNum rest
 have k7 := kBack rest
 by_cases g1 : kindL rest = 1
 ·rw [if_pos (k1.1 g1), if_pos g1]
  refine tok_take (by decide) g1 hl hv fun y r e ht hl hv => ?_
  rw [ht]
  exact .done rfl hl hv
 rw [if_neg (fun h => g1 (k1.2 h)), if_neg g1]
 by_cases g2 : kindL rest = 2
 ·rw [if_pos (k2.1 g2), if_pos g2]
  refine tok_take (by decide) g2 hl hv fun y r e ht hl hv => ?_
  rw [ht]
  exact .done rfl hl hv
 rw [if_neg (fun h => g2 (k2.2 h)), if_neg g2]
 by_cases g3 : kindL rest = 3
 ·rw [if_pos (k3.1 g3), if_neg (by rw [g3]; decide), if_pos g3]
  refine tok_take (by decide) g3 hl hv fun y r e ht hl hv => ?_
  rw [ht]
  exact .done rfl hl hv
 rw [if_neg (fun h => g3 (k3.2 h))]
 by_cases g7 : kindL rest = 7
 ·rw [if_pos (k7.1 g7), if_pos g7]
  refine tok_take (by decide) g7 hl hv fun y r e ht hl hv => ?_
  rw [ht]
  exact .done rfl hl hv
 rw [if_neg (fun h => g7 (k7.2 h)), if_neg g7, if_neg g3]
 have hs : shapeL rest = sOpen := by
  rcases hb with h | h | h | h | h
  ·exact absurd h g1
  ·exact absurd h g2
  ·exact absurd h g7
  ·exact absurd h g3
  ·exact (sees_sign (by unfold Sm; decide) hv).1 h
 rw [if_pos hs]
 unfold innerO wantO
 rw [if_pos hs]
 obtain ⟨y, q, rfl⟩ := take_of hs (by decide)
 simp only [takeO, Out.bind]
 rw [show (St.next ⟨y :: q, 0, 0⟩) = ⟨q, 0, 0⟩ from rfl]
 refine (hx y.2 q hl hv.tail).of (fun a l r ho hs hl hv => ?_) (fun he => by rw [need_dead he]; exact ⟨rfl, rfl⟩)
 rw [hs]
 refine (want_ag (sh := sShut) (t := [41]) (by decide) (sees_sign (by unfold Sm; decide) hv) hl hv).of (fun a2 l2 r2 ho hs hl hv => ?_) (fun he => ⟨rfl, rfl⟩)
 rw [hs]
 exact .done rfl hl hv
theorem atoms_sim {ll : Int} {ex : Par Ex} {dx : Dp Ex} (hx : Sim ll ex dx) (hsh : Shrinks ex) : ∀ (nO nD : Nat) (acc pre : List Ex) (last : Int) (rest : List Tok), rest.length < nO → rest.length < nD → lastOf last rest = ll → Tvs rest →
  Ag ll ((atomsO ex nO acc last rest).bind fun xs l r => .ok (pre ++ xs) l r) (atomsD ll dx nD (pre ++ acc) ⟨rest, 0, 0⟩)
 | nO + 1, nD + 1, acc, pre, last, rest, hO, hD, hl, hv => by
  unfold atomsO atomsD
  by_cases g : begins rest
  ·rw [if_pos ((begins_iff hv).1 g), if_pos ⟨rfl, g⟩]
   have ha := atom_sim hx hl hv g
   cases ho : atomO ex last rest with
   | bad e ln =>
    rw [ho] at ha
    obtain ⟨h1, h2, h3⟩ := ha
    rw [atoms_dead _ _ (by rw [h2]; exact h1)]
    exact ⟨h1, h2, h3⟩
   | ok a l r =>
    have hst := atom_strict hsh ho
    rw [ho] at ha
    obtain ⟨h1, h2, h3⟩ := ha
    rw [h1]
    simp only [Out.bind]
    rw [List.append_assoc]
    exact atoms_sim hx hsh nO nD (acc ++ [a]) pre l r (by omega) (by omega) h2 h3
  ·rw [if_neg (fun h => g ((begins_iff hv).2 h)), if_neg (fun h => g h.2)]
   exact .done rfl hl hv
theorem atom_leaf {ex : Par Ex} {last l : Int} {rest r : List Tok} {a : Ex} (h : atomO ex last rest = .ok a l r) (hs : shapeL rest = sCon ∨ shapeL rest = sBack) : a.withKids [] = a := by
 unfold atomO at h
 rcases hs with hs | hs
 ·obtain ⟨y, q, rfl⟩ := take_of hs (by decide)
  rw [hs, if_neg (by decide), if_pos rfl] at h
  cases h
  rfl
 ·obtain ⟨y, q, rfl⟩ := take_of hs (by decide)
  rw [hs, if_neg (by decide), if_neg (by decide), if_neg (by decide), if_pos rfl] at h
  cases h
  rfl
theorem row_sim {ll : Int} {ex : Par Ex} {dx : Dp Ex} (hx : Sim ll ex dx) (hsh : Shrinks ex) : Sim ll (rowO ex) (rowD ll dx) := by
 intro last rest hl hv
 unfold rowO rowD
 by_cases g : begins rest
 ·have ha := atom_sim hx hl hv g
  have hun : atomsD ll dx (rest.length + 1) [] ⟨rest, 0, 0⟩ = atomsD ll dx rest.length [(atomD ll dx ⟨rest, 0, 0⟩).1] (atomD ll dx ⟨rest, 0, 0⟩).2 := by
   conv => lhs; unfold atomsD
   rw [if_pos ⟨rfl, g⟩]
   rfl
  simp only
  rw [hun]
  cases ho : atomO ex last rest with
  | bad e ln =>
   rw [ho] at ha
   obtain ⟨h1, h2, h3⟩ := ha
   rw [atoms_dead _ _ (by rw [h2]; exact h1)]
   refine ⟨h1, ?_⟩
   simp only [List.cons_ne_nil, if_false]
   exact ⟨h2, h3⟩
  | ok a l r =>
   have hst := atom_strict hsh ho
   have hlf := fun h => atom_leaf ho h
   rw [ho] at ha
   obtain ⟨h1, h2, h3⟩ := ha
   rw [h1]
   have hr := atoms_sim hx hsh (r.length + 1) rest.length [] [a] l r (by omega) hst h2 h3
   simp only [List.append_nil] at hr
   simp only [Out.bind]
   cases hq : atomsO ex (r.length + 1) [] l r with
   | bad e ln =>
    rw [hq] at hr
    obtain ⟨e1, e2, e3⟩ := hr
    have hne : (atomsD ll dx rest.length [a] ⟨r, 0, 0⟩).1 ≠ [] ∨ (atomsD ll dx rest.length [a] ⟨r, 0, 0⟩).2.bad ll 3 = (atomsD ll dx rest.length [a] ⟨r, 0, 0⟩).2 := Or.inr (bad_dead (by rw [e2]; exact e1))
    refine ⟨e1, ?_⟩
    split
    ·rcases hne with h | h
     ·contradiction
     ·rw [h]; exact ⟨e2, e3⟩
    ·exact ⟨e2, e3⟩
   | ok xs l2 r2 =>
    rw [hq] at hr
    obtain ⟨e1, e2, e3⟩ := hr
    refine .done ?_ e2 e3
    rw [e1]
    simp only [List.cons_append, List.nil_append, List.cons_ne_nil, if_false]
    congr 1
    have kk : (kindL rest = 2 ∨ kindL rest = 7) ↔ (shapeL rest = sCon ∨ shapeL rest = sBack) := by rw [kind_shape (by decide) (by decide), kind_shape (by decide) (by decide)]; rfl
    cases xs with
    | nil =>
     show a = rowE _ a []
     unfold rowE
     split
     ·rename_i h
      exact (hlf (of_decide_eq_true h)).symm
     ·rw [if_pos rfl]
    | cons x xs =>
     show (if kindL rest = 2 ∨ kindL rest = 7 then a.withKids (x :: xs) else .mk 4 [] false 0 [] (a :: x :: xs) [] []) = rowE _ a (x :: xs)
     unfold rowE
     by_cases h : kindL rest = 2 ∨ kindL rest = 7
     ·rw [if_pos h, if_pos (decide_eq_true (kk.1 h))]
     ·rw [if_neg h, if_neg (by simpa using fun h' => h (kk.2 h')), if_neg (by simp)]
 ·have hn : shapeL rest ≠ sName ∧ shapeL rest ≠ sCon ∧ shapeL rest ≠ sNum ∧ shapeL rest ≠ sBack ∧ shapeL rest ≠ sOpen := by
   have this : ¬ shapeL rest ∈ atomShapes := fun h => g ((begins_iff hv).2 h)
   simp only [atomShapes, List.mem_cons, List.not_mem_nil, or_false, not_or] at this
   exact this
  have hun : atomsD ll dx (rest.length + 1) [] ⟨rest, 0, 0⟩ = ([], ⟨rest, 0, 0⟩) := by
   conv => lhs; unfold atomsD
   rw [if_neg (fun h => g h.2)]
  simp only
  rw [hun, atomO_none hn]
  have h := refuse_ag (α := Ex) (ll := ll) (er := 3) (by decide) hl
  rw [refuseO_eq] at h
  exact h.ag (by simp)
theorem rows_sim {ll : Int} {ex : Par Ex} {dx : Dp Ex} (hx : Sim ll ex dx) (hsh : Shrinks ex) : Sim ll (rowsO ex) (rowsD ll dx) := by
 intro last rest hl hv
 unfold rowsO rowsD
 refine (row_sim hx hsh last rest hl hv).of (fun a l r ho hs hl hv => ?_) (fun he => by rw [if_neg (fun h => he h.1)]; exact ⟨rfl, rfl⟩)
 rw [hs]
 by_cases g : kindL r = 4
 ·rw [if_pos ((kSign _).1 g), if_pos ⟨rfl, g⟩]
  refine tok_take (by decide) g hl hv fun y r2 e ht hl hv => ?_
  rw [ht]
  refine (row_sim hx hsh y.2 r2 hl hv).of (fun b l3 r3 ho hs hl hv => ?_) (fun he => ⟨rfl, rfl⟩)
  rw [hs]
  exact .done rfl hl hv
 ·rw [if_neg (fun h => g ((kSign _).2 h)), if_neg (fun h => g h.2)]
  exact .done rfl hl hv
theorem want_at {last : Int} {rest : List Tok} {sh : Sh} (g : shapeL rest = sh) (h0 : sh.1 ≠ 0) {β : Type} {f : Tok → Int → List Tok → Out β} {ll : Int} {d : Dp β} (hl : lastOf last rest = ll) (hv : Tvs rest)
  (h : ∀ y r, lastOf y.2 r = ll → Tvs r → Ag ll (f y y.2 r) (d ⟨r, 0, 0⟩)) : Ag ll ((wantO sh last rest).bind f) (d (St.next ⟨rest, 0, 0⟩)) := by
 obtain ⟨y, r, rfl⟩ := take_of g h0
 unfold wantO
 rw [if_pos g]
 exact h y r hl hv.tail
theorem let_sim {ll : Int} {ex : Par Ex} {dx : Dp Ex} (hx : Sim ll ex dx) (hd : Dead dx) {last : Int} {rest : List Tok} (hl : lastOf last rest = ll) (hv : Tvs rest) (g : shapeL rest = sLet) : Ag ll (letO ex last rest) (letD ll dx (St.next ⟨rest, 0, 0⟩)) := by
 unfold letO
 refine want_at g (by decide) hl hv fun y r hl hv => ?_
 unfold letD
 refine (some_sim (bind_sim hx hd) (bind_dead hd) y.2 r hl hv).of (fun a l r ho hs hl hv => ?_) (fun he => by rw [need_dead he]; exact hd _ he)
 rw [hs]
 refine (want_ag (sh := sIn) (t := [105, 110]) (by decide) (sees_word (by unfold Sm; decide) hv) hl hv).of (fun a2 l2 r2 ho hs hl hv => ?_) (fun he => hd _ he)
 rw [hs]
 refine (hx l2 r2 hl hv).of (fun b l3 r3 ho hs hl hv => ?_) (fun he => ⟨rfl, rfl⟩)
 rw [hs]
 exact .done rfl hl hv
theorem lam_sim {ll : Int} {ex : Par Ex} {dx : Dp Ex} (hx : Sim ll ex dx) (hd : Dead dx) {last : Int} {rest : List Tok} (hl : lastOf last rest = ll) (hv : Tvs rest) (g : shapeL rest = sLam) : Ag ll (lamO ex last rest) (lamD ll dx (St.next ⟨rest, 0, 0⟩)) := by
 unfold lamO
 refine want_at g (by decide) hl hv fun y r hl hv => ?_
 unfold lamD
 by_cases g : kindL r = 1
 ·rw [if_pos ((kName _).1 g)]
  obtain ⟨z, r, rfl, -⟩ := tok_ok (ll := ll) (k := 1) (by decide) g
  obtain ⟨e1, e2, e3⟩ := names1_ok (ll := ll) g hl hv.tail
  have hn : namesO y.2 (z :: r) [] = (z.1.t :: (namesO z.2 r []).1, (namesO z.2 r []).2) := by
   conv => lhs; unfold namesO
   rw [if_pos (show shapeT z.1 = sName from (kName (z :: r)).1 g), names_acc]
   rfl
  rw [e1, hn]
  refine (want_ag (sh := sArrow) (t := [45, 62]) (by decide) (sees_sign (by unfold Sm; decide) e3) e2 e3).of (fun a2 l2 r2 ho hs hl hv => ?_) (fun he => hd _ he)
  rw [hs]
  refine (hx l2 r2 hl hv).of (fun b l3 r3 ho hs hl hv => ?_) (fun he => ⟨rfl, rfl⟩)
  rw [hs]
  exact .done rfl hl hv
 ·rw [if_neg (fun h => g ((kName _).2 h)), names1_bad g]
  have hb := bad_ne0 (ll := ll) (er := 3) (rest := r) (by decide)
  rw [need_dead hb]
  have h := refuse_ag (α := Ex) (ll := ll) (er := 3) (by decide) hl
  rw [refuseO_eq] at h ⊢
  obtain ⟨h1, h2, h3⟩ := h
  obtain ⟨d1, d2⟩ := hd _ hb
  exact ⟨h1, d1.trans h2, d2.trans h3⟩
theorem alt_sim {ll : Int} {ex : Par Ex} {dx : Dp Ex} (hx : Sim ll ex dx) (hd : Dead dx) : Sim ll (altO ex) (altD ll dx) := by
 intro last rest hl hv
 unfold altO altD
 have k2 := kCon rest
 have k3 := kNum rest
 by_cases g2 : kindL rest = 2
 ·rw [if_pos (k2.1 g2), if_pos g2]
  refine tok_take (by decide) g2 hl hv fun y r e ht hl hv => ?_
  obtain ⟨e1, e2, e3⟩ := names0_ok (ll := ll) hl hv
  rw [ht, e1]
  refine (want_ag (sh := sArrow) (t := [45, 62]) (by decide) (sees_sign (by unfold Sm; decide) e3) e2 e3).of (fun a2 l2 r2 ho hs hl hv => ?_) (fun he => hd _ he)
  rw [hs]
  refine (hx l2 r2 hl hv).of (fun b l3 r3 ho hs hl hv => ?_) (fun he => ⟨rfl, rfl⟩)
  rw [hs]
  exact .done rfl hl hv
 rw [if_neg (fun h => g2 (k2.2 h)), if_neg g2]
 by_cases g3 : kindL rest = 3
 ·rw [if_pos (k3.1 g3), if_pos g3]
  refine tok_take (by decide) g3 hl hv fun y r e ht hl hv => ?_
  rw [ht]
  refine (want_ag (sh := sArrow) (t := [45, 62]) (by decide) (sees_sign (by unfold Sm; decide) hv) hl hv).of (fun a2 l2 r2 ho hs hl hv => ?_) (fun he => hd _ he)
  rw [hs]
  refine (hx l2 r2 hl hv).of (fun b l3 r3 ho hs hl hv => ?_) (fun he => ⟨rfl, rfl⟩)
  rw [hs]
  exact .done rfl hl hv
 rw [if_neg (fun h => g3 (k3.2 h)), if_neg g3, want_name]
 by_cases g : kindL rest = 1
 ·rw [if_pos g]
  refine tok_take (by decide) g hl hv fun y r e ht hl hv => ?_
  rw [ht]
  refine (want_ag (sh := sArrow) (t := [45, 62]) (by decide) (sees_sign (by unfold Sm; decide) hv) hl hv).of (fun a2 l2 r2 ho hs hl hv => ?_) (fun he => hd _ he)
  rw [hs]
  refine (hx l2 r2 hl hv).of (fun b l3 r3 ho hs hl hv => ?_) (fun he => ⟨rfl, rfl⟩)
  rw [hs]
  exact .done rfl hl hv
 ·rw [if_neg g]
  have ht : tokD ll 1 ⟨rest, 0, 0⟩ = (tokO [], St.bad ll 3 ⟨rest, 0, 0⟩) := by unfold tokD; rw [if_neg (fun h => g h.2)]
  have hb := bad_ne0 (ll := ll) (er := 3) (rest := rest) (by decide)
  rw [ht, need_dead hb]
  have h := refuse_ag (α := Ex) (ll := ll) (er := 3) (by decide) hl
  rw [refuseO_eq] at h ⊢
  obtain ⟨h1, h2, h3⟩ := h
  obtain ⟨d1, d2⟩ := hd _ hb
  exact ⟨h1, d1.trans h2, d2.trans h3⟩
theorem case_sim {ll : Int} {ex : Par Ex} {dx : Dp Ex} (hx : Sim ll ex dx) (hd : Dead dx) {last : Int} {rest : List Tok} (hl : lastOf last rest = ll) (hv : Tvs rest) (g : shapeL rest = sCase) : Ag ll (caseO ex last rest) (caseD ll dx (St.next ⟨rest, 0, 0⟩)) := by
 unfold caseO
 refine want_at g (by decide) hl hv fun y r hl hv => ?_
 unfold caseD
 have dead : ∀ s : St, s.e ≠ 0 → ∀ x : Ex, (if s.e = 0 ∧ seesL [125] s.r = true then (Ex.mk 7 [] false 0 [] [x] [] [], s.next) else (.mk 7 [] false 0 [] [x] [] (someD (altD ll dx) s).1, needD ll [125] (someD (altD ll dx) s).2)).2.e = s.e ∧ (if s.e = 0 ∧ seesL [125] s.r = true then (Ex.mk 7 [] false 0 [] [x] [] [], s.next) else (.mk 7 [] false 0 [] [x] [] (someD (altD ll dx) s).1, needD ll [125] (someD (altD ll dx) s).2)).2.ln = s.ln := by
  intro s hs x
  rw [if_neg (fun h => hs h.1)]
  obtain ⟨d1, d2⟩ := some_dead (alt_dead hd) s hs
  simp only
  rw [need_dead (by rw [d1]; exact hs)]
  exact ⟨d1, d2⟩
 refine (hx y.2 r hl hv).of (fun a l r ho hs hl hv => ?_) (fun he => ?_)
 rotate_left
 ·have ho : ofD ll (dx ⟨r, 0, 0⟩).2 = (dx ⟨r, 0, 0⟩).2 := by unfold ofD; rw [need_dead he, need_dead he]
  rw [ho]
  exact dead _ he _
 rw [hs]
 simp only
 unfold ofD
 refine (want_ag (sh := sOf) (t := [111, 102]) (by decide) (sees_word (by unfold Sm; decide) hv) hl hv).of (fun a2 l2 r2 ho hs hl hv => ?_) (fun he => ?_)
 rotate_left
 ·rw [need_dead he]
  exact dead _ he _
 rw [hs]
 refine (want_ag (sh := sCurl) (t := [123]) (by decide) (sees_sign (by unfold Sm; decide) hv) hl hv).of (fun a2 l2 r2 ho hs hl hv => ?_) (fun he => dead _ he _)
 rw [hs]
 have hq : seesL [125] r2 = true ↔ shapeL r2 = sLruc := sees_sign (by unfold Sm; decide) hv
 by_cases g : shapeL r2 = sLruc
 ·rw [if_pos g, if_pos ⟨rfl, hq.2 g⟩]
  obtain ⟨z, q, rfl⟩ := take_of g (by decide)
  unfold wantO
  rw [if_pos g]
  exact .done rfl hl hv.tail
 ·rw [if_neg g, if_neg (fun h => g (hq.1 h.2))]
  refine (some_sim (alt_sim hx hd) (alt_dead hd) l2 r2 hl hv).of (fun a l r ho hs hl hv => ?_) (fun he => by rw [need_dead he]; exact ⟨rfl, rfl⟩)
  rw [hs]
  refine (want_ag (sh := sLruc) (t := [125]) (by decide) (sees_sign (by unfold Sm; decide) hv) hl hv).of (fun a2 l2 r2 ho hs hl hv => ?_) (fun he => ⟨rfl, rfl⟩)
  rw [hs]
  exact .done rfl hl hv
theorem starts_iff {rest : List Tok} (hv : Tvs rest) : startsL rest ↔ shapeL rest ∈ exprShapes := by
 unfold startsL exprShapes
 rw [kind_shape (by decide) (by decide), kind_shape (by decide) (by decide), kind_shape (by decide) (by decide), kind_shape (by decide) (by decide), sees_sign (c := 40) (by unfold Sm; decide) hv, sees_sign (c := 92) (by unfold Sm; decide) hv, sees_word (c := 108) (by unfold Sm; decide) hv, sees_word (c := 99) (by unfold Sm; decide) hv]
 simp only [List.mem_cons, List.not_mem_nil, or_false, sName, sCon, sNum, sBack, sOpen, sLet, sCase, sLam]
 constructor
 ·rintro (h | h | h | h | h | h | h | h) <;> simp [h]
 ·rintro (h | h | h | h | h | h | h | h) <;> simp [h]
theorem expr_sim {ll : Int} : ∀ (n k d : Nat), k + d = 200 → 200 < n + d → Sim ll (exprO n d) (exprD ll k)
 | 0, k, d, h1, h2 => by omega
 | n + 1, 0, d, h1, h2 => by
  intro last rest hl hv
  obtain rfl : d = 200 := by omega
  unfold exprO exprD
  rw [if_neg (show ¬ ((⟨rest, 0, 0⟩ : St).e ≠ 0) by simp)]
  by_cases g : startsL rest
  ·rw [if_pos ((starts_iff hv).1 g), if_pos rfl, if_pos g, bad_dead (bad_ne0 (by decide))]
   exact refuse_Ag (by decide) hl rfl
  ·rw [if_neg (fun h => g ((starts_iff hv).2 h)), if_neg g]
   exact refuse_Ag (by decide) hl rfl
 | n + 1, k + 1, d, h1, h2 => by
  intro last rest hl hv
  have hx : Sim ll (exprO n (d + 1)) (exprD ll k) := expr_sim n k (d + 1) (by omega) (by omega)
  have hd : Dead (exprD ll k) := expr_dead k
  have hsh := expr_shrinks n (d + 1)
  have s1 : seesL [108, 101, 116] rest = true ↔ shapeL rest = sLet := sees_word (by unfold Sm; decide) hv
  have s2 : seesL [99, 97, 115, 101] rest = true ↔ shapeL rest = sCase := sees_word (by unfold Sm; decide) hv
  have s3 : seesL [92] rest = true ↔ shapeL rest = sLam := sees_sign (by unfold Sm; decide) hv
  unfold exprO exprD
  rw [if_neg (show ¬ ((⟨rest, 0, 0⟩ : St).e ≠ 0) by simp)]
  by_cases g : shapeL rest ∈ exprShapes
  ·rw [if_pos g, if_neg (by omega)]
   by_cases g1 : shapeL rest = sLet
   ·rw [if_pos g1, if_pos (s1.2 g1)]
    exact let_sim hx hd hl hv g1
   rw [if_neg g1, if_neg (fun h => g1 (s1.1 h))]
   by_cases g2 : shapeL rest = sCase
   ·rw [if_pos g2, if_pos (s2.2 g2)]
    exact case_sim hx hd hl hv g2
   rw [if_neg g2, if_neg (fun h => g2 (s2.1 h))]
   by_cases g3 : shapeL rest = sLam
   ·rw [if_pos g3, if_pos (s3.2 g3)]
    exact lam_sim hx hd hl hv g3
   rw [if_neg g3, if_neg (fun h => g3 (s3.1 h))]
   exact rows_sim hx hsh last rest hl hv
  ·have hn := g
   simp only [exprShapes, List.mem_cons, List.not_mem_nil, or_false, not_or] at hn
   rw [if_neg g, if_neg (fun h => hn.1 (s1.1 h)), if_neg (fun h => hn.2.1 (s2.1 h)), if_neg (fun h => hn.2.2.1 (s3.1 h))]
   have hb : ¬ begins rest := fun h => by
    have := (begins_iff hv).1 h
    simp only [atomShapes, List.mem_cons, List.not_mem_nil, or_false] at this
    rcases this with h | h | h | h | h
    ·exact hn.2.2.2.1 h
    ·exact hn.2.2.2.2.1 h
    ·exact hn.2.2.2.2.2.1 h
    ·exact hn.2.2.2.2.2.2.1 h
    ·exact hn.2.2.2.2.2.2.2 h
   have hun : atomsD ll (exprD ll k) (rest.length + 1) [] ⟨rest, 0, 0⟩ = ([], ⟨rest, 0, 0⟩) := by
    conv => lhs; unfold atomsD
    rw [if_neg (fun h => hb h.2)]
   have hrow : rowD ll (exprD ll k) ⟨rest, 0, 0⟩ = (blankX, St.bad ll 3 ⟨rest, 0, 0⟩) := by
    unfold rowD
    simp only
    rw [hun]
    rfl
   unfold rowsD
   rw [hrow, if_neg (fun h => bad_ne0 (by decide) h.1)]
   exact refuse_Ag (by decide) hl rfl
theorem decls_sim {ll : Int} : ∀ (n : Nat) (acc : List (Nm × Int)), Sim ll (declsO n acc) (declsD ll n acc)
 | 0, acc => fun last rest hl hv => .done rfl hl hv
 | n + 1, acc => fun last rest hl hv => by
  unfold declsO declsD
  by_cases g : kindL rest = 2
  ·rw [if_pos ((kCon _).1 g), if_pos ⟨rfl, g⟩]
   refine tok_take (by decide) g hl hv fun y r e ht hl hv => ?_
   rw [ht]
   simp only
   by_cases g3 : kindL r = 3
   ·rw [if_pos ((kNum _).1 g3)]
    obtain ⟨u, q, rfl, hu⟩ := tok_ok (ll := ll) (k := 3) (by decide) g3
    simp only [takeO, Out.bind]
    by_cases gr : u.1.f = true ∨ 24 < u.1.x
    ·have hdd : declD ll ⟨u :: q, 0, 0⟩ = St.bad ll 1 ⟨u :: q, 0, 0⟩ := by unfold declD; rw [if_pos ⟨g3, gr⟩]
     have hb := bad_ne0 (ll := ll) (er := 1) (rest := u :: q) (by decide)
     rw [if_pos gr, hdd, tok_dead hb]
     have hdz : ∀ acc, declsD ll n acc (St.bad ll 1 ⟨u :: q, 0, 0⟩) = (acc, St.bad ll 1 ⟨u :: q, 0, 0⟩) := fun acc => by
      cases n with
      | zero => rfl
      | succ n => unfold declsD; rw [if_neg (fun h => hb h.1)]
     simp only
     rw [hdz]
     exact refuse_Ag (by decide) hl rfl
    ·have hdd : declD ll ⟨u :: q, 0, 0⟩ = ⟨u :: q, 0, 0⟩ := by unfold declD; rw [if_neg (fun h => gr h.2)]
     rw [if_neg gr, hdd, hu]
     exact decls_sim n _ u.2 q hl hv.tail
   ·have hdd : declD ll ⟨r, 0, 0⟩ = ⟨r, 0, 0⟩ := by unfold declD; rw [if_neg (fun h => g3 h.1)]
    have ht3 : tokD ll 3 ⟨r, 0, 0⟩ = (tokO [], St.bad ll 3 ⟨r, 0, 0⟩) := by unfold tokD; rw [if_neg (fun h => g3 h.2)]
    have hb := bad_ne0 (ll := ll) (er := 3) (rest := r) (by decide)
    have hdz : ∀ acc, declsD ll n acc (St.bad ll 3 ⟨r, 0, 0⟩) = (acc, St.bad ll 3 ⟨r, 0, 0⟩) := fun acc => by
     cases n with
     | zero => rfl
     | succ n => unfold declsD; rw [if_neg (fun h => hb h.1)]
    rw [if_neg (fun h => g3 ((kNum _).2 h)), hdd, ht3]
    simp only
    rw [hdz]
    exact refuse_Ag (by decide) hl rfl
  ·rw [if_neg (fun h => g ((kCon _).2 h)), if_neg (fun h => g h.2)]
   exact .done rfl hl hv
theorem module_dead {ll : Int} (n : Nat) (cs : List (Nm × Int)) (bs : List Bnd) {s : St} (h : s.e ≠ 0) : moduleD ll n cs bs s = ((cs, bs), s) := by
 cases n with
 | zero => rfl
 | succ n => unfold moduleD; rw [if_neg (fun g => h g.1)]
theorem module_sim {ll : Int} : ∀ (n : Nat) (cs : List (Nm × Int)) (bs : List Bnd), Sim ll (moduleO n cs bs) (moduleD ll n cs bs)
 | 0, cs, bs => fun last rest hl hv => .done rfl hl hv
 | n + 1, cs, bs => fun last rest hl hv => by
  unfold moduleO moduleD
  by_cases g0 : rest = []
  ·rw [if_pos g0, if_neg (fun h => h.2 g0)]
   exact .done rfl hl hv
  rw [if_neg g0, if_pos (show (⟨rest, 0, 0⟩ : St).e = 0 ∧ (⟨rest, 0, 0⟩ : St).r ≠ [] from ⟨rfl, g0⟩)]
  have s1 : seesL [100, 97, 116, 97] rest = true ↔ shapeL rest = sData := sees_word (by unfold Sm; decide) hv
  by_cases g : shapeL rest = sData
  ·rw [if_pos g, if_pos (s1.2 g)]
   obtain ⟨y, r, rfl⟩ := take_of g (by decide)
   simp only [takeO, Out.bind]
   rw [show (St.next ⟨y :: r, 0, 0⟩) = ⟨r, 0, 0⟩ from rfl]
   unfold dataD
   refine (decls_sim (r.length + 1) [] y.2 r hl hv.tail).of (fun a l r2 ho hs hl hv => ?_) (fun he => by simp only [need_dead he, module_dead _ _ _ he, and_self])
   simp only
   rw [hs]
   refine (want_ag (sh := sSemi) (t := [59]) (by decide) (sees_sign (by unfold Sm; decide) hv) hl hv).of (fun a2 l2 r2 ho hs hl hv => ?_) (fun he => by simp only [module_dead _ _ _ he, and_self])
   simp only
   rw [hs]
   exact module_sim n _ _ l2 r2 hl hv
  ·rw [if_neg g, if_neg (fun h => g (s1.1 h))]
   refine (bind_sim (expr_sim (rest.length + 201) 200 0 rfl (by omega)) (expr_dead 200) last rest hl hv).of (fun a l r ho hs hl hv => ?_) (fun he => by simp only [need_dead he, module_dead _ _ _ he, and_self])
   rw [hs]
   refine (want_ag (sh := sSemi) (t := [59]) (by decide) (sees_sign (by unfold Sm; decide) hv) hl hv).of (fun a2 l2 r2 ho hs hl hv => ?_) (fun he => by simp only [module_dead _ _ _ he, and_self])
   simp only
   rw [hs]
   exact module_sim n _ _ l2 r2 hl hv
theorem parse_sim {T : List Tok} (hv : Tvs T) : Ag (lastOf 1 T) (parseO T) (moduleD (lastOf 1 T) (T.length + 1) [] [] ⟨T, 0, 0⟩) := module_sim _ _ _ 1 T rfl hv
theorem numT_x (t : List UInt8) : 0 ≤ (numT t).1.x := by
 unfold numT
 split
 ·rename_i h
  exact (back (trimPrefix t [35]) (parseL (trimPrefix t [35])).1 (parseL (trimPrefix t [35])).2.1 (by rw [← h])).1
 ·exact Int.le_refl 0
theorem readL_x (l : List UInt8) : 0 ≤ (readL l).1.x := by
 unfold readL readR
 repeat' split
 all_goals first | exact numT_x _ | exact Int.le_refl 0
theorem lexL_x {l : List UInt8} {T : List Tok} (h : lexL l = .good T) : ∀ y, y ∈ T → 0 ≤ y.1.x := by
 intro y hy
 obtain ⟨c, r, h1, _, _, _, h5⟩ := (lexL_own h).1 y hy
 have := readL_x y.1.t
 rw [h5] at this
 exact this
structure Shs (w : World) : Prop where
 letw : ShAt w 0 sLet
 casew : ShAt w 1 sCase
 lam : ShAt w 2 sLam
 name : ShAt w 3 sName
 con : ShAt w 4 sCon
 num : ShAt w 5 sNum
 back : ShAt w 6 sBack
 opn : ShAt w 7 sOpen
 data : ShAt w 8 sData
 semi : ShAt w 9 sSemi
 inw : ShAt w 10 sIn
 ofw : ShAt w 11 sOf
 curl : ShAt w 12 sCurl
 lruc : ShAt w 13 sLruc
 arrow : ShAt w 14 sArrow
 sign : ShAt w 15 sSign
 shut : ShAt w 16 sShut
 eq : ShAt w 17 sEq
theorem Shs.below {w w' : World} (h : Shs w) (hb : Below w.heap.size w w') : Shs w' := ⟨h.letw.later hb, h.casew.later hb, h.lam.later hb, h.name.later hb, h.con.later hb, h.num.later hb, h.back.later hb, h.opn.later hb, h.data.later hb, h.semi.later hb, h.inw.later hb, h.ofw.later hb, h.curl.later hb, h.lruc.later hb, h.arrow.later hb, h.sign.later hb, h.shut.later hb, h.eq.later hb⟩
theorem ShAt.b {w : World} {g b : Nat} {s : Sh} (h : ShAt w g s) (hb : w.heap.size ≤ b) : ShB w b g s := ⟨h, fun e => by have : g < w.heap.size := Bl h.1; omega⟩
theorem Shs.env {w : World} {b : Nat} (h : Shs w) (hb : w.heap.size ≤ b) : Env8 w b := ⟨h.letw.b hb, h.casew.b hb, h.lam.b hb, h.name.b hb, h.con.b hb, h.num.b hb, h.back.b hb, h.opn.b hb, h.data.b hb, h.semi.b hb, h.inw.b hb, h.ofw.b hb, h.curl.b hb, h.lruc.b hb, h.arrow.b hb, h.sign.b hb, h.shut.b hb, h.eq.b hb⟩
theorem RestIn.of_own {W : World} {base : Nat} {a : Option Addr} {c : Nat} {T : List Tok} (h : W.ownsRow base 41 5 (.slice a T.length c) T.length (flatT T)) {b : Nat} (hb : W.heap.size ≤ b) : RestIn W b (.slice a T.length c) T := by
 have hc : T.length ≤ c ∧ c ≤ maxLen := by
  rcases h.2 with ⟨e, e2⟩ | ⟨g, cap, cur, e, hg, hb, h1, h2, -⟩
  ·obtain ⟨-, q1, q2⟩ := Value.slice.inj e; exact ⟨by omega, by unfold maxLen; omega⟩
  ·obtain ⟨-, q1, q2⟩ := Value.slice.inj e; exact ⟨by omega, by omega⟩
 refine ⟨a, c, rfl, hc.1, hc.2, ?_⟩
 cases T with
 | nil => exact Or.inl rfl
 | cons y r =>
  obtain ⟨g, rfl, h0⟩ := own_tok h (j := 0) (by simp)
  have hg : g < W.heap.size := Bl h0.c0
  refine Or.inr ⟨g, 0, rfl, by omega, fun i hi => ?_⟩
  obtain ⟨g', e, hi'⟩ := own_tok h hi
  cases e
  simp only [Nat.zero_add]
  exact ⟨hi'.c0, hi'.c1, hi'.c2, hi'.c3, hi'.c4⟩
theorem lexL_tvs {l : List UInt8} {T : List Tok} (h : lexL l = .good T) : Tvs T := fun y hy => ((lexL_ok h).ok y hy).2
theorem module_bad {T : List Tok} (hv : Tvs T) {er ln : Int} (h : moduleO (T.length + 1) [] [] 1 T = .bad er ln) : er ≠ 0 := by
 have hs := parse_sim hv
 unfold parseO at hs
 rw [h] at hs
 exact hs.1
def modL (l : List UInt8) : Out Md :=
 match lexL l with
 | .good T => parseO T
 | .bad k line => .bad k line
def ParsedV (lo : Nat) (o : Out Md) (e : Ending) (w : World) : Prop :=
 match o with
 | .ok md _ _ => ∃ vc vb xb, e = .returned (.tuple #[.agg #[vc, vb], .int .i64 0, .int .i64 0]) ∧ w.ownsRow lo 67 2 vc md.1.length (declV md.1) ∧ w.ownsRow lo 51 10 vb md.2.length xb ∧ BndsAt w (fun g => lo ≤ g) md.2 xb
 | .bad er ln => er ≠ 0 ∧ e = .returned (.tuple #[.agg #[.slice none 0 0, .slice none 0 0], .int .i64 er, .int .i64 ln])
theorem own_kp {w w' : World} {lo : Nat} {e : TypeId} {size : Nat} {v : Value} {n : Nat} {xs : List Value} (h : w.ownsRow lo e size v n xs) (hk : Kp lo w.heap.size w w') : w'.ownsRow lo e size v n xs := by
 obtain ⟨h0, h | ⟨g, cap, cur, rfl, h2, h3, h4⟩⟩ := h
 ·exact ⟨h0, Or.inl h⟩
 ·refine ⟨h0, Or.inr ⟨g, cap, cur, rfl, h2, ?_, h4⟩⟩
  have hg : g < w.heap.size := by
   rcases Nat.lt_or_ge g w.heap.size with h | h
   ·exact h
   ·rw [Array.getElem?_eq_none h] at h3; cases h3
  rw [hk g h2 hg]
  exact h3
theorem onB2 {n : Nat} {a b c : World} (h : Below n a b) (k : Below b.heap.size b c) (hn : n ≤ b.heap.size) : Below n a c := ⟨k.os.trans h.os, k.tape.trans h.tape, k.output.trans h.output, Nt h.size k.size, fun i hi => (k.block i (by omega)).trans (h.block i hi)⟩
theorem below_past2 {n q : Nat} {a b c : World} (h : Below n a b) (hg : b.grownBy c (some q)) (hn : n ≤ b.heap.size) (hq : n ≤ q) : Below n a c := ⟨hg.os.trans h.os, hg.tape.trans h.tape, hg.output.trans h.output, Nt h.size hg.size, fun i hi => (hg.block i (by omega) (by simp; omega)).trans (h.block i hi)⟩
theorem below_past2b {n : Nat} {a b c : World} (h : Below n a b) (k : Below n b c) : Below n a c := ⟨k.os.trans h.os, k.tape.trans h.tape, k.output.trans h.output, Nt h.size k.size, fun i hi => (k.block i hi).trans (h.block i hi)⟩
theorem Box3.below {w w' : World} {p0 : Nat} {vc vb : Value} {er ln : Int} (h : Box3 w p0 (p0 + 1) (p0 + 2) vc vb er ln) (hb : Below w.heap.size w w') : Box3 w' p0 (p0 + 1) (p0 + 2) vc vb er ln := by
 obtain ⟨h0, h1, h2, h3, z0, z1, z2, z3⟩ := h
 have l0 := Bl h0
 have l2 := Bl h2
 have l3 := Bl h3
 simp only at l0 l2 l3
 exact ⟨later' hb h0, later' hb h1, later' hb h2, later' hb h3, (World.frozen?_of_block (w := w) (hb.block _ l0)).trans z0, (World.frozen?_of_block (w := w) (hb.block _ l0)).trans z1, (World.frozen?_of_block (w := w) (hb.block _ l2)).trans z2, (World.frozen?_of_block (w := w) (hb.block _ l3)).trans z3⟩
theorem parsed_any (s : ByteArray) (hs : s.size ≤ 100000) (w : World) (hS : SG w) (hE : EE w) (hV : Shs w) : Calls Tryz.prog 13 #[.string s] w (fun e w' => ParsedV w.heap.size (modL s.data.toList) e w' ∧ Below w.heap.size w w') := by
 have hmf : ∀ (fn : Fn) (first cap : Array Value) (w : World), (Instr.makeFunc fn first cap).run Tryz.prog w = .ok (.func fn first cap) w := fun _ _ _ _ => rfl
 have hy1 := (Below.refl w.heap.size w).alloc Nr (.cells #[.slice none 0 0, .slice none 0 0] 26)
 have hy2 := hy1.alloc (by simp) (.cells #[.int .i64 0] 27)
 have hy3 := hy2.alloc (by simp; omega) (.cells #[.int .i64 0] 3)
 have hB : Box3 (((w.alloc (.cells #[.slice none 0 0, .slice none 0 0] 26)).alloc (.cells #[.int .i64 0] 27)).alloc (.cells #[.int .i64 0] 3)) w.heap.size (w.heap.size + 1) (w.heap.size + 2) (.slice none 0 0) (.slice none 0 0) 0 0 := by
  refine ⟨?_, ?_, ?_, ?_, ?_, ?_, ?_, ?_⟩ <;> simp [go_sem]
 have hsz : w.heap.size + 3 ≤ (((w.alloc (.cells #[.slice none 0 0, .slice none 0 0] 26)).alloc (.cells #[.int .i64 0] 27)).alloc (.cells #[.int .i64 0] 3)).heap.size := by simp
 have HVs := Hd hV
 have HX := Hd (Ai hy3 (Ai hB (Ai (hS.below hy3) (Ai (hE.below hy3) (hV.below hy3)))))
 clear hy1 hy2 hy3 hB hS hE hV
 go_enter_defers Tryz.func13, Tryz.ntmps13
 go_upto_region 1 with fail
 generalize (((w.alloc (.cells #[.slice none 0 0, .slice none 0 0] 26)).alloc (.cells #[.int .i64 0] 27)).alloc (.cells #[.int .i64 0] 3)) = W at *
 have HL := Hd (lex_any s (by omega) W HX.out.2.2.1 HX.out.2.2.2.1)
 go_wp2_with fail
 refine HL.out.mono ?_
 intro e w2 h2
 obtain ⟨T, a, c, er, line, rfl, hown, hb2, hv⟩ := h2.view
 have HV := Hd (Ai hown hv)
 have HB2 := Hd (HX.out.2.1.below hb2)
 have H2 := Hd (Ai (onB' HX.out.1 hb2) (HX.out.2.2.2.2.below hb2))
 have hs2 : W.heap.size ≤ w2.heap.size := hb2.size
 obtain ⟨c0, c1, c2, c3, z0, z1, z2, z3⟩ := HB2.out
 have c3' : w2.cell? ⟨w.heap.size + 1 + 1, 0, none⟩ = some (.int .i64 0) := c3
 have z3' : w2.frozen? ⟨w.heap.size + 1 + 1, 0, none⟩ = false := z3
 clear h2 hown hb2 hv HL c3 z3
 go_upto_region 2 with fail
 have hg1 := set_grown w2 (w.heap.size + 1) 0 (.int .i64 er)
 have hg2 := set_grown (w2.setCell ⟨w.heap.size + 1, 0, none⟩ (.int .i64 er)) (w.heap.size + 1 + 1) 0 (.int .i64 line)
 have hB3 : Box3 ((w2.setCell ⟨w.heap.size + 1, 0, none⟩ (.int .i64 er)).setCell ⟨w.heap.size + 1 + 1, 0, none⟩ (.int .i64 line)) w.heap.size (w.heap.size + 1) (w.heap.size + 1 + 1) (.slice none 0 0) (.slice none 0 0) er line := by
  refine ⟨(at_far _ _ _ _ _ _ (by omega)).trans ((at_far _ _ _ _ _ _ (by omega)).trans c0), (at_far _ _ _ _ _ _ (by omega)).trans ((at_far _ _ _ _ _ _ (by omega)).trans c1), (at_far _ _ _ _ _ _ (by omega)).trans (at_sam _ c2), at_sam _ ((at_far _ _ _ _ _ _ (by omega)).trans c3'), ?_, ?_, ?_, ?_⟩
  ·simp [z0]
  ·simp [z1]
  ·simp [z2]
  ·simp [z3']
 have hbl : Below w.heap.size w ((w2.setCell ⟨w.heap.size + 1, 0, none⟩ (.int .i64 er)).setCell ⟨w.heap.size + 1 + 1, 0, none⟩ (.int .i64 line)) := below_new (below_new H2.out.1 _ _ _ (by omega)) _ _ _ (by omega)
 have hshs : Shs ((w2.setCell ⟨w.heap.size + 1, 0, none⟩ (.int .i64 er)).setCell ⟨w.heap.size + 1 + 1, 0, none⟩ (.int .i64 line)) := HVs.out.below hbl
 have hown3 : ((w2.setCell ⟨w.heap.size + 1, 0, none⟩ (.int .i64 er)).setCell ⟨w.heap.size + 1 + 1, 0, none⟩ (.int .i64 line)).ownsRow W.heap.size 41 5 (.slice a T.length c) T.length (flatT T) :=
  own_o (own_o HV.out.1 hg1 (fun g e e2 => by have := (HV.out.1.lt g e).1; have := Oi e2; omega)) hg2 (fun g e e2 => by have := (HV.out.1.lt g e).1; have := Oi e2; omega)
 have hs3 : w2.heap.size ≤ ((w2.setCell ⟨w.heap.size + 1, 0, none⟩ (.int .i64 er)).setCell ⟨w.heap.size + 1 + 1, 0, none⟩ (.int .i64 line)).heap.size := by simp
 have H3 := Hd (Ai hB3 (Ai hbl (Ai hshs hown3)))
 clear hB3 hbl hshs hown3 hg1 hg2 c0 c1 c2 c3' z0 z1 z2 z3'
 generalize ((w2.setCell ⟨w.heap.size + 1, 0, none⟩ (.int .i64 er)).setCell ⟨w.heap.size + 1 + 1, 0, none⟩ (.int .i64 line)) = W3 at *
 obtain ⟨c0, c1, c2, c3, z0, z1, z2, z3⟩ := H3.out.1
 rcases HV.out.2 with ⟨hR, rfl, rfl⟩ | ⟨hR, rfl⟩
 ·have hXx := lexL_x hR
  have hTv := lexL_tvs hR
  have hln := (lexL_own hR).2.1
  have hmod : modL s.data.toList = moduleO (T.length + 1) [] [] 1 T := by unfold modL; rw [hR]; rfl
  have HM := Hd hmod
  have HN := Hd (newReader_any a T c W3 (RestIn.of_own H3.out.2.2.2 Nr) (H3.out.2.2.1.env Nr))
  clear hR hmod
  go_wp2_with fail
  refine HN.out.mono ?_
  rintro e w4 ⟨me, mm, B, rfl, hC, hR4, hb4⟩
  have HMo := Hd (module_any W3.heap.size me mm B 1 T hXx hln w4 hC hR4)
  have H4 := Hd hb4
  have hs4 : W3.heap.size ≤ w4.heap.size := hb4.size
  clear hC hR4 hb4 HN
  go_wp2_with fail
  refine HMo.out.mono ?_
  rintro e w5 h5
  have HB4 := Hd (H3.out.1.below H4.out)
  cases ho : moduleO (T.length + 1) [] [] 1 T with
  | bad er ln =>
   rw [ho] at h5
   obtain ⟨hbr, hg5⟩ := h5
   have hb5 : Box3 w5 w.heap.size (w.heap.size + 1) (w.heap.size + 2) (.slice none 0 0) (.slice none 0 0) 0 0 := by
    obtain ⟨p0, p1, p2, p3, y0, y1, y2, y3⟩ := HB4.out
    exact ⟨hg5.cell p0 (by simp; omega), hg5.cell p1 (by simp; omega), hg5.cell p2 (by simp; omega), hg5.cell p3 (by simp; omega), (World.frozen?_of_block (w := w4) (hg5.block _ (by simp; omega) (by simp; omega))).trans y0, (World.frozen?_of_block (w := w4) (hg5.block _ (by simp; omega) (by simp; omega))).trans y1, (World.frozen?_of_block (w := w4) (hg5.block _ (by simp; omega) (by simp; omega))).trans y2, (World.frozen?_of_block (w := w4) (hg5.block _ (by simp; omega) (by simp; omega))).trans y3⟩
   have hs5 : w4.heap.size ≤ w5.heap.size := hg5.size
   have hbel : Below w.heap.size w w5 := below_past2 (onB2 H3.out.2.1 H4.out (by omega)) hg5 (by omega) (by omega)
   have hmod := HM.out
   rw [ho] at hmod
   have her : er ≠ 0 := module_bad hTv ho
   have H5 := Hd (Ai hb5 (Ai hbel (Ai hmod her)))
   unfold Broken at hbr
   subst hbr
   clear hg5 hb5 hbel hmod her ho HMo c0 c1 c2 c3 z0 z1 z2 z3
   go_wp2_with fail
   refine leaves_cons (f := 24) (args := #[.pointer (some ⟨w.heap.size, 0, none⟩), .pointer (some ⟨w.heap.size + 1, 0, none⟩), .pointer (some ⟨w.heap.size + 1 + 1, 0, none⟩)]) (by simp) (by simp [go_sem]) ?_
   refine (catch_fault w.heap.size _ _ 0 0 er ln [] w5 H5.out.1 (by omega)).mono ?_
   rintro e u' w6 ⟨rfl, rfl, hb6, hbl6⟩
   obtain ⟨q0, q1, q2, q3, -, -, -, -⟩ := hb6
   have q3' : w6.cell? ⟨w.heap.size + 1 + 1, 0, none⟩ = some (.int .i64 ln) := q3
   simp [Leaves, settle, results, Tryz.results13, go_sem, q0, q1, q2, q3']
   rw [H5.out.2.2.1]
   exact ⟨⟨H5.out.2.2.2, rfl⟩, below_past2b H5.out.2.1 hbl6⟩
  | ok md l r =>
   rw [ho] at h5
   obtain ⟨⟨vc, vb, xb, rfl, hoc, hob, hbt⟩, hR5, hg5⟩ := h5
   obtain ⟨av2, cc2, rfl, -⟩ := own_shape hoc
   obtain ⟨av3, cc3, rfl, -⟩ := own_shape hob
   have hs5 : w4.heap.size ≤ w5.heap.size := hg5.size
   have hmod := HM.out
   rw [ho] at hmod
   obtain ⟨p0, p1, p2, p3, y0, y1, y2, y3⟩ := HB4.out
   have p3' : w4.cell? ⟨w.heap.size + 1 + 1, 0, none⟩ = some (.int .i64 0) := p3
   have y3' : w4.frozen? ⟨w.heap.size + 1 + 1, 0, none⟩ = false := y3
   clear c0 c1 c2 c3 z0 z1 z2 z3 p3 y3
   have c0 := hg5.cell p0 (by simp; omega)
   have c1 := hg5.cell p1 (by simp; omega)
   have c2 := hg5.cell p2 (by simp; omega)
   have c3 := hg5.cell p3' (by simp; omega)
   have z0 := (World.frozen?_of_block (w := w4) (a := ⟨w.heap.size, 0, none⟩) (hg5.block w.heap.size (by omega) (by simp; omega))).trans y0
   have z1 := (World.frozen?_of_block (w := w4) (a := ⟨w.heap.size, 1, none⟩) (hg5.block w.heap.size (by omega) (by simp; omega))).trans y1
   have z2 := (World.frozen?_of_block (w := w4) (a := ⟨w.heap.size + 1, 0, none⟩) (hg5.block (w.heap.size + 1) (by omega) (by simp; omega))).trans y2
   have z3 := (World.frozen?_of_block (w := w4) (a := ⟨w.heap.size + 1 + 1, 0, none⟩) (hg5.block (w.heap.size + 1 + 1) (by omega) (by simp; omega))).trans y3'
   have hbel : Below w.heap.size w w5 := below_past2 (onB2 H3.out.2.1 H4.out (by omega)) hg5 (by omega) (by omega)
   have H5 := Hd (Ai hoc (Ai hob (Ai hbt (Ai hbel hmod))))
   clear hoc hob hbt hR5 hg5 hbel hmod ho HMo p0 p1 p2 p3' y0 y1 y2 y3'
   go_wp2_with fail
   refine leaves_cons (f := 24) (args := #[.pointer (some ⟨w.heap.size, 0, none⟩), .pointer (some ⟨w.heap.size + 1, 0, none⟩), .pointer (some ⟨w.heap.size + 1 + 1, 0, none⟩)]) (by simp) (by simp [go_sem]) ?_
   refine (catch_none w.heap.size _).mono ?_
   rintro e u' w6 ⟨rfl, rfl, rfl⟩
   have hF : Box3 (((((w5.setCell ⟨w.heap.size, 0, none⟩ (.slice av2 md.1.length cc2)).setCell ⟨w.heap.size, 1, none⟩ (.slice av3 md.2.length cc3)).setCell ⟨w.heap.size + 1, 0, none⟩ (.int .i64 0)).setCell ⟨w.heap.size + 1 + 1, 0, none⟩ (.int .i64 0))) w.heap.size (w.heap.size + 1) (w.heap.size + 1 + 1) (.slice av2 md.1.length cc2) (.slice av3 md.2.length cc3) 0 0 := by
    refine ⟨?_, ?_, ?_, ?_, ?_, ?_, ?_, ?_⟩
    ·exact (at_far _ _ _ _ _ _ (by omega)).trans ((at_far _ _ _ _ _ _ (by omega)).trans ((at_oth _ _ _ _ _ (by decide)).trans (at_sam _ c0)))
    ·exact (at_far _ _ _ _ _ _ (by omega)).trans ((at_far _ _ _ _ _ _ (by omega)).trans (at_sam _ ((at_oth _ _ _ _ _ (by decide)).trans c1)))
    ·exact (at_far _ _ _ _ _ _ (by omega)).trans (at_sam _ ((at_far _ _ _ _ _ _ (by omega)).trans ((at_far _ _ _ _ _ _ (by omega)).trans c2)))
    ·exact at_sam _ ((at_far _ _ _ _ _ _ (by omega)).trans ((at_far _ _ _ _ _ _ (by omega)).trans ((at_far _ _ _ _ _ _ (by omega)).trans c3)))
    ·exact (by simpa using z0)
    ·exact (by simpa using z1)
    ·exact (by simpa using z2)
    ·exact (by simpa using z3)
   obtain ⟨q0, q1, q2, q3, -, -, -, -⟩ := hF
   have hkp : Kp w4.heap.size w5.heap.size w5 (((((w5.setCell ⟨w.heap.size, 0, none⟩ (.slice av2 md.1.length cc2)).setCell ⟨w.heap.size, 1, none⟩ (.slice av3 md.2.length cc3)).setCell ⟨w.heap.size + 1, 0, none⟩ (.int .i64 0)).setCell ⟨w.heap.size + 1 + 1, 0, none⟩ (.int .i64 0))) := (((Kp.set _ _ _ _ (Or.inl (by omega))).trans (Kp.set _ _ _ _ (Or.inl (by omega)))).trans (Kp.set _ _ _ _ (Or.inl (by omega)))).trans (Kp.set _ _ _ _ (Or.inl (by omega)))
   have hbl6 : Below w.heap.size w (((((w5.setCell ⟨w.heap.size, 0, none⟩ (.slice av2 md.1.length cc2)).setCell ⟨w.heap.size, 1, none⟩ (.slice av3 md.2.length cc3)).setCell ⟨w.heap.size + 1, 0, none⟩ (.int .i64 0)).setCell ⟨w.heap.size + 1 + 1, 0, none⟩ (.int .i64 0))) := below_new (below_new (below_new (below_new H5.out.2.2.2.1 _ _ _ Nr) _ _ _ Nr) _ _ _ (by omega)) _ _ _ (by omega)
   generalize (((((w5.setCell ⟨w.heap.size, 0, none⟩ (.slice av2 md.1.length cc2)).setCell ⟨w.heap.size, 1, none⟩ (.slice av3 md.2.length cc3)).setCell ⟨w.heap.size + 1, 0, none⟩ (.int .i64 0)).setCell ⟨w.heap.size + 1 + 1, 0, none⟩ (.int .i64 0))) = W6 at *
   simp [Leaves, settle, results, Tryz.results13, go_sem, q0, q1, q2, q3]
   rw [H5.out.2.2.2.2]
   refine ⟨⟨_, _, xb, rfl, own_base (own_kp H5.out.1 hkp) (by omega), own_base (own_kp H5.out.2.1 hkp) (by omega), H5.out.2.2.1.kp hkp (by omega)⟩, hbl6⟩
 ·have her : er ≠ 0 := lexL_bad hR
  have f0 : (er != 0) = true := by simpa using her
  have HR := Hd (show modL s.data.toList = .bad er line by unfold modL; rw [hR])
  clear hR
  go_wp2_with fail
  go_region
  all_goals go_wp2_with fail
  all_goals
   have hF : Box3 (((((W3.setCell ⟨w.heap.size, 0, none⟩ (.slice none 0 0)).setCell ⟨w.heap.size, 1, none⟩ (.slice none 0 0)).setCell ⟨w.heap.size + 1, 0, none⟩ (.int .i64 er)).setCell ⟨w.heap.size + 1 + 1, 0, none⟩ (.int .i64 line))).drew w.heap.size (w.heap.size + 1) (w.heap.size + 1 + 1) (.slice none 0 0) (.slice none 0 0) er line := by
    refine ⟨?_, ?_, ?_, ?_, ?_, ?_, ?_, ?_⟩
    ·exact (at_far _ _ _ _ _ _ (by omega)).trans ((at_far _ _ _ _ _ _ (by omega)).trans ((at_oth _ _ _ _ _ (by decide)).trans (at_sam _ c0)))
    ·exact (at_far _ _ _ _ _ _ (by omega)).trans ((at_far _ _ _ _ _ _ (by omega)).trans (at_sam _ ((at_oth _ _ _ _ _ (by decide)).trans c1)))
    ·exact (at_far _ _ _ _ _ _ (by omega)).trans (at_sam _ ((at_far _ _ _ _ _ _ (by omega)).trans ((at_far _ _ _ _ _ _ (by omega)).trans c2)))
    ·exact at_sam _ ((at_far _ _ _ _ _ _ (by omega)).trans ((at_far _ _ _ _ _ _ (by omega)).trans ((at_far _ _ _ _ _ _ (by omega)).trans c3)))
    ·exact (by simpa using z0)
    ·exact (by simpa using z1)
    ·exact (by simpa using z2)
    ·exact (by simpa using z3)
   obtain ⟨q0, q1, q2, q3, -, -, -, -⟩ := hF
   have hbl6 : Below w.heap.size w (((((W3.setCell ⟨w.heap.size, 0, none⟩ (.slice none 0 0)).setCell ⟨w.heap.size, 1, none⟩ (.slice none 0 0)).setCell ⟨w.heap.size + 1, 0, none⟩ (.int .i64 er)).setCell ⟨w.heap.size + 1 + 1, 0, none⟩ (.int .i64 line))).drew := (below_new (below_new (below_new (below_new H3.out.2.1 _ _ _ Nr) _ _ _ Nr) _ _ _ (by omega)) _ _ _ (by omega)).drew
   generalize (((((W3.setCell ⟨w.heap.size, 0, none⟩ (.slice none 0 0)).setCell ⟨w.heap.size, 1, none⟩ (.slice none 0 0)).setCell ⟨w.heap.size + 1, 0, none⟩ (.int .i64 er)).setCell ⟨w.heap.size + 1 + 1, 0, none⟩ (.int .i64 line))).drew = W6 at *
   simp [bodyPostD, Leaves, results, Tryz.results13, go_sem, q0, q1, q2, q3]
   rw [HR.out]
   exact ⟨⟨her, rfl⟩, hbl6⟩
theorem sx_all : ∀ n, SX n
 | 0 => by
  intro x K1 K2 w k1 k2 n1 n2 f1 f2 u1 u2 p1 q1 r1 s1 p2 q2 r2 s2 hn
  cases x
  simp only [Ex.mk.sizeOf_spec] at hn
  omega
 | n + 1 => sx_step n (sx_all n)
theorem decl_refl (d : Nat) (b : ByteArray) (x : Int) (w : World) : (Op.equalIn (d + 2) 67 (.agg #[.string b, .int .i64 x]) (.agg #[.string b, .int .i64 x])).run Tryz.prog w = .ok true w := by
 have hf : Tryz.prog.underlying 67 = some (.struct (Tryz.prog.fieldsOf 67)) := by kernel_rfl
 have q1 : ∀ (w : World), (Op.equalIn (d + 1) 9 (.string b) (.string b)).run Tryz.prog w = .ok true w := fun w => by rw [run_equalIn_string w d 9 b b Tryz.underlying9]; simp
 have q2 : ∀ (w : World), (Op.equalIn (d + 1) 3 (.int .i64 x) (.int .i64 x)).run Tryz.prog w = .ok true w := fun w => by rw [run_equalIn_int w d 3 .i64 .i64 x x Tryz.underlying3]; simp
 rw [run_equalIn_struct w (d + 1) 67 _ _ hf (by kernel_rfl)]
 generalize hE : Op.equalIn (d + 1) 9 = E at *
 generalize hF : Op.equalIn (d + 1) 3 = F at *
 have p0 : ∀ (w : World), (part 9 #[.string b, .int .i64 x] 0).run Tryz.prog w = .ok (.string b) w := by intro w; simp [part, Tryz.isAgg9, go_sem]
 have p1 : ∀ (w : World), (part 3 #[.string b, .int .i64 x] 1).run Tryz.prog w = .ok (.int .i64 x) w := by intro w; simp [part, Tryz.isAgg3, go_sem]
 have hl : (Tryz.prog.fieldsOf 67).toList = [⟨"Name", 9, 0, false, "", "", 0⟩, ⟨"Arity", 3, 1, false, "", "", 16⟩] := by kernel_rfl
 rw [hl]
 simp [Op.eqFields, hE, hF, p0, p1, q1, q2]
theorem decl_same (b : ByteArray) (x : Int) (w : World) : (binOp .neq 67 (.agg #[.string b, .int .i64 x]) (.agg #[.string b, .int .i64 x])).run Tryz.prog w = .ok (.bool false) w := by
 have he : (Op.equal 67 (.agg #[.string b, .int .i64 x]) (.agg #[.string b, .int .i64 x])).run Tryz.prog w = .ok true w := decl_refl 9998 b x w
 generalize hq : Op.equal = E at he
 simp [binOp, hq, he]
theorem declV_at : ∀ {l : List (Nm × Int)} {j : Nat} (hj : j < l.length), (declV l)[j * 2]? = some (.string (tx l[j].1)) ∧ (declV l)[j * 2 + 1]? = some (.int .i64 l[j].2)
 | (n, x) :: ds, 0, _ => ⟨rfl, rfl⟩
 | (n, x) :: ds, j + 1, hj => by
  have h := declV_at (l := ds) (j := j) (by simpa using hj)
  have e : (j + 1) * 2 = j * 2 + 1 + 1 := by omega
  rw [e]
  exact h
theorem same_any (ds : List (Nm × Int)) (bs : List Bnd) (w : World) (lo1 lo2 : Nat) (vc1 vb1 vc2 vb2 : Value) (x1 x2 : List Value) (K1 K2 : Nat → Prop)
  (hc1 : w.ownsRow lo1 67 2 vc1 ds.length (declV ds)) (hb1 : w.ownsRow lo1 51 10 vb1 bs.length x1) (ht1 : BndsAt w K1 bs x1)
  (hc2 : w.ownsRow lo2 67 2 vc2 ds.length (declV ds)) (hb2 : w.ownsRow lo2 51 10 vb2 bs.length x2) (ht2 : BndsAt w K2 bs x2) :
  Calls Tryz.prog 15 #[.agg #[vc1, vb1], .agg #[vc2, vb2]] w fun e w' => e = .returned (.bool true) ∧ Below w.heap.size w w' := by
 obtain ⟨a1, c1, rfl, -⟩ := own_shape hc1
 obtain ⟨a2, c2, rfl, -⟩ := own_shape hb1
 obtain ⟨d1, e1, rfl, -⟩ := own_shape hc2
 obtain ⟨d2, e2, rfl, -⟩ := own_shape hb2
 have hmx := own_cap hc1
 unfold maxLen at hmx
 have hy1 := (Below.refl w.heap.size w).alloc Nr (.cells #[.slice a1 ds.length c1, .slice a2 bs.length c2] 26)
 have hy2 := hy1.alloc (by simp) (.cells #[.slice d1 ds.length e1, .slice d2 bs.length e2] 26)
 have hB1 := (BoxW.alloc w #[.slice a1 ds.length c1, .slice a2 bs.length c2] 26).below (Br.alloc Nr (.cells #[.slice d1 ds.length e1, .slice d2 bs.length e2] 26))
 have hB2 := BoxW.alloc (w.alloc (.cells #[.slice a1 ds.length c1, .slice a2 bs.length c2] 26)) #[.slice d1 ds.length e1, .slice d2 bs.length e2] 26
 rw [show (w.alloc (.cells #[.slice a1 ds.length c1, .slice a2 bs.length c2] 26)).heap.size = w.heap.size + 1 by simp] at hB2
 have HX := Hd (Ai hy2 (Ai hB1 hB2))
 have HC := Hd (Ai hc1 hc2)
 have HB := Hd (Ai hb1 (Ai hb2 (Ai ht1 ht2)))
 clear hy1 hy2 hB1 hB2 hc1 hb1 ht1 hc2 hb2 ht2
 go_enter Tryz.func15, Tryz.ntmps15
 go_upto_region 1 with fail
 generalize ((w.alloc (.cells #[.slice a1 ds.length c1, .slice a2 bs.length c2] 26)).alloc (.cells #[.slice d1 ds.length e1, .slice d2 bs.length e2] 26)) = W at *
 have p0 := HX.out.2.1.1 0 _ rfl
 have q0 := HX.out.2.2.1 0 _ rfl
 have p1 := HX.out.2.1.1 1 _ rfl
 have q1 := HX.out.2.2.1 1 _ rfl
 have hu1 : ((ds.length : Int) != (ds.length : Int)) = false := by simp
 have HS := Hd (samebinds_any (SizeOf.sizeOf bs) (sx_all _) bs (fun x hx => by have := List.sizeOf_lt_of_mem hx; obtain ⟨a, b, c⟩ := x; simp only [Prod.mk.sizeOf_spec] at this ⊢; omega) a2 d2 c2 e2 x1 x2 (fun g => lo1 ≤ g) (fun g => lo2 ≤ g) K1 K2 W ((RowAt.own HB.out.1).below HX.out.1) ((RowAt.own HB.out.2.1).below HX.out.1) (HB.out.2.2.1.move fun g hk lt => ⟨hk, HX.out.1.block g lt⟩) (HB.out.2.2.2.move fun g hk lt => ⟨hk, HX.out.1.block g lt⟩))
 go_wp2_with fail
 refine HS.out.mono ?_
 rintro e w3 ⟨rfl, hb3⟩
 have H3 := Hd (Ai (onB' HX.out.1 hb3) (Ai (HX.out.2.1.below hb3) (HX.out.2.2.below hb3)))
 clear hb3 HS p0 q0 p1 q1
 go_wp2_with fail
 clear hu1
 go_loopw [5] (fun s5 wr => ∃ j : Nat, j ≤ ds.length ∧ s5 = .int .i64 j ∧ Below w3.heap.size w3 wr) (fun s5 _ => ds.length - (RowKit.intOf s5).toNat)
 case atStart => exact ⟨0, Nat.zero_le _, rfl, Below.refl _ _⟩
 case round =>
  obtain ⟨j, hj, rfl, hbr⟩ := hrel
  have HR := Hd (Ai (onB' H3.out.1 hbr) (Ai (H3.out.2.1.below hbr) (Ai (H3.out.2.2.below hbr) hbr)))
  clear hbr
  have p0 := HR.out.2.1.1 0 _ rfl
  have q0 := HR.out.2.2.1.1 0 _ rfl
  by_cases gj : j < ds.length
  ·have gj' : (j : Int) < (ds.length : Int) := by omega
   obtain ⟨g1, ea1, kk1, ht1⟩ := own_at HC.out.1 (by omega)
   obtain ⟨g2, ea2, kk2, ht2⟩ := own_at HC.out.2 (by omega)
   subst ea1
   subst ea2
   have z0 := later' HR.out.1 (ht1 _ _ (declV_at gj).1)
   have z1 := later' HR.out.1 (ht1 _ _ (declV_at gj).2)
   have v0 := later' HR.out.1 (ht2 _ _ (declV_at gj).1)
   have v1 := later' HR.out.1 (ht2 _ _ (declV_at gj).2)
   clear ht1 ht2
   generalize ds[j] = tk at *
   obtain ⟨tn, ta⟩ := tk
   simp only at z0 z1 v0 v1
   have hds := fun W => decl_same (tx tn) ta W
   have ej : IntKind.i64.wrap ((j : Int) + 1) = (j : Int) + 1 := by rw [IntKind.wrap_i64]; omega
   have b0 : (0 : Int) ≤ (j : Int) := by omega
   go_wp2_with fail
   go_quiet (fail)
   have HE := Hd (sdrewN HR.out.2.2.2 nq)
   go_wp2_with fail
   exact ⟨⟨j + 1, by omega, by go_num, HE.out⟩, by simp [RowKit.intOf]; omega⟩
  ·obtain rfl : j = ds.length := by omega
   go_wp2_with fail
   go_ret
   exact ⟨rfl, HR.out.1⟩
def Lk (r r' : List Tok) : Prop := r.map (·.1) = r'.map (·.1)
theorem Lk.len {r r' : List Tok} (h : Lk r r') : r.length = r'.length := by simpa using congrArg List.length h
theorem Lk.shape {r r' : List Tok} (h : Lk r r') : shapeL r = shapeL r' := by
 cases r <;> cases r' <;> simp [Lk] at h
 ·rfl
 ·exact congrArg shapeT h.1
theorem Lk.empty {r r' : List Tok} (h : Lk r r') : (r = []) = (r' = []) := by
 cases r <;> cases r' <;> simp [Lk] at h <;> simp
def LL {α : Type} (R : α → α → Prop) (o o' : Out α) : Prop :=
 match o, o' with
 | .ok a _ r, .ok b _ r' => R a b ∧ Lk r r'
 | .bad e _, .bad e' _ => e = e'
 | _, _ => False
def LLP {α : Type} (R : α → α → Prop) (p : Par α) : Prop := ∀ l l' r r', Lk r r' → LL R (p l r) (p l' r')
theorem LL.bind {α β : Type} {R : α → α → Prop} {S : β → β → Prop} {o o' : Out α} {f f' : α → Int → List Tok → Out β} (h : LL R o o') (hf : ∀ a a' l l' r r', R a a' → Lk r r' → LL S (f a l r) (f' a' l' r')) : LL S (o.bind f) (o'.bind f') := by
 cases o <;> cases o' <;> simp only [LL] at h
 ·exact hf _ _ _ _ _ _ h.1 h.2
 ·exact h
abbrev TkE (a b : Tok) : Prop := a.1 = b.1
theorem refuse_ll {α : Type} (R : α → α → Prop) (e : Int) : LLP R (refuseO e) := by
 intro l l' r r' h
 cases r <;> cases r' <;> simp [Lk] at h <;> simp [refuseO, LL]
theorem take_ll : LLP TkE takeO := by
 intro l l' r r' h
 cases r <;> cases r' <;> simp [Lk] at h <;> simp [takeO, LL]
 exact ⟨h.1, h.2⟩
theorem want_ll (s : Sh) : LLP TkE (wantO s) := by
 intro l l' r r' h
 unfold wantO
 rw [h.shape]
 split
 ·exact take_ll _ _ _ _ h
 ·exact refuse_ll _ _ _ _ _ _ h
theorem names_ll : ∀ (r r' : List Tok) (l l' : Int) (acc : List Nm), Lk r r' → (namesO l r acc).1 = (namesO l' r' acc).1 ∧ Lk (namesO l r acc).2.2 (namesO l' r' acc).2.2
 | [], [], _, _, _, _ => ⟨rfl, rfl⟩
 | [], _ :: _, _, _, _, h => by simp [Lk] at h
 | _ :: _, [], _, _, _, h => by simp [Lk] at h
 | x :: r, y :: r', l, l', acc, h => by
  have h' := h
  simp only [Lk, List.map_cons, List.cons.injEq] at h
  unfold namesO
  rw [h.1]
  split
  ·exact names_ll r r' x.2 y.2 _ h.2
  ·exact ⟨rfl, h'⟩
theorem bindO_ll {ex : Par Ex} (hx : LLP Eq ex) : LLP Eq (bindO ex) := by
 intro l l' r r' h
 unfold bindO
 refine (want_ll _ _ _ _ _ h).bind fun a a' l l' r r' e h => ?_
 have hn := names_ll r r' l l' [] h
 refine (want_ll _ _ _ _ _ hn.2).bind fun b b' l2 l2' r2 r2' _ h => ?_
 refine (hx _ _ _ _ h).bind fun c c' l3 l3' r3 r3' e3 h => ?_
 refine ⟨?_, h⟩
 rw [show a.1 = a'.1 from e, hn.1, e3]
theorem moreO_ll {α : Type} {item : Par α} (hx : LLP Eq item) : ∀ n acc, LLP Eq (moreO item n acc)
 | 0, acc => fun _ _ _ _ h => ⟨rfl, h⟩
 | n + 1, acc => by
  intro l l' r r' h
  unfold moreO
  rw [h.shape]
  split
  ·refine (take_ll _ _ _ _ h).bind fun a a' l l' r r' e h => ?_
   refine (hx _ _ _ _ h).bind fun c c' l3 l3' r3 r3' e3 h => ?_
   subst e3
   exact moreO_ll hx n _ _ _ _ _ h
  ·exact ⟨rfl, h⟩
theorem someO_ll {α : Type} {item : Par α} (hx : LLP Eq item) : LLP Eq (someO item) := by
 intro l l' r r' h
 unfold someO
 refine (hx _ _ _ _ h).bind fun c c' l3 l3' r3 r3' e3 h => ?_
 subst e3
 rw [h.len]
 exact moreO_ll hx _ _ _ _ _ _ h
theorem innerO_ll {ex : Par Ex} (hx : LLP Eq ex) : LLP Eq (innerO ex) := by
 intro l l' r r' h
 unfold innerO
 refine (want_ll _ _ _ _ _ h).bind fun a a' l l' r r' e h => ?_
 refine (hx _ _ _ _ h).bind fun c c' l3 l3' r3 r3' e3 h => ?_
 refine (want_ll _ _ _ _ _ h).bind fun a a' l l' r r' e h => ?_
 exact ⟨e3, h⟩
theorem atomO_ll {ex : Par Ex} (hx : LLP Eq ex) : LLP Eq (atomO ex) := by
 intro l l' r r' h
 unfold atomO
 rw [h.shape]
 split
 ·exact (take_ll _ _ _ _ h).bind fun a a' l l' r r' e h => ⟨by rw [show a.1 = a'.1 from e], h⟩
 split
 ·exact (take_ll _ _ _ _ h).bind fun a a' l l' r r' e h => ⟨by rw [show a.1 = a'.1 from e], h⟩
 split
 ·exact (take_ll _ _ _ _ h).bind fun a a' l l' r r' e h => ⟨by rw [show a.1 = a'.1 from e], h⟩
 split
 ·exact (take_ll _ _ _ _ h).bind fun a a' l l' r r' e h => ⟨by rw [show a.1 = a'.1 from e], h⟩
 split
 ·exact innerO_ll hx _ _ _ _ h
 ·exact refuse_ll _ _ _ _ _ _ h
theorem atomsO_ll {ex : Par Ex} (hx : LLP Eq ex) : ∀ n acc, LLP Eq (atomsO ex n acc)
 | 0, acc => fun _ _ _ _ h => ⟨rfl, h⟩
 | n + 1, acc => by
  intro l l' r r' h
  unfold atomsO
  rw [h.shape]
  split
  ·refine (atomO_ll hx _ _ _ _ h).bind fun c c' l3 l3' r3 r3' e3 h => ?_
   subst e3
   exact atomsO_ll hx n _ _ _ _ _ h
  ·exact ⟨rfl, h⟩
theorem rowO_ll {ex : Par Ex} (hx : LLP Eq ex) : LLP Eq (rowO ex) := by
 intro l l' r r' h
 unfold rowO
 rw [h.shape]
 refine (atomO_ll hx _ _ _ _ h).bind fun c c' l3 l3' r3 r3' e3 h => ?_
 subst e3
 rw [h.len]
 refine (atomsO_ll hx _ _ _ _ _ _ h).bind fun d d' l3 l3' r3 r3' e3 h => ?_
 subst e3
 exact ⟨rfl, h⟩
theorem rowsO_ll {ex : Par Ex} (hx : LLP Eq ex) : LLP Eq (rowsO ex) := by
 intro l l' r r' h
 unfold rowsO
 refine (rowO_ll hx _ _ _ _ h).bind fun c c' l3 l3' r3 r3' e3 h => ?_
 subst e3
 rw [h.shape]
 split
 ·refine (take_ll _ _ _ _ h).bind fun a a' l l' r r' e h => ?_
  refine (rowO_ll hx _ _ _ _ h).bind fun d d' l3 l3' r3 r3' e3 h => ?_
  exact ⟨by rw [show a.1 = a'.1 from e, e3], h⟩
 ·exact ⟨rfl, h⟩
theorem letO_ll {ex : Par Ex} (hx : LLP Eq ex) : LLP Eq (letO ex) := by
 intro l l' r r' h
 unfold letO
 refine (want_ll _ _ _ _ _ h).bind fun a a' l l' r r' e h => ?_
 refine (someO_ll (bindO_ll hx) _ _ _ _ h).bind fun c c' l3 l3' r3 r3' e3 h => ?_
 refine (want_ll _ _ _ _ _ h).bind fun a a' l l' r r' e h => ?_
 refine (hx _ _ _ _ h).bind fun d d' l3 l3' r3 r3' e4 h => ?_
 exact ⟨by rw [e3, e4], h⟩
theorem altO_ll {ex : Par Ex} (hx : LLP Eq ex) : LLP Eq (altO ex) := by
 intro l l' r r' h
 unfold altO
 rw [h.shape]
 split
 ·refine (take_ll _ _ _ _ h).bind fun a a' l l' r r' e h => ?_
  have hn := names_ll r r' l l' [] h
  refine (want_ll _ _ _ _ _ hn.2).bind fun b b' l2 l2' r2 r2' _ h => ?_
  refine (hx _ _ _ _ h).bind fun c c' l3 l3' r3 r3' e3 h => ?_
  exact ⟨by rw [show a.1 = a'.1 from e, hn.1, e3], h⟩
 split
 ·refine (take_ll _ _ _ _ h).bind fun a a' l l' r r' e h => ?_
  refine (want_ll _ _ _ _ _ h).bind fun b b' l2 l2' r2 r2' _ h => ?_
  refine (hx _ _ _ _ h).bind fun c c' l3 l3' r3 r3' e3 h => ?_
  exact ⟨by rw [show a.1 = a'.1 from e, e3], h⟩
 ·refine (want_ll _ _ _ _ _ h).bind fun a a' l l' r r' e h => ?_
  refine (want_ll _ _ _ _ _ h).bind fun b b' l2 l2' r2 r2' _ h => ?_
  refine (hx _ _ _ _ h).bind fun c c' l3 l3' r3 r3' e3 h => ?_
  exact ⟨by rw [show a.1 = a'.1 from e, e3], h⟩
theorem caseO_ll {ex : Par Ex} (hx : LLP Eq ex) : LLP Eq (caseO ex) := by
 intro l l' r r' h
 unfold caseO
 refine (want_ll _ _ _ _ _ h).bind fun a a' l l' r r' e h => ?_
 refine (hx _ _ _ _ h).bind fun c c' l3 l3' r3 r3' e3 h => ?_
 subst e3
 refine (want_ll _ _ _ _ _ h).bind fun a a' l l' r r' e h => ?_
 refine (want_ll _ _ _ _ _ h).bind fun a a' l l' r r' e h => ?_
 rw [h.shape]
 split
 ·exact (want_ll _ _ _ _ _ h).bind fun a a' l l' r r' e h => ⟨rfl, h⟩
 ·refine (someO_ll (altO_ll hx) _ _ _ _ h).bind fun d d' l3 l3' r3 r3' e3 h => ?_
  subst e3
  exact (want_ll _ _ _ _ _ h).bind fun a a' l l' r r' e h => ⟨rfl, h⟩
theorem lamO_ll {ex : Par Ex} (hx : LLP Eq ex) : LLP Eq (lamO ex) := by
 intro l l' r r' h
 unfold lamO
 refine (want_ll _ _ _ _ _ h).bind fun a a' l l' r r' e h => ?_
 have hn := names_ll r r' l l' [] h
 rw [h.shape]
 split
 ·refine (want_ll _ _ _ _ _ hn.2).bind fun b b' l2 l2' r2 r2' _ h => ?_
  refine (hx _ _ _ _ h).bind fun c c' l3 l3' r3 r3' e3 h => ?_
  exact ⟨by rw [hn.1, e3], h⟩
 ·exact refuse_ll _ _ _ _ _ _ h
theorem exprO_ll : ∀ n d, LLP Eq (exprO n d)
 | 0, _ => fun _ _ _ _ _ => rfl
 | n + 1, d => by
  have hx := exprO_ll n (d + 1)
  intro l l' r r' h
  unfold exprO
  rw [h.shape]
  split
  ·split
   ·exact refuse_ll _ _ _ _ _ _ h
   split
   ·exact letO_ll hx _ _ _ _ h
   split
   ·exact caseO_ll hx _ _ _ _ h
   split
   ·exact lamO_ll hx _ _ _ _ h
   ·exact rowsO_ll hx _ _ _ _ h
  ·exact refuse_ll _ _ _ _ _ _ h
theorem declsO_ll : ∀ n acc, LLP Eq (declsO n acc)
 | 0, acc => fun _ _ _ _ h => ⟨rfl, h⟩
 | n + 1, acc => by
  intro l l' r r' h
  unfold declsO
  rw [h.shape]
  split
  ·refine (take_ll _ _ _ _ h).bind fun a a' l l' r r' e h => ?_
   rw [h.shape, show a.1 = a'.1 from e]
   split
   ·have h0 := h
    refine (take_ll _ _ _ _ h).bind fun b b' l2 l2' r2 r2' e2 h => ?_
    rw [show b.1 = b'.1 from e2]
    split
    ·exact refuse_ll _ _ _ _ _ _ h0
    ·exact declsO_ll n _ _ _ _ _ h
   ·exact refuse_ll _ _ _ _ _ _ h
  ·exact ⟨rfl, h⟩
theorem moduleO_ll : ∀ n cs bs, LLP Eq (moduleO n cs bs)
 | 0, _, _ => fun _ _ _ _ h => ⟨rfl, h⟩
 | n + 1, cs, bs => by
  intro l l' r r' h
  unfold moduleO
  simp only [h.empty, h.shape, h.len]
  split
  ·exact ⟨rfl, h⟩
  split
  ·refine (take_ll _ _ _ _ h).bind fun a a' l l' r r' e h => ?_
   rw [h.len]
   refine (declsO_ll _ _ _ _ _ _ h).bind fun d d' l2 l2' r2 r2' e2 h => ?_
   subst e2
   refine (want_ll _ _ _ _ _ h).bind fun b b' l3 l3' r3 r3' _ h => ?_
   exact moduleO_ll n _ _ _ _ _ _ h
  ·refine (bindO_ll (exprO_ll _ _) _ _ _ _ h).bind fun d d' l2 l2' r2 r2' e2 h => ?_
   subst e2
   refine (want_ll _ _ _ _ _ h).bind fun b b' l3 l3' r3 r3' _ h => ?_
   exact moduleO_ll n _ _ _ _ _ _ h
theorem parseO_ll {T T' : List Tok} (h : Lk T T') : LL Eq (parseO T) (parseO T') := by
 unfold parseO
 rw [h.len]
 exact moduleO_ll _ _ _ _ _ _ _ h
def exBind : Bnd := ([102], [[120]], .mk 4 [] false 0 [] [.leaf 1 [103], .mk 5 [43] false 0 [] [.leaf 1 [120], .num false 1] [] []] [] [])
def exText : ByteArray := ⟨#[102, 32, 120, 32, 61, 32, 103, 32, 40, 120, 32, 43, 32, 49, 41, 59]⟩
theorem awake_mod : modL exText.data.toList = .ok ([], [exBind]) 1 [] := by kernel_rfl
theorem pawake_any (w : World) (hS : SG w) (hE : EE w) (hV : Shs w) :
  Calls Tryz.prog 12 #[] w fun e w' => e = .returned (.bool true) ∧ Below w.heap.size w w' := by
 have HP := Hd (parsed_any exText (by decide +kernel) w hS hE hV)
 unfold exText at HP
 clear hS hE hV
 go_enter Tryz.func12, Tryz.ntmps12
 go_wp2_with fail
 refine HP.out.mono ?_
 rintro e w2 ⟨hv, hb⟩
 have hm := awake_mod
 unfold exText at hm
 rw [hm] at hv
 obtain ⟨vc, vb, xb, rfl, hc, hbb, ht⟩ := hv
 replace hc : w2.ownsRow w.heap.size 67 2 vc 0 [] := hc
 replace hbb : w2.ownsRow w.heap.size 51 10 vb 1 xb := hbb
 replace ht : BndsAt w2 (fun g => w.heap.size ≤ g) [exBind] xb := ht
 obtain ⟨a1, c1, rfl, -⟩ := own_shape hc
 obtain ⟨a2, c2, rfl, -⟩ := own_shape hbb
 obtain ⟨g2, ea2, kk2, ht2⟩ := own_at hbb (by decide)
 subst ea2
 obtain ⟨vq, m1, s1, f1, y1, vp1, vk1, vb1, va1, r1, z, z0, z1, z2, z3, z4, z5, z6, z7, z8, z9⟩ := ht.at 0 (by decide)
 change ExAt w2 _ (.mk 4 [] false 0 [] [.leaf 1 [103], .mk 5 [43] false 0 [] [.leaf 1 [120], .num false 1] [] []] [] []) _ at z
 change RowAt w2 _ _ _ _ 1 _ at r1
 cases z with
 | mk k nm f u ps ks bs al _ _ _ _ xk xb xa hp1 hk1 hb1 ha1 tk1 tb1 ta1 =>
 obtain ⟨a3, c3, rfl⟩ := r1.sl
 obtain ⟨a4, c4, rfl⟩ := hk1.sl
 obtain ⟨g4, o4, ea4, kk4, mk4, -, ht4⟩ := hk1.at (by decide)
 subst ea4
 obtain ⟨m3, s3, f3, y3, vp3, vk3, vb3, va3, e3, j0, j1, j2, j3, j4, j5, j6, j7⟩ := tk1.at 1 (by decide)
 cases e3
 have hx := (Below.refl w2.heap.size w2).alloc Nr (.cells #[.slice a1 0 c1, .slice (some ⟨g2, 0, none⟩) 1 c2] 26)
 have m1 : (w2.alloc (.cells #[.slice a1 0 c1, .slice (some ⟨g2, 0, none⟩) 1 c2] 26)).cell? ⟨w2.heap.size, 1, none⟩ = some (.slice (some ⟨g2, 0, none⟩) 1 c2) := by simp [go_sem]
 have p0 : w2.cell? ⟨g2, 0, none⟩ = some (.string ⟨#[102]⟩) := ht2 _ _ z0
 have p1 : w2.cell? ⟨g2, 1, none⟩ = some (.slice a3 1 c3) := ht2 _ _ z1
 have p2 : w2.cell? ⟨g2, 2, none⟩ = some (.int .i64 4) := ht2 _ _ z2
 have p7 : w2.cell? ⟨g2, 7, none⟩ = some (.slice (some ⟨g4, o4, none⟩) 2 c4) := ht2 _ _ z7
 have p11 : w2.cell? ⟨g4, o4 + 9, none⟩ = some (.string ⟨#[43]⟩) := ht4 _ _ j1
 replace p0 := later' hx p0
 replace p1 := later' hx p1
 replace p2 := later' hx p2
 replace p7 := later' hx p7
 replace p11 := later' hx p11
 have HX := Hd (onB' hb hx)
 have kc2 : 1 ≤ c2 := kk2
 have kc4 : 2 ≤ c4 := kk4
 clear hx z0 z1 z2 z3 z4 z5 z6 z7 z8 z9 j0 j1 j2 j3 j4 j5 j6 j7 ht hc hbb tk1 tb1 ta1 hp1 hb1 ha1 r1 ht2 ht4 HP hm hb kk2 kk4
 go_upto_region 2 with fail
 generalize (w2.alloc (.cells #[.slice a1 0 c1, .slice (some ⟨g2, 0, none⟩) 1 c2] 26)) = W at *
 go_wp2_with fail
 go_ret
 exact ⟨rfl, HX.out⟩
def mS (s : St) : Nat := if s.e = 0 then s.r.length + 1 else 0
theorem mS_dead {s : St} (h : s.e ≠ 0) : mS s = 0 := if_neg h
theorem mS_alive {s : St} (h : s.e = 0) : mS s = s.r.length + 1 := if_pos h
def Mn {α : Type} (d : Dp α) : Prop := ∀ s, mS (d s).2 ≤ mS s
theorem bad_e {ll er : Int} {s : St} (he : er ≠ 0) : (s.bad ll er).e ≠ 0 := by
 unfold St.bad
 by_cases h : s.e ≠ 0
 ·rw [if_pos h]; exact h
 ·rw [if_neg h]
  cases s.r with
  | nil => simp
  | cons y r => exact he
theorem bad_mn {ll er : Int} {s : St} (he : er ≠ 0) : mS (s.bad ll er) ≤ mS s := by rw [mS_dead (bad_e he)]; exact Nat.zero_le _
theorem next_mn (s : St) : mS s.next ≤ mS s := by
 unfold mS St.next
 simp only
 split
 ·have := List.length_tail (l := s.r); omega
 ·exact Nat.le_refl _
theorem next_lt {s : St} (h : s.e = 0) (hr : s.r ≠ []) : mS s.next < mS s := by
 unfold mS St.next
 simp only [h, if_true]
 have := List.length_pos_iff.2 hr
 have := List.length_tail (l := s.r)
 omega
theorem sees_ne {t : Nm} {r : List Tok} (h : seesL t r = true) : r ≠ [] := by rintro rfl; cases h
theorem kind_ne {k : Int} (hk : k ≠ 0) {r : List Tok} (h : kindL r = k) : r ≠ [] := by rintro rfl; exact hk h.symm
theorem need_mn (ll : Int) (t : Nm) (s : St) : mS (needD ll t s) ≤ mS s := by
 unfold needD
 split
 ·exact next_mn s
 ·exact bad_mn (by decide)
theorem tok_mn (ll k : Int) (s : St) : mS (tokD ll k s).2 ≤ mS s := by
 unfold tokD
 split
 ·exact next_mn s
 ·exact bad_mn (by decide)
theorem tok_lt {ll k : Int} (hk : k ≠ 0) {s : St} (h : s.e = 0) : mS (tokD ll k s).2 < mS s := by
 unfold tokD
 split
 ·rename_i g; exact next_lt h (kind_ne hk g.2)
 ·simp only
  rw [mS_dead (bad_e (by decide)), mS_alive h]
  omega
theorem loop_mn (ll : Int) : ∀ (n : Nat) (b : Bool) (acc : List Nm) (s : St), mS (loopN ll n b acc s).2 ≤ mS s
 | 0, _, _, _ => Nat.le_refl _
 | n + 1, b, acc, s => by
  unfold loopN
  split
  ·exact Nt (loop_mn ll n _ _ _) (tok_mn _ _ _)
  ·exact Nat.le_refl _
theorem names_mn (ll : Int) (b : Bool) (s : St) : mS (namesD ll b s).2 ≤ mS s := loop_mn _ _ _ _ _
theorem names_lt {ll : Int} {s : St} (h : s.e = 0) : mS (namesD ll true s).2 < mS s := by
 unfold namesD loopN
 rw [if_pos ⟨h, Or.inl rfl⟩]
 exact Nat.lt_of_le_of_lt (loop_mn _ _ _ _ _) (tok_lt (by decide) h)
theorem bind_mn {ll : Int} {ex : Dp Ex} (hx : Mn ex) : Mn (bindD ll ex) := fun _ => Nt (hx _) (Nt (need_mn _ _ _) (names_mn _ _ _))
theorem bind_lt {ll : Int} {ex : Dp Ex} (hx : Mn ex) {s : St} (h : s.e = 0) : mS (bindD ll ex s).2 < mS s := Nat.lt_of_le_of_lt (Nt (hx _) (need_mn _ _ _)) (names_lt h)
theorem more_mn {α : Type} {item : Dp α} (hx : Mn item) : ∀ (n : Nat) (acc : List α), Mn (moreD item n acc)
 | 0, _ => fun _ => Nat.le_refl _
 | n + 1, acc => fun s => by
  unfold moreD
  split
  ·exact Nt (more_mn hx n _ _) (Nt (hx _) (next_mn _))
  ·exact Nat.le_refl _
theorem some_mn {α : Type} {item : Dp α} (hx : Mn item) : Mn (someD item) := fun s => Nt (more_mn hx _ _ _) (hx s)
theorem atom_mn {ll : Int} {ex : Dp Ex} (hx : Mn ex) : Mn (atomD ll ex) := fun s => by
 unfold atomD
 split
 ·exact tok_mn _ _ _
 split
 ·exact tok_mn _ _ _
 split
 ·exact tok_mn _ _ _
 split
 ·exact tok_mn _ _ _
 ·exact Nt (need_mn _ _ _) (Nt (hx _) (next_mn _))
theorem atom_lt {ll : Int} {ex : Dp Ex} (hx : Mn ex) {s : St} (h : s.e = 0) (hb : begins s.r) : mS (atomD ll ex s).2 < mS s := by
 unfold atomD
 split
 ·exact tok_lt (by decide) h
 split
 ·exact tok_lt (by decide) h
 split
 ·exact tok_lt (by decide) h
 split
 ·exact tok_lt (by decide) h
 ·rename_i g1 g2 g3 g4
  have hs : seesL [40] s.r = true := by
   rcases hb with h | h | h | h | h
   ·exact absurd h g1
   ·exact absurd h g2
   ·exact absurd h g3
   ·exact absurd h g4
   ·exact h
  exact Nat.lt_of_le_of_lt (Nt (need_mn _ _ _) (hx _)) (next_lt h (sees_ne hs))
theorem atoms_mn {ll : Int} {ex : Dp Ex} (hx : Mn ex) : ∀ (n : Nat) (acc : List Ex), Mn (atomsD ll ex n acc)
 | 0, _ => fun _ => Nat.le_refl _
 | n + 1, acc => fun s => by
  unfold atomsD
  split
  ·exact Nt (atoms_mn hx n _ _) (atom_mn hx _)
  ·exact Nat.le_refl _
theorem row_mn {ll : Int} {ex : Dp Ex} (hx : Mn ex) : Mn (rowD ll ex) := fun s => by
 unfold rowD
 simp only
 split
 ·exact Nt (bad_mn (by decide)) (atoms_mn hx _ _ _)
 ·exact atoms_mn hx _ _ _
theorem alt_mn {ll : Int} {ex : Dp Ex} (hx : Mn ex) : Mn (altD ll ex) := fun s => by
 unfold altD
 split
 ·exact Nt (hx _) (Nt (need_mn _ _ _) (Nt (names_mn _ _ _) (tok_mn _ _ _)))
 split
 ·exact Nt (hx _) (Nt (need_mn _ _ _) (tok_mn _ _ _))
 ·exact Nt (hx _) (Nt (need_mn _ _ _) (tok_mn _ _ _))
theorem let_mn {ll : Int} {ex : Dp Ex} (hx : Mn ex) : Mn (letD ll ex) := fun _ => Nt (hx _) (Nt (need_mn _ _ _) (some_mn (bind_mn hx) _))
theorem of_mn (ll : Int) (s : St) : mS (ofD ll s) ≤ mS s := Nt (need_mn _ _ _) (need_mn _ _ _)
theorem case_mn {ll : Int} {ex : Dp Ex} (hx : Mn ex) : Mn (caseD ll ex) := fun s => by
 unfold caseD
 split
 ·exact Nt (next_mn _) (Nt (of_mn _ _) (hx _))
 ·exact Nt (need_mn _ _ _) (Nt (some_mn (alt_mn hx) _) (Nt (of_mn _ _) (hx _)))
theorem lam_mn {ll : Int} {ex : Dp Ex} (hx : Mn ex) : Mn (lamD ll ex) := fun _ => Nt (hx _) (Nt (need_mn _ _ _) (names_mn _ _ _))
theorem rows_mn {ll : Int} {ex : Dp Ex} (hx : Mn ex) : Mn (rowsD ll ex) := fun s => by
 unfold rowsD
 split
 ·exact Nt (row_mn hx _) (Nt (tok_mn _ _ _) (row_mn hx _))
 ·exact row_mn hx _
theorem expr_mn {ll : Int} : ∀ k, Mn (exprD ll k)
 | 0 => fun s => by
  unfold exprD
  split
  ·exact Nat.le_refl _
  ·refine Nt (bad_mn (by decide)) ?_
   split
   ·exact bad_mn (by decide)
   ·exact Nat.le_refl _
 | k + 1 => fun s => by
  unfold exprD
  split
  ·exact Nat.le_refl _
  split
  ·exact Nt (let_mn (expr_mn k) _) (next_mn _)
  split
  ·exact Nt (case_mn (expr_mn k) _) (next_mn _)
  split
  ·exact Nt (lam_mn (expr_mn k) _) (next_mn _)
  ·exact rows_mn (expr_mn k) _
theorem decl_mn (ll : Int) (s : St) : mS (declD ll s) ≤ mS s := by
 unfold declD
 split
 ·exact bad_mn (by decide)
 ·exact Nat.le_refl _
theorem decls_mn (ll : Int) : ∀ (n : Nat) (acc : List (Nm × Int)), Mn (declsD ll n acc)
 | 0, _ => fun _ => Nat.le_refl _
 | n + 1, acc => fun s => by
  unfold declsD
  split
  ·exact Nt (decls_mn ll n _ _) (Nt (tok_mn _ _ _) (Nt (decl_mn _ _) (tok_mn _ _ _)))
  ·exact Nat.le_refl _
theorem decl_lt {ll : Int} {s : St} (h : s.e = 0) : mS (tokD ll 3 (declD ll (tokD ll 2 s).2)).2 < mS s := Nat.lt_of_le_of_lt (Nt (tok_mn _ _ _) (decl_mn _ _)) (tok_lt (by decide) h)
theorem declsd_len (ll : Int) : ∀ (n : Nat) (acc : List (Nm × Int)) (s : St), (declsD ll n acc s).1.length + mS (declsD ll n acc s).2 ≤ acc.length + mS s
 | 0, _, _ => Nat.le_refl _
 | n + 1, acc, s => by
  unfold declsD
  split
  ·rename_i g
   have h1 := declsd_len ll n (acc ++ [((tokD ll 2 s).1.1.t, (tokD ll 3 (declD ll (tokD ll 2 s).2)).1.1.x)]) (tokD ll 3 (declD ll (tokD ll 2 s).2)).2
   have h2 := decl_lt (ll := ll) g.1
   simp only [List.length_append, List.length_cons, List.length_nil] at h1
   omega
  ·exact Nat.le_refl _
end Go.Proofs.YtbnmmbjajheedaaGreatDoor
