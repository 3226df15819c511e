import Derived.RegionDies
import Derived.Deep.RegionHeldLaw
import Derived.Lib.QuietBelow
import Derived.Deep.AppendLies
import Derived.Deep.RegionHeld3
import Derived.Deep.QuietTactic
import Derived.Deep.DeepCutAuto
import Derived.Laws.OwnMore
import Derived.Test.YthehgcmhcioffaaGreatDoorMg3
namespace Go.Proofs.YthehgcmhcioffaaGreatDoor
set_option maxHeartbeats 64000000
set_option maxRecDepth 100000
open Go.RowKit Go.Lib
theorem Less.then {α β : Type} {m : Nat} {o : Out α} {f : α → Int → List Tok → Out β} (h : Less m o) (hf : ∀ a l r, Less r.length (f a l r)) : Less m (o.bind f) :=
  h.bind fun a l r hr => (hf a l r).mono hr
theorem less_ok {α : Type} (a : α) (l : Int) (r : List Tok) : Less r.length (.ok a l r) := Nat.le_refl _
theorem less_refuse {α : Type} (er l : Int) (r : List Tok) (m : Nat) : Less m (refuseO er l r : Out α) := by rw [refuseO_eq]; trivial
theorem take_shrinks : Shrinks takeO := fun l r => by
  cases r with
  | nil => trivial
  | cons y r => exact Nat.le_succ _
theorem want_shrinks (s : Sh) : Shrinks (wantO s) := fun l r => by
  unfold wantO
  split
  · exact take_shrinks l r
  · exact less_refuse _ _ _ _
theorem names_less : ∀ (r : List Tok) (l : Int) (acc : List Nm), (namesO l r acc).2.2.length ≤ r.length
  | [], l, acc => Nat.le_refl _
  | y :: r, l, acc => by
    unfold namesO
    split
    · exact Nt (names_less r _ _) (Nat.le_succ _)
    · exact Nat.le_refl _
theorem bind_shrinks {ex : Par Ex} (h : Shrinks ex) : Shrinks (bindO ex) := fun l r =>
  (want_shrinks _ l r).then fun _ l r => Less.mono ((want_shrinks _ _ _).then fun _ l2 r2 => (h l2 r2).then fun _ _ _ => less_ok _ _ _) (names_less r l [])
theorem more_shrinks {α : Type} {item : Par α} (h : Shrinks item) : ∀ (n : Nat) (acc : List α), Shrinks (moreO item n acc)
  | 0, acc => fun l r => less_ok _ _ _
  | n + 1, acc => fun l r => by
    unfold moreO
    split
    · exact (take_shrinks l r).then fun _ l r => (h l r).then fun a l2 r2 => more_shrinks h n _ l2 r2
    · exact less_ok _ _ _
theorem some_shrinks {α : Type} {item : Par α} (h : Shrinks item) : Shrinks (someO item) := fun l r => (h l r).then fun _ l r => more_shrinks h _ _ l r
theorem inner_shrinks {ex : Par Ex} (h : Shrinks ex) : Shrinks (innerO ex) := fun l r =>
  (want_shrinks _ l r).then fun _ l r => (h l r).then fun _ l2 r2 => (want_shrinks _ l2 r2).then fun _ _ _ => less_ok _ _ _
theorem atom_shrinks {ex : Par Ex} (h : Shrinks ex) : Shrinks (atomO ex) := fun l r => by
  unfold atomO
  split
  · exact (take_shrinks l r).then fun t l r => less_ok _ _ _
  split
  · exact (take_shrinks l r).then fun t l r => less_ok _ _ _
  split
  · exact (take_shrinks l r).then fun t l r => less_ok _ _ _
  split
  · exact (take_shrinks l r).then fun t l r => less_ok _ _ _
  split
  · exact inner_shrinks h l r
  · exact less_refuse _ _ _ _
theorem atoms_shrinks {ex : Par Ex} (h : Shrinks ex) : ∀ (n : Nat) (acc : List Ex), Shrinks (atomsO ex n acc)
  | 0, acc => fun l r => less_ok _ _ _
  | n + 1, acc => fun l r => by
    unfold atomsO
    split
    · exact (atom_shrinks h l r).then fun a l r => atoms_shrinks h n _ l r
    · exact less_ok _ _ _
theorem row_shrinks {ex : Par Ex} (h : Shrinks ex) : Shrinks (rowO ex) := fun l r =>
  (atom_shrinks h l r).then fun _ l r => (atoms_shrinks h _ _ l r).then fun _ _ _ => less_ok _ _ _
theorem rows_shrinks {ex : Par Ex} (h : Shrinks ex) : Shrinks (rowsO ex) := fun l r =>
  (row_shrinks h l r).then fun a l r => by
    split
    · exact (take_shrinks l r).then fun t l2 r2 => (row_shrinks h l2 r2).then fun b l3 r3 => less_ok _ _ _
    · exact less_ok _ _ _
theorem let_shrinks {ex : Par Ex} (h : Shrinks ex) : Shrinks (letO ex) := fun l r =>
  (want_shrinks _ l r).then fun _ l r => (some_shrinks (bind_shrinks h) l r).then fun _ l2 r2 => (want_shrinks _ l2 r2).then fun _ l3 r3 => (h l3 r3).then fun _ _ _ => less_ok _ _ _
theorem alt_shrinks {ex : Par Ex} (h : Shrinks ex) : Shrinks (altO ex) := fun l r => by
  unfold altO
  split
  · exact (take_shrinks l r).then fun t l r => Less.mono ((want_shrinks _ _ _).then fun _ l2 r2 => (h l2 r2).then fun x l3 r3 => less_ok _ _ _) (names_less r l [])
  split
  · exact (take_shrinks l r).then fun t l r => (want_shrinks _ l r).then fun _ l2 r2 => (h l2 r2).then fun x l3 r3 => less_ok _ _ _
  · exact (want_shrinks _ l r).then fun t l r => (want_shrinks _ l r).then fun _ l2 r2 => (h l2 r2).then fun x l3 r3 => less_ok _ _ _
theorem case_shrinks {ex : Par Ex} (h : Shrinks ex) : Shrinks (caseO ex) := fun l r =>
  (want_shrinks _ l r).then fun _ l r => (h l r).then fun x l2 r2 => (want_shrinks _ l2 r2).then fun _ l3 r3 => (want_shrinks _ l3 r3).then fun _ l4 r4 => by
    split
    · exact (want_shrinks _ l4 r4).then fun _ l5 r5 => less_ok _ _ _
    · exact (some_shrinks (alt_shrinks h) l4 r4).then fun xs l5 r5 => (want_shrinks _ l5 r5).then fun _ l6 r6 => less_ok _ _ _
theorem lam_shrinks {ex : Par Ex} (h : Shrinks ex) : Shrinks (lamO ex) := fun l r =>
  (want_shrinks _ l r).then fun _ l r => by
    split
    · exact Less.mono ((want_shrinks _ _ _).then fun _ l2 r2 => (h l2 r2).then fun x l3 r3 => less_ok _ _ _) (names_less r l [])
    · exact less_refuse _ _ _ _
theorem expr_shrinks : ∀ (n d : Nat), Shrinks (exprO n d)
  | 0, d => fun l r => trivial
  | n + 1, d => fun l r => by
    unfold exprO
    have h := expr_shrinks n (d + 1)
    split
    · split
      · exact less_refuse _ _ _ _
      split
      · exact let_shrinks h l r
      split
      · exact case_shrinks h l r
      split
      · exact lam_shrinks h l r
      · exact rows_shrinks h l r
    · exact less_refuse _ _ _ _
theorem take_strict {α : Type} {last : Int} {rest : List Tok} {f : Tok → Int → List Tok → Out α} (hf : ∀ a l r, Less r.length (f a l r)) {x : α} {l : Int} {r : List Tok} (h : (takeO last rest).bind f = .ok x l r) : r.length < rest.length := by
  cases rest with
  | nil => cases h
  | cons y r0 =>
    have h1 := hf y y.2 r0
    have h2 : f y y.2 r0 = .ok x l r := h
    rw [h2] at h1
    exact Nat.lt_succ_of_le h1
theorem want_strict {α : Type} {s : Sh} {last : Int} {rest : List Tok} {f : Tok → Int → List Tok → Out α} (hf : ∀ a l r, Less r.length (f a l r)) {x : α} {l : Int} {r : List Tok} (h : (wantO s last rest).bind f = .ok x l r) : r.length < rest.length := by
  unfold wantO at h
  split at h
  · exact take_strict hf h
  · rw [refuseO_eq] at h
    cases h
theorem atom_strict {ex : Par Ex} (hx : Shrinks ex) {last : Int} {rest : List Tok} {x : Ex} {l : Int} {r : List Tok} (h : atomO ex last rest = .ok x l r) : r.length < rest.length := by
  unfold atomO at h
  split at h
  · exact take_strict (fun t l r => less_ok _ _ _) h
  split at h
  · exact take_strict (fun t l r => less_ok _ _ _) h
  split at h
  · exact take_strict (fun t l r => less_ok _ _ _) h
  split at h
  · exact take_strict (fun t l r => less_ok _ _ _) h
  split at h
  · exact want_strict (fun _ l r => (hx l r).then fun x l2 r2 => (want_shrinks _ l2 r2).then fun _ l3 r3 => less_ok _ _ _) h
  · rw [refuseO_eq] at h
    cases h
def bodyO (n d : Nat) : Par Ex := fun last rest =>
  if shapeL rest = sLet then letO (exprO n d) last rest
  else if shapeL rest = sCase then caseO (exprO n d) last rest
  else if shapeL rest = sLam then lamO (exprO n d) last rest
  else rowsO (exprO n d) last rest
def FormC (b me ma : Nat) (B : Bx) (n d : Nat) : Prop :=
  ∀ (last : Int) (rest : List Tok) (W : World) (f : FuncId) (first cap : Array Value), rest.length ≤ n → rest.length ≤ 4096 → Ctx W b me ma B → Rdr W b me ma last rest d → lookSh (exprForms b) (shapeL rest) = some (.func (.func f) first cap) →
    Calls Tryz.prog f (first ++ cap) W (OutSaid b me ma d (ExV W.heap.size) (bodyO n d last rest) W)
def BoxW (W : World) (p : Nat) (cs : List Value) : Prop := (∀ j v, cs[j]? = some v → W.cell? ⟨p, j, none⟩ = some v) ∧ ∀ j, W.frozen? ⟨p, j, none⟩ = false
theorem BoxW.alloc (w : World) (cs : Array Value) (t : TypeId) : BoxW (w.alloc (.cells cs t)) w.heap.size cs.toList :=
  ⟨fun j v h => by simp [go_sem]; simpa using h, fun j => by simp⟩
theorem BoxW.lt {W : World} {p : Nat} {c : Value} {cs : List Value} (h : BoxW W p (c :: cs)) : p < W.heap.size := Bl (h.1 0 c rfl)
theorem BoxW.grown {W W' : World} {p b : Nat} {c : Value} {cs : List Value} (h : BoxW W p (c :: cs)) (hg : W.grownBy W' (some b)) (hp : p ≠ b) : BoxW W' p (c :: cs) :=
  ⟨fun j v hj => hg.cell (h.1 j v hj) (by simpa using hp), fun j => (World.frozen?_of_block (w := W) (hg.block _ h.lt (by simpa using hp))).trans (h.2 j)⟩
theorem boxw_grown {W W' : World} {p b : Nat} {c : Value} {cs : List Value} (h : BoxW W p (c :: cs)) (hg : W.grownBy W' (some b)) (hp : p ≠ b) : BoxW W' p (c :: cs) := h.grown hg hp
theorem BoxW.below {W W' : World} {p : Nat} {c : Value} {cs : List Value} (h : BoxW W p (c :: cs)) (hb : Below W.heap.size W W') : BoxW W' p (c :: cs) :=
  h.grown (b := p + 1) (grown_of hb) (by omega)
theorem BoxW.set {W : World} {p : Nat} {cs : List Value} (h : BoxW W p cs) (i : Nat) (hi : i < cs.length) (v : Value) : BoxW (W.setCell ⟨p, i, none⟩ v) p (cs.set i v) := by
  refine ⟨fun j u hj => ?_, fun j => by simp [h.2 j]⟩
  by_cases e : i = j
  · subst e
    rw [List.getElem?_set_self hi] at hj
    cases hj
    exact at_sam v (h.1 i cs[i] (List.getElem?_eq_getElem hi))
  · rw [List.getElem?_set_ne e] at hj
    exact (at_oth _ _ _ _ _ e).trans (h.1 j u hj)
theorem BoxW.far {W : World} {p q i : Nat} {cs : List Value} (h : BoxW W p cs) (hq : q ≠ p) (v : Value) : BoxW (W.setCell ⟨q, i, none⟩ v) p cs :=
  ⟨fun j u hj => (at_far _ _ _ _ _ _ hq).trans (h.1 j u hj), fun j => by simp [h.2 j]⟩
def Kp (lo hi : Nat) (W W' : World) : Prop := ∀ g, lo ≤ g → g < hi → W'.heap[g]? = W.heap[g]?
theorem Kp.refl (lo hi : Nat) (W : World) : Kp lo hi W W := fun _ _ _ => rfl
theorem Kp.trans {lo hi : Nat} {W W' W'' : World} (h : Kp lo hi W W') (h2 : Kp lo hi W' W'') : Kp lo hi W W'' := fun g h3 h4 => (h2 g h3 h4).trans (h g h3 h4)
theorem Kp.grown {lo hi : Nat} {W W' : World} {b : Nat} (hg : W.grownBy W' (some b)) (hb : b < lo) (hi' : hi ≤ W.heap.size) : Kp lo hi W W' := fun g h1 h2 => hg.block g (by omega) (by simp; omega)
theorem Kp.below {lo hi : Nat} {W W' : World} (hb : Below W.heap.size W W') (hi' : hi ≤ W.heap.size) : Kp lo hi W W' := fun g _ h2 => hb.block g (by omega)
theorem Kp.set {lo hi : Nat} (W : World) (p i : Nat) (v : Value) (h : p < lo ∨ hi ≤ p) : Kp lo hi W (W.setCell ⟨p, i, none⟩ v) := fun g h1 h2 => Below.heap_setCell _ _ _ _ (by simp only; omega)
theorem Kp.sub {lo hi lo' hi' : Nat} {W W' : World} (h : Kp lo hi W W') (h1 : lo ≤ lo') (h2 : hi' ≤ hi) : Kp lo' hi' W W' := fun g h3 h4 => h g (by omega) (by omega)
theorem ExAt.kp {W W' : World} {lo lo' : Nat} {x : Ex} {cs : List Value} (h : ExAt W (fun g => lo ≤ g) x cs) (hk : Kp lo W.heap.size W W') (hl : lo' ≤ lo) : ExAt W' (fun g => lo' ≤ g) x cs := h.move fun g hg lt => ⟨Nt hl hg, hk g hg lt⟩
theorem ExsAt.kp {W W' : World} {lo lo' : Nat} {x : List Ex} {cs : List Value} (h : ExsAt W (fun g => lo ≤ g) x cs) (hk : Kp lo W.heap.size W W') (hl : lo' ≤ lo) : ExsAt W' (fun g => lo' ≤ g) x cs := h.move fun g hg lt => ⟨Nt hl hg, hk g hg lt⟩
theorem BndsAt.kp {W W' : World} {lo lo' : Nat} {x : List Bnd} {cs : List Value} (h : BndsAt W (fun g => lo ≤ g) x cs) (hk : Kp lo W.heap.size W W') (hl : lo' ≤ lo) : BndsAt W' (fun g => lo' ≤ g) x cs := h.move fun g hg lt => ⟨Nt hl hg, hk g hg lt⟩
theorem AltsAt.kp {W W' : World} {lo lo' : Nat} {x : List Alt} {cs : List Value} (h : AltsAt W (fun g => lo ≤ g) x cs) (hk : Kp lo W.heap.size W W') (hl : lo' ≤ lo) : AltsAt W' (fun g => lo' ≤ g) x cs := h.move fun g hg lt => ⟨Nt hl hg, hk g hg lt⟩
theorem RowAt.kp {W W' : World} {lo lo' : Nat} {e : TypeId} {size : Nat} {v : Value} {n : Nat} {xs : List Value} (h : RowAt W (fun g => lo ≤ g) e size v n xs) (hk : Kp lo W.heap.size W W') (hl : lo' ≤ lo) : RowAt W' (fun g => lo' ≤ g) e size v n xs := h.move fun g hg lt => ⟨Nt hl hg, hk g hg lt⟩
theorem RowAt.own {W : World} {lo : Nat} {e : TypeId} {size : Nat} {v : Value} {n : Nat} {xs : List Value} (h : W.ownsRow lo e size v n xs) : RowAt W (fun g => lo ≤ g) e size v n xs := RowAt.of h fun _ h => h
theorem ExAt.withKids {W : World} {K : Nat → Prop} {a : Ex} {k nm f u vp vk vb va v : Value} (h : ExAt W K a [k, nm, f, u, vp, vk, vb, va]) {xs : List Ex} {cs : List Value} (hk : RowAt W K 37 8 v xs.length cs) (hx : ExsAt W K xs cs) : ExAt W K (a.withKids xs) [k, nm, f, u, vp, v, vb, va] := by
  cases h with
  | mk k n f x ps ks bs al vp vk vb va xk xb xa hp hk0 hb ha tk tb ta => exact .mk k n f x ps xs bs al vp v vb va cs xb xa hp hk hb ha hx tb ta
theorem ExAt.kids {W : World} {K : Nat → Prop} {v : Value} {xs : List Ex} {cs : List Value} (k : Int) (n : Nm) (hk : RowAt W K 37 8 v xs.length cs) (hx : ExsAt W K xs cs) : ExAt W K (.mk k n false 0 [] xs [] []) [.int .i64 k, .string (tx n), .bool false, .int .u64 0, .slice none 0 0, v, .slice none 0 0, .slice none 0 0] :=
  .mk k n false 0 [] xs [] [] _ v _ _ cs [] [] (RowAt.nil _ _ _ _) hk (RowAt.nil _ _ _ _) (RowAt.nil _ _ _ _) hx .nil .nil
theorem own_built {W : World} {g base : Nat} {e : TypeId} {size n : Nat} {cs : Array Value} (hg : W.heap[g]? = some (.cells cs e)) (hb : base ≤ g) (hs : cs.size = n * size) (hn : n ≤ maxLen) : W.ownsRow base e size (.slice (some ⟨g, 0, none⟩) n n) n cs.toList :=
  ⟨by rw [Array.length_toList]; exact hs, Or.inr ⟨g, n, cs, rfl, hb, hg, Nat.le_refl _, hn, hs, by rw [← hs, ← Array.length_toList]; exact List.take_length⟩⟩
theorem own_news {W : World} {base : Nat} {e : TypeId} {size n : Nat} {a : Addr} {c : Nat} {xs : List Value} (h : W.ownsRow base e size (.slice (some a) n c) n xs) : ∀ j u, xs[j]? = some u → W.cell? (a.add j) = some u := by
  obtain ⟨h0, ⟨h, -⟩ | ⟨g, cap, cur, h, h2, h3, h4, h5, h6, h7⟩⟩ := h
  · cases h
  · cases h
    intro j u hj
    have hadd : (⟨g, 0, none⟩ : Addr).add j = ⟨g, j, none⟩ := by unfold Addr.add; split <;> simp_all
    rw [hadd, cell_of_row W g j cur e (0, 0) h3]
    rw [← h7] at hj
    have := List.getElem?_take (l := cur.toList) (i := n * size) (j := j)
    rw [hj] at this
    split at this
    · simpa using this.symm
    · cases this
theorem ExAt.one {W : World} {K : Nat → Prop} {x : Ex} {cs : List Value} (h : ExAt W K x cs) : ∀ u ∈ cs, u.oneCell' = true := by
  cases h with
  | mk k n f x ps ks bs al vp vk vb va xk xb xa hp hk hb ha tk tb ta =>
    obtain ⟨_, _, _, rfl⟩ := hp.slice
    obtain ⟨_, _, _, rfl⟩ := hk.slice
    obtain ⟨_, _, _, rfl⟩ := hb.slice
    obtain ⟨_, _, _, rfl⟩ := ha.slice
    intro u hu
    simp at hu
    rcases hu with rfl | rfl | rfl | rfl | rfl | rfl | rfl | rfl <;> rfl
theorem ExsAt.one {W : World} {K : Nat → Prop} : ∀ {es : List Ex} {xs : List Value}, ExsAt W K es xs → ∀ u ∈ xs, u.oneCell' = true
  | [], _, .nil => fun u hu => by cases hu
  | _ :: _, _, .cons _ _ cs xs h t => fun u hu => by
    rcases List.mem_append.1 hu with hu | hu
    · exact h.one u hu
    · exact t.one u hu
theorem ExsAt.len {W : World} {K : Nat → Prop} : ∀ {es : List Ex} {xs : List Value}, ExsAt W K es xs → xs.length = es.length * 8
  | [], _, .nil => rfl
  | _ :: es, _, .cons _ _ cs xs h t => by
    have h8 : cs.length = 8 := by cases h; rfl
    have := t.len
    simp only [List.length_append, List.length_cons, h8, this]
    omega
theorem BoxW.q8 {W : World} {p : Nat} {a0 a1 a2 a3 a4 a5 a6 a7 : Value} (h : BoxW W p [a0, a1, a2, a3, a4, a5, a6, a7]) : W.cell? ⟨p, 0, none⟩ = some a0 ∧ W.cell? ⟨p, 1, none⟩ = some a1 ∧ W.cell? ⟨p, 2, none⟩ = some a2 ∧ W.cell? ⟨p, 3, none⟩ = some a3 ∧ W.cell? ⟨p, 4, none⟩ = some a4 ∧ W.cell? ⟨p, 5, none⟩ = some a5 ∧ W.cell? ⟨p, 6, none⟩ = some a6 ∧ W.cell? ⟨p, 7, none⟩ = some a7 := ⟨h.1 0 _ rfl, h.1 1 _ rfl, h.1 2 _ rfl, h.1 3 _ rfl, h.1 4 _ rfl, h.1 5 _ rfl, h.1 6 _ rfl, h.1 7 _ rfl⟩
theorem BoxW.z8 {W : World} {p : Nat} {cs : List Value} (h : BoxW W p cs) : W.frozen? ⟨p, 0, none⟩ = false ∧ W.frozen? ⟨p, 1, none⟩ = false ∧ W.frozen? ⟨p, 2, none⟩ = false ∧ W.frozen? ⟨p, 3, none⟩ = false ∧ W.frozen? ⟨p, 4, none⟩ = false ∧ W.frozen? ⟨p, 5, none⟩ = false ∧ W.frozen? ⟨p, 6, none⟩ = false ∧ W.frozen? ⟨p, 7, none⟩ = false := ⟨h.2 0, h.2 1, h.2 2, h.2 3, h.2 4, h.2 5, h.2 6, h.2 7⟩
theorem BoxW.q10 {W : World} {p : Nat} {a0 a1 a2 a3 a4 a5 a6 a7 a8 a9 : Value} (h : BoxW W p [a0, a1, a2, a3, a4, a5, a6, a7, a8, a9]) : W.cell? ⟨p, 0, none⟩ = some a0 ∧ W.cell? ⟨p, 1, none⟩ = some a1 ∧ W.cell? ⟨p, 2, none⟩ = some a2 ∧ W.cell? ⟨p, 3, none⟩ = some a3 ∧ W.cell? ⟨p, 4, none⟩ = some a4 ∧ W.cell? ⟨p, 5, none⟩ = some a5 ∧ W.cell? ⟨p, 6, none⟩ = some a6 ∧ W.cell? ⟨p, 7, none⟩ = some a7 ∧ W.cell? ⟨p, 8, none⟩ = some a8 ∧ W.cell? ⟨p, 9, none⟩ = some a9 := ⟨h.1 0 _ rfl, h.1 1 _ rfl, h.1 2 _ rfl, h.1 3 _ rfl, h.1 4 _ rfl, h.1 5 _ rfl, h.1 6 _ rfl, h.1 7 _ rfl, h.1 8 _ rfl, h.1 9 _ rfl⟩
theorem BoxW.z10 {W : World} {p : Nat} {cs : List Value} (h : BoxW W p cs) : W.frozen? ⟨p, 0, none⟩ = false ∧ W.frozen? ⟨p, 1, none⟩ = false ∧ W.frozen? ⟨p, 2, none⟩ = false ∧ W.frozen? ⟨p, 3, none⟩ = false ∧ W.frozen? ⟨p, 4, none⟩ = false ∧ W.frozen? ⟨p, 5, none⟩ = false ∧ W.frozen? ⟨p, 6, none⟩ = false ∧ W.frozen? ⟨p, 7, none⟩ = false ∧ W.frozen? ⟨p, 8, none⟩ = false ∧ W.frozen? ⟨p, 9, none⟩ = false := ⟨h.2 0, h.2 1, h.2 2, h.2 3, h.2 4, h.2 5, h.2 6, h.2 7, h.2 8, h.2 9⟩
theorem BoxW.q13 {W : World} {p : Nat} {a0 a1 a2 a3 a4 a5 a6 a7 a8 a9 a10 a11 a12 : Value} (h : BoxW W p [a0, a1, a2, a3, a4, a5, a6, a7, a8, a9, a10, a11, a12]) : W.cell? ⟨p, 0, none⟩ = some a0 ∧ W.cell? ⟨p, 1, none⟩ = some a1 ∧ W.cell? ⟨p, 2, none⟩ = some a2 ∧ W.cell? ⟨p, 3, none⟩ = some a3 ∧ W.cell? ⟨p, 4, none⟩ = some a4 ∧ W.cell? ⟨p, 5, none⟩ = some a5 ∧ W.cell? ⟨p, 6, none⟩ = some a6 ∧ W.cell? ⟨p, 7, none⟩ = some a7 ∧ W.cell? ⟨p, 8, none⟩ = some a8 ∧ W.cell? ⟨p, 9, none⟩ = some a9 ∧ W.cell? ⟨p, 10, none⟩ = some a10 ∧ W.cell? ⟨p, 11, none⟩ = some a11 ∧ W.cell? ⟨p, 12, none⟩ = some a12 := ⟨h.1 0 _ rfl, h.1 1 _ rfl, h.1 2 _ rfl, h.1 3 _ rfl, h.1 4 _ rfl, h.1 5 _ rfl, h.1 6 _ rfl, h.1 7 _ rfl, h.1 8 _ rfl, h.1 9 _ rfl, h.1 10 _ rfl, h.1 11 _ rfl, h.1 12 _ rfl⟩
theorem BoxW.z13 {W : World} {p : Nat} {cs : List Value} (h : BoxW W p cs) : W.frozen? ⟨p, 0, none⟩ = false ∧ W.frozen? ⟨p, 1, none⟩ = false ∧ W.frozen? ⟨p, 2, none⟩ = false ∧ W.frozen? ⟨p, 3, none⟩ = false ∧ W.frozen? ⟨p, 4, none⟩ = false ∧ W.frozen? ⟨p, 5, none⟩ = false ∧ W.frozen? ⟨p, 6, none⟩ = false ∧ W.frozen? ⟨p, 7, none⟩ = false ∧ W.frozen? ⟨p, 8, none⟩ = false ∧ W.frozen? ⟨p, 9, none⟩ = false ∧ W.frozen? ⟨p, 10, none⟩ = false ∧ W.frozen? ⟨p, 11, none⟩ = false ∧ W.frozen? ⟨p, 12, none⟩ = false := ⟨h.2 0, h.2 1, h.2 2, h.2 3, h.2 4, h.2 5, h.2 6, h.2 7, h.2 8, h.2 9, h.2 10, h.2 11, h.2 12⟩
theorem Rdr.o2 {W : World} {b me ma : Nat} {last : Int} {rest : List Tok} {d p i0 i1 : Nat} {v0 v1 : Value} (h : Rdr W b me ma last rest d) (hp : b < p) : Rdr ((W.setCell ⟨p, i0, none⟩ v0).setCell ⟨p, i1, none⟩ v1) b me ma last rest d := (h.over hp _).over hp _
theorem gn2 {w W : World} {b p i0 i1 : Nat} {v0 v1 : Value} (h : w.grownBy W (some b)) (hp : w.heap.size ≤ p) : w.grownBy ((W.setCell ⟨p, i0, none⟩ v0).setCell ⟨p, i1, none⟩ v1) (some b) := grown_new (grown_new h hp _) hp _
theorem Kp.s2 {lo hi : Nat} {W : World} {p i0 i1 : Nat} {v0 v1 : Value} (h : p < lo ∨ hi ≤ p) : Kp lo hi W ((W.setCell ⟨p, i0, none⟩ v0).setCell ⟨p, i1, none⟩ v1) := (Kp.set _ _ _ _ h).trans (Kp.set _ _ _ _ h)
theorem Rdr.o8 {W : World} {b me ma : Nat} {last : Int} {rest : List Tok} {d p i0 i1 i2 i3 i4 i5 i6 i7 : Nat} {v0 v1 v2 v3 v4 v5 v6 v7 : Value} (h : Rdr W b me ma last rest d) (hp : b < p) : Rdr ((((((((W.setCell ⟨p, i0, none⟩ v0).setCell ⟨p, i1, none⟩ v1).setCell ⟨p, i2, none⟩ v2).setCell ⟨p, i3, none⟩ v3).setCell ⟨p, i4, none⟩ v4).setCell ⟨p, i5, none⟩ v5).setCell ⟨p, i6, none⟩ v6).setCell ⟨p, i7, none⟩ v7) b me ma last rest d := (((((((h.over hp _).over hp _).over hp _).over hp _).over hp _).over hp _).over hp _).over hp _
theorem gn8 {w W : World} {b p i0 i1 i2 i3 i4 i5 i6 i7 : Nat} {v0 v1 v2 v3 v4 v5 v6 v7 : Value} (h : w.grownBy W (some b)) (hp : w.heap.size ≤ p) : w.grownBy ((((((((W.setCell ⟨p, i0, none⟩ v0).setCell ⟨p, i1, none⟩ v1).setCell ⟨p, i2, none⟩ v2).setCell ⟨p, i3, none⟩ v3).setCell ⟨p, i4, none⟩ v4).setCell ⟨p, i5, none⟩ v5).setCell ⟨p, i6, none⟩ v6).setCell ⟨p, i7, none⟩ v7) (some b) := grown_new (grown_new (grown_new (grown_new (grown_new (grown_new (grown_new (grown_new h hp _) hp _) hp _) hp _) hp _) hp _) hp _) hp _
theorem Kp.s8 {lo hi : Nat} {W : World} {p i0 i1 i2 i3 i4 i5 i6 i7 : Nat} {v0 v1 v2 v3 v4 v5 v6 v7 : Value} (h : p < lo ∨ hi ≤ p) : Kp lo hi W ((((((((W.setCell ⟨p, i0, none⟩ v0).setCell ⟨p, i1, none⟩ v1).setCell ⟨p, i2, none⟩ v2).setCell ⟨p, i3, none⟩ v3).setCell ⟨p, i4, none⟩ v4).setCell ⟨p, i5, none⟩ v5).setCell ⟨p, i6, none⟩ v6).setCell ⟨p, i7, none⟩ v7) := (((((((Kp.set _ _ _ _ h).trans (Kp.set _ _ _ _ h)).trans (Kp.set _ _ _ _ h)).trans (Kp.set _ _ _ _ h)).trans (Kp.set _ _ _ _ h)).trans (Kp.set _ _ _ _ h)).trans (Kp.set _ _ _ _ h)).trans (Kp.set _ _ _ _ h)
theorem Kp.s10 {lo hi : Nat} {W : World} {p i0 i1 i2 i3 i4 i5 i6 i7 i8 i9 : Nat} {v0 v1 v2 v3 v4 v5 v6 v7 v8 v9 : Value} (h : p < lo ∨ hi ≤ p) : Kp lo hi W ((((((((((W.setCell ⟨p, i0, none⟩ v0).setCell ⟨p, i1, none⟩ v1).setCell ⟨p, i2, none⟩ v2).setCell ⟨p, i3, none⟩ v3).setCell ⟨p, i4, none⟩ v4).setCell ⟨p, i5, none⟩ v5).setCell ⟨p, i6, none⟩ v6).setCell ⟨p, i7, none⟩ v7).setCell ⟨p, i8, none⟩ v8).setCell ⟨p, i9, none⟩ v9) := (((((((((Kp.set _ _ _ _ h).trans (Kp.set _ _ _ _ h)).trans (Kp.set _ _ _ _ h)).trans (Kp.set _ _ _ _ h)).trans (Kp.set _ _ _ _ h)).trans (Kp.set _ _ _ _ h)).trans (Kp.set _ _ _ _ h)).trans (Kp.set _ _ _ _ h)).trans (Kp.set _ _ _ _ h)).trans (Kp.set _ _ _ _ h)
theorem Kp.s13 {lo hi : Nat} {W : World} {p i0 i1 i2 i3 i4 i5 i6 i7 i8 i9 i10 i11 i12 : Nat} {v0 v1 v2 v3 v4 v5 v6 v7 v8 v9 v10 v11 v12 : Value} (h : p < lo ∨ hi ≤ p) : Kp lo hi W (((((((((((((W.setCell ⟨p, i0, none⟩ v0).setCell ⟨p, i1, none⟩ v1).setCell ⟨p, i2, none⟩ v2).setCell ⟨p, i3, none⟩ v3).setCell ⟨p, i4, none⟩ v4).setCell ⟨p, i5, none⟩ v5).setCell ⟨p, i6, none⟩ v6).setCell ⟨p, i7, none⟩ v7).setCell ⟨p, i8, none⟩ v8).setCell ⟨p, i9, none⟩ v9).setCell ⟨p, i10, none⟩ v10).setCell ⟨p, i11, none⟩ v11).setCell ⟨p, i12, none⟩ v12) := ((((((((((((Kp.set _ _ _ _ h).trans (Kp.set _ _ _ _ h)).trans (Kp.set _ _ _ _ h)).trans (Kp.set _ _ _ _ h)).trans (Kp.set _ _ _ _ h)).trans (Kp.set _ _ _ _ h)).trans (Kp.set _ _ _ _ h)).trans (Kp.set _ _ _ _ h)).trans (Kp.set _ _ _ _ h)).trans (Kp.set _ _ _ _ h)).trans (Kp.set _ _ _ _ h)).trans (Kp.set _ _ _ _ h)).trans (Kp.set _ _ _ _ h)
theorem BoxW.b8 {W : World} {p : Nat} {a0 a1 a2 a3 a4 a5 a6 a7 v0 v1 v2 v3 v4 v5 v6 v7 : Value} (h : BoxW W p [a0, a1, a2, a3, a4, a5, a6, a7]) : BoxW ((((((((W.setCell ⟨p, 0, none⟩ v0).setCell ⟨p, 1, none⟩ v1).setCell ⟨p, 2, none⟩ v2).setCell ⟨p, 3, none⟩ v3).setCell ⟨p, 4, none⟩ v4).setCell ⟨p, 5, none⟩ v5).setCell ⟨p, 6, none⟩ v6).setCell ⟨p, 7, none⟩ v7) p [v0, v1, v2, v3, v4, v5, v6, v7] := (((((((h.set 0 (show 0 < 8 by decide) v0).set 1 (show 1 < 8 by decide) v1).set 2 (show 2 < 8 by decide) v2).set 3 (show 3 < 8 by decide) v3).set 4 (show 4 < 8 by decide) v4).set 5 (show 5 < 8 by decide) v5).set 6 (show 6 < 8 by decide) v6).set 7 (show 7 < 8 by decide) v7
theorem BoxW.b8v {W : World} {p : Nat} {a0 a1 a2 a3 a4 a5 a6 a7 : Value} (h : BoxW W p [a0, a1, a2, a3, a4, a5, a6, a7]) (v0 v1 v2 v3 v4 v5 v6 v7 : Value) : BoxW ((((((((W.setCell ⟨p, 0, none⟩ v0).setCell ⟨p, 1, none⟩ v1).setCell ⟨p, 2, none⟩ v2).setCell ⟨p, 3, none⟩ v3).setCell ⟨p, 4, none⟩ v4).setCell ⟨p, 5, none⟩ v5).setCell ⟨p, 6, none⟩ v6).setCell ⟨p, 7, none⟩ v7) p [v0, v1, v2, v3, v4, v5, v6, v7] := (((((((h.set 0 (show 0 < 8 by decide) v0).set 1 (show 1 < 8 by decide) v1).set 2 (show 2 < 8 by decide) v2).set 3 (show 3 < 8 by decide) v3).set 4 (show 4 < 8 by decide) v4).set 5 (show 5 < 8 by decide) v5).set 6 (show 6 < 8 by decide) v6).set 7 (show 7 < 8 by decide) v7
theorem BoxW.b10v {W : World} {p : Nat} {a0 a1 a2 a3 a4 a5 a6 a7 a8 a9 : Value} (h : BoxW W p [a0, a1, a2, a3, a4, a5, a6, a7, a8, a9]) (v0 v1 v2 v3 v4 v5 v6 v7 v8 v9 : Value) : BoxW ((((((((((W.setCell ⟨p, 0, none⟩ v0).setCell ⟨p, 1, none⟩ v1).setCell ⟨p, 2, none⟩ v2).setCell ⟨p, 3, none⟩ v3).setCell ⟨p, 4, none⟩ v4).setCell ⟨p, 5, none⟩ v5).setCell ⟨p, 6, none⟩ v6).setCell ⟨p, 7, none⟩ v7).setCell ⟨p, 8, none⟩ v8).setCell ⟨p, 9, none⟩ v9) p [v0, v1, v2, v3, v4, v5, v6, v7, v8, v9] := (((((((((h.set 0 (show 0 < 10 by decide) v0).set 1 (show 1 < 10 by decide) v1).set 2 (show 2 < 10 by decide) v2).set 3 (show 3 < 10 by decide) v3).set 4 (show 4 < 10 by decide) v4).set 5 (show 5 < 10 by decide) v5).set 6 (show 6 < 10 by decide) v6).set 7 (show 7 < 10 by decide) v7).set 8 (show 8 < 10 by decide) v8).set 9 (show 9 < 10 by decide) v9
theorem BoxW.b13v {W : World} {p : Nat} {a0 a1 a2 a3 a4 a5 a6 a7 a8 a9 a10 a11 a12 : Value} (h : BoxW W p [a0, a1, a2, a3, a4, a5, a6, a7, a8, a9, a10, a11, a12]) (v0 v1 v2 v3 v4 v5 v6 v7 v8 v9 v10 v11 v12 : Value) : BoxW (((((((((((((W.setCell ⟨p, 0, none⟩ v0).setCell ⟨p, 1, none⟩ v1).setCell ⟨p, 2, none⟩ v2).setCell ⟨p, 3, none⟩ v3).setCell ⟨p, 4, none⟩ v4).setCell ⟨p, 5, none⟩ v5).setCell ⟨p, 6, none⟩ v6).setCell ⟨p, 7, none⟩ v7).setCell ⟨p, 8, none⟩ v8).setCell ⟨p, 9, none⟩ v9).setCell ⟨p, 10, none⟩ v10).setCell ⟨p, 11, none⟩ v11).setCell ⟨p, 12, none⟩ v12) p [v0, v1, v2, v3, v4, v5, v6, v7, v8, v9, v10, v11, v12] := ((((((((((((h.set 0 (show 0 < 13 by decide) v0).set 1 (show 1 < 13 by decide) v1).set 2 (show 2 < 13 by decide) v2).set 3 (show 3 < 13 by decide) v3).set 4 (show 4 < 13 by decide) v4).set 5 (show 5 < 13 by decide) v5).set 6 (show 6 < 13 by decide) v6).set 7 (show 7 < 13 by decide) v7).set 8 (show 8 < 13 by decide) v8).set 9 (show 9 < 13 by decide) v9).set 10 (show 10 < 13 by decide) v10).set 11 (show 11 < 13 by decide) v11).set 12 (show 12 < 13 by decide) v12
theorem BoxW.b13_5_8 {W : World} {p : Nat} {a0 a1 a2 a3 a4 a5 a6 a7 a8 a9 a10 a11 a12 v5 v6 v7 v8 v9 v10 v11 v12 : Value} (h : BoxW W p [a0, a1, a2, a3, a4, a5, a6, a7, a8, a9, a10, a11, a12]) : BoxW ((((((((W.setCell ⟨p, 5, none⟩ v5).setCell ⟨p, 6, none⟩ v6).setCell ⟨p, 7, none⟩ v7).setCell ⟨p, 8, none⟩ v8).setCell ⟨p, 9, none⟩ v9).setCell ⟨p, 10, none⟩ v10).setCell ⟨p, 11, none⟩ v11).setCell ⟨p, 12, none⟩ v12) p [a0, a1, a2, a3, a4, v5, v6, v7, v8, v9, v10, v11, v12] := (((((((h.set 5 (show 5 < 13 by decide) v5).set 6 (show 6 < 13 by decide) v6).set 7 (show 7 < 13 by decide) v7).set 8 (show 8 < 13 by decide) v8).set 9 (show 9 < 13 by decide) v9).set 10 (show 10 < 13 by decide) v10).set 11 (show 11 < 13 by decide) v11).set 12 (show 12 < 13 by decide) v12
theorem BoxW.b13_2_2 {W : World} {p : Nat} {a0 a1 a2 a3 a4 a5 a6 a7 a8 a9 a10 a11 a12 v2 v3 : Value} (h : BoxW W p [a0, a1, a2, a3, a4, a5, a6, a7, a8, a9, a10, a11, a12]) : BoxW ((W.setCell ⟨p, 2, none⟩ v2).setCell ⟨p, 3, none⟩ v3) p [a0, a1, v2, v3, a4, a5, a6, a7, a8, a9, a10, a11, a12] := (h.set 2 (show 2 < 13 by decide) v2).set 3 (show 3 < 13 by decide) v3
theorem Kp.past {lo hi : Nat} {W W' : World} {q : Nat} (hg : W.grownBy W' (some q)) (hq : hi ≤ q) (hi' : hi ≤ W.heap.size) : Kp lo hi W W' := fun g _ h2 => hg.block g (by omega) (by simp; omega)
def BndV (lo : Nat) (x : Bnd) (e : Ending) (w : World) : Prop :=
  ∃ vp k n f u vq vk vb va, e = .returned (.agg #[.string (tx x.1), vp, .int .i64 k, .string n, .bool f, .int .u64 u, vq, vk, vb, va]) ∧ RowAt w (fun g => lo ≤ g) 9 1 vp x.2.1.length (namesV x.2.1) ∧ ExAt w (fun g => lo ≤ g) x.2.2 [.int .i64 k, .string n, .bool f, .int .u64 u, vq, vk, vb, va]
def AltV (lo : Nat) (x : Alt) (e : Ending) (w : World) : Prop :=
  ∃ vp k n f u vq vk vb va, e = .returned (.agg #[.int .i64 x.1, .string (tx x.2.1), .bool x.2.2.1, .int .u64 x.2.2.2.1, vp, .int .i64 k, .string n, .bool f, .int .u64 u, vq, vk, vb, va]) ∧ RowAt w (fun g => lo ≤ g) 9 1 vp x.2.2.2.2.1.length (namesV x.2.2.2.2.1) ∧ ExAt w (fun g => lo ≤ g) x.2.2.2.2.2 [.int .i64 k, .string n, .bool f, .int .u64 u, vq, vk, vb, va]
def BndsV (lo : Nat) (xs : List Bnd) (e : Ending) (w : World) : Prop := ∃ v cs, e = .returned v ∧ w.ownsRow lo 39 10 v xs.length cs ∧ BndsAt w (fun g => lo ≤ g) xs cs
def AltsV (lo : Nat) (xs : List Alt) (e : Ending) (w : World) : Prop := ∃ v cs, e = .returned v ∧ w.ownsRow lo 56 13 v xs.length cs ∧ AltsAt w (fun g => lo ≤ g) xs cs
theorem Tryz.info_bind : (Tryz.prog.info? 39).map (fun i => (i.zero, i.size, i.bytes)) = some (some (.agg #[.string ⟨#[]⟩, .slice none 0 0, .int .i64 0, .string ⟨#[]⟩, .bool false, .int .u64 0, .slice none 0 0, .slice none 0 0, .slice none 0 0, .slice none 0 0]), 10, 176) := by kernel_rfl
theorem Tryz.info_alt : (Tryz.prog.info? 56).map (fun i => (i.zero, i.size, i.bytes)) = some (some (.agg #[.int .i64 0, .string ⟨#[]⟩, .bool false, .int .u64 0, .slice none 0 0, .int .i64 0, .string ⟨#[]⟩, .bool false, .int .u64 0, .slice none 0 0, .slice none 0 0, .slice none 0 0, .slice none 0 0]), 13, 200) := by kernel_rfl
theorem BndsAt.snoc {W : World} {K : Nat → Prop} : ∀ {bs : List Bnd} {xs : List Value} {x : Bnd} {vp : Value} {cs : List Value}, BndsAt W K bs xs → RowAt W K 9 1 vp x.2.1.length (namesV x.2.1) → ExAt W K x.2.2 cs → BndsAt W K (bs ++ [x]) (xs ++ (.string (tx x.1) :: vp :: cs))
  | [], _, (n, ps, e), vp, cs, .nil, hp, h => by simpa using BndsAt.cons n ps e [] vp cs [] hp h .nil
  | _ :: bs, _, x, vp, cs, .cons n ps e _ v0 c0 x0 hp0 h0 t0, hp, h => by simpa [List.append_assoc] using BndsAt.cons n ps e _ v0 c0 _ hp0 h0 (t0.snoc hp h)
theorem AltsAt.snoc {W : World} {K : Nat → Prop} : ∀ {bs : List Alt} {xs : List Value} {x : Alt} {vp : Value} {cs : List Value}, AltsAt W K bs xs → RowAt W K 9 1 vp x.2.2.2.2.1.length (namesV x.2.2.2.2.1) → ExAt W K x.2.2.2.2.2 cs → AltsAt W K (bs ++ [x]) (xs ++ (.int .i64 x.1 :: .string (tx x.2.1) :: .bool x.2.2.1 :: .int .u64 x.2.2.2.1 :: vp :: cs))
  | [], _, (k, n, f, u, ps, e), vp, cs, .nil, hp, h => by simpa using AltsAt.cons k n f u ps e [] vp cs [] hp h .nil
  | _ :: bs, _, x, vp, cs, .cons k n f u ps e _ v0 c0 x0 hp0 h0 t0, hp, h => by simpa [List.append_assoc] using AltsAt.cons k n f u ps e _ v0 c0 _ hp0 h0 (t0.snoc hp h)
def arityO : Par Int := fun l r => if shapeL r = sNum then (takeO l r).bind fun u l2 r2 => if u.1.f = true ∨ 24 < u.1.x then refuseO 1 l r else .ok u.1.x l2 r2 else refuseO 3 l r
def declV : List (Nm × Int) → List Value
  | [] => []
  | (n, x) :: ds => .string (tx n) :: .int .i64 x :: declV ds
theorem declV_snoc (ds : List (Nm × Int)) (x : Nm × Int) : declV (ds ++ [x]) = declV ds ++ [.string (tx x.1), .int .i64 x.2] := by
  induction ds with
  | nil => rfl
  | cons y ds ih => simp [declV, ih]
theorem declV_len (ds : List (Nm × Int)) : (declV ds).length = ds.length * 2 := by
  induction ds with
  | nil => rfl
  | cons y ds ih => simp [declV, ih]; omega
theorem declV_app (ds es : List (Nm × Int)) : declV (ds ++ es) = declV ds ++ declV es := by
  induction ds with
  | nil => rfl
  | cons y ds ih => simp [declV, ih]
theorem declV_one (ds : List (Nm × Int)) : ∀ u ∈ declV ds, u.oneCell' = true := by
  induction ds with
  | nil => intro u hu; cases hu
  | cons y ds ih =>
    intro u hu
    simp only [declV, List.mem_cons] at hu
    rcases hu with rfl | rfl | hu
    · rfl
    · rfl
    · exact ih u hu
def DeclsV (lo : Nat) (ds : List (Nm × Int)) (e : Ending) (w : World) : Prop := ∃ v, e = .returned v ∧ w.ownsRow lo 69 2 v ds.length (declV ds)
theorem Tryz.info_decl : (Tryz.prog.info? 69).map (fun i => (i.zero, i.size, i.bytes)) = some (some (.agg #[.string ⟨#[]⟩, .int .i64 0]), 2, 24) := by kernel_rfl
def Onto (w : World) (base : Nat) (e : TypeId) (size : Nat) (v : Value) (n : Nat) (xs : List Value) (ao : Option Addr) (cap : Nat) (w' : World) : Prop :=
  w'.ownsRow base e size (.slice ao n cap) n xs ∧ w.grownBy w' v.ownBlock ∧ ((Value.slice ao n cap).ownBlock = v.ownBlock ∨ (Value.slice ao n cap).ownBlock = some w.heap.size)
theorem run_nil_decl (ty : TypeId) (v : Value) (base n : Nat) (xs : List Value) (c : Nat) (w : World) (h : w.ownsRow base 69 2 v n xs) :
    (Builtin.append_ #[23, 23] ty #[v, .slice none 0 c]).run Tryz.prog w = .ok v w := by
  have hu : Tryz.prog.underlying 23 = some (.slice 69) := Tryz.underlying23
  rcases h.2 with ⟨rfl, rfl⟩ | ⟨g, cap, cur, rfl, _, _, hcap, _⟩
  · simp [Builtin.append_, run_underlying hu, Tryz.sizeOf69, Builtin.firstCells, Builtin.lenOf, go_sem]
  · simp [Builtin.append_, run_underlying hu, Tryz.sizeOf69, Builtin.firstCells, Builtin.lenOf, go_sem, hcap]
theorem run_onto_decl (ty : TypeId) (w : World) (base n : Nat) (v : Value) (xs : List Value) (hown : w.ownsRow base 69 2 v n xs) (b2 m : Nat) (ys : List Value) (x : Value) (hx : w.ownsRow b2 69 2 x m ys) (h1 : ∀ u ∈ ys, u.oneCell' = true) (hb : n + m ≤ 100000) (hbase : base ≤ w.heap.size) :
    ∃ ao cap w', (Builtin.append_ #[23, 23] ty #[v, x]).run Tryz.prog w = .ok (.slice ao (n + m) cap) w' ∧ Onto w base 69 2 v (n + m) (xs ++ ys) ao cap w' := by
  obtain ⟨i0, hi, hz0, hz1, hz2⟩ := info_parts Tryz.info_decl
  obtain ⟨hl, ⟨rfl, rfl⟩ | ⟨g, cap, cur, rfl, h2, h3, h4, h5, h6, h7⟩⟩ := id hx
  · have hy : ys = [] := List.length_eq_zero_iff.1 (by simpa using hl)
    subst hy
    obtain ⟨ao, cap, rfl, hlow⟩ := own_shape hown
    exact ⟨ao, cap, w, run_nil_decl ty _ base n xs 0 w hown, by simpa using hown, ⟨rfl, rfl, rfl, Nat.le_refl _, fun _ _ _ => rfl⟩, Or.inl rfl⟩
  · obtain ⟨v', w', hr, q2, q3, _, q5⟩ := run_append_own_at (P := Tryz.prog) w base 23 ty 69 i0 (.agg #[.string ⟨#[]⟩, .int .i64 0]) 2 24 Tryz.underlying23 hi hz0 hz1 hz2 rfl (by decide) v n xs hown ⟨g, 0, none⟩ m cap ys hl (own_news hx) h1 (by unfold maxLen; omega) (by omega) hbase
    obtain ⟨ao, c2, rfl, hlow⟩ := own_shape q2
    exact ⟨ao, c2, w', hr, q2, q3, q5⟩
theorem wp_onto_decl {o : Oper} {a : Act} {K : Act → World → Prop} {Q : Exit → Act → World → Prop} (s x : Operand) (ho : o.op = .call { callee := .builtin .append, args := #[s, x], argTypes := #[23, 23] })
    (w : World) (base n : Nat) (v : Value) (xs : List Value) (hs : a.eval s = v) (hown : w.ownsRow base 69 2 v n xs) (b2 m : Nat) (ys : List Value) (xv : Value) (hx : a.eval x = xv) (hsrc : w.ownsRow b2 69 2 xv m ys) (h1 : ∀ u ∈ ys, u.oneCell' = true) (hb : n + m ≤ 100000) (hbase : base ≤ w.heap.size)
    (h : ∀ ao cap w', Onto w base 69 2 v (n + m) (xs ++ ys) ao cap w' → K (a.put o.dst (.slice ao (n + m) cap)) w') : o.wp Tryz.prog a w K Q := by
  obtain ⟨ao, cap, w', hr, h2⟩ := run_onto_decl o.type w base n v xs hown b2 m ys xv hsrc h1 hb hbase
  unfold Oper.wp execOp
  simp only [ho, resolve, invoke, builtin, Sem.run_bind, Sem.run_pure, Result.andThen_ok, List.map_toArray, List.map_cons, List.map_nil, hs, hx, hr]
  exact h ao cap w' h2
theorem step_onto_decl {ops : Array Oper} {o : Oper} {a : Act} {K : Act → World → Prop} {Q : Exit → Act → World → Prop} {E : Prop} (hgd : o.guard = none) (s x : Operand) (ho : o.op = .call { callee := .builtin .append, args := #[s, x], argTypes := #[23, 23] })
    (w : World) (base n : Nat) (v : Value) (xs : List Value) (hs : a.eval s = v) (hown : w.ownsRow base 69 2 v n xs) (b2 m : Nat) (ys : List Value) (xv : Value) (hx : a.eval x = xv) (hsrc : w.ownsRow b2 69 2 xv m ys) (h1 : ∀ u ∈ ys, u.oneCell' = true) (hb : n + m ≤ 100000) (hbase : base ≤ w.heap.size)
    (h : ∀ ao cap w', Onto w base 69 2 v (n + m) (xs ++ ys) ao cap w' → K (a.put o.dst (.slice ao (n + m) cap)) w') :
    if Region.wanted o (yielded ops a.tmps) = true then Oper.wp Tryz.prog o a w K Q else E := by
  have hw : Region.wanted o (yielded ops a.tmps) = true := by simp [Region.wanted, hgd]
  rw [if_pos hw]
  exact wp_onto_decl s x ho w base n v xs hs hown b2 m ys xv hx hsrc h1 hb hbase h
theorem run_nil_bind (ty : TypeId) (v : Value) (base n : Nat) (xs : List Value) (c : Nat) (w : World) (h : w.ownsRow base 39 10 v n xs) :
    (Builtin.append_ #[24, 24] ty #[v, .slice none 0 c]).run Tryz.prog w = .ok v w := by
  have hu : Tryz.prog.underlying 24 = some (.slice 39) := Tryz.underlying24
  rcases h.2 with ⟨rfl, rfl⟩ | ⟨g, cap, cur, rfl, _, _, hcap, _⟩
  · simp [Builtin.append_, run_underlying hu, Tryz.sizeOf39, Builtin.firstCells, Builtin.lenOf, go_sem]
  · simp [Builtin.append_, run_underlying hu, Tryz.sizeOf39, Builtin.firstCells, Builtin.lenOf, go_sem, hcap]
theorem run_onto_bind (ty : TypeId) (w : World) (base n : Nat) (v : Value) (xs : List Value) (hown : w.ownsRow base 39 10 v n xs) (b2 m : Nat) (ys : List Value) (x : Value) (hx : w.ownsRow b2 39 10 x m ys) (h1 : ∀ u ∈ ys, u.oneCell' = true) (hb : n + m ≤ 100000) (hbase : base ≤ w.heap.size) :
    ∃ ao cap w', (Builtin.append_ #[24, 24] ty #[v, x]).run Tryz.prog w = .ok (.slice ao (n + m) cap) w' ∧ Onto w base 39 10 v (n + m) (xs ++ ys) ao cap w' := by
  obtain ⟨i0, hi, hz0, hz1, hz2⟩ := info_parts Tryz.info_bind
  obtain ⟨hl, ⟨rfl, rfl⟩ | ⟨g, cap, cur, rfl, h2, h3, h4, h5, h6, h7⟩⟩ := id hx
  · have hy : ys = [] := List.length_eq_zero_iff.1 (by simpa using hl)
    subst hy
    obtain ⟨ao, cap, rfl, hlow⟩ := own_shape hown
    exact ⟨ao, cap, w, run_nil_bind ty _ base n xs 0 w hown, by simpa using hown, ⟨rfl, rfl, rfl, Nat.le_refl _, fun _ _ _ => rfl⟩, Or.inl rfl⟩
  · obtain ⟨v', w', hr, q2, q3, _, q5⟩ := run_append_own_at (P := Tryz.prog) w base 24 ty 39 i0 (.agg #[.string ⟨#[]⟩, .slice none 0 0, .int .i64 0, .string ⟨#[]⟩, .bool false, .int .u64 0, .slice none 0 0, .slice none 0 0, .slice none 0 0, .slice none 0 0]) 10 176 Tryz.underlying24 hi hz0 hz1 hz2 rfl (by decide) v n xs hown ⟨g, 0, none⟩ m cap ys hl (own_news hx) h1 (by unfold maxLen; omega) (by omega) hbase
    obtain ⟨ao, c2, rfl, hlow⟩ := own_shape q2
    exact ⟨ao, c2, w', hr, q2, q3, q5⟩
theorem wp_onto_bind {o : Oper} {a : Act} {K : Act → World → Prop} {Q : Exit → Act → World → Prop} (s x : Operand) (ho : o.op = .call { callee := .builtin .append, args := #[s, x], argTypes := #[24, 24] })
    (w : World) (base n : Nat) (v : Value) (xs : List Value) (hs : a.eval s = v) (hown : w.ownsRow base 39 10 v n xs) (b2 m : Nat) (ys : List Value) (xv : Value) (hx : a.eval x = xv) (hsrc : w.ownsRow b2 39 10 xv m ys) (h1 : ∀ u ∈ ys, u.oneCell' = true) (hb : n + m ≤ 100000) (hbase : base ≤ w.heap.size)
    (h : ∀ ao cap w', Onto w base 39 10 v (n + m) (xs ++ ys) ao cap w' → K (a.put o.dst (.slice ao (n + m) cap)) w') : o.wp Tryz.prog a w K Q := by
  obtain ⟨ao, cap, w', hr, h2⟩ := run_onto_bind o.type w base n v xs hown b2 m ys xv hsrc h1 hb hbase
  unfold Oper.wp execOp
  simp only [ho, resolve, invoke, builtin, Sem.run_bind, Sem.run_pure, Result.andThen_ok, List.map_toArray, List.map_cons, List.map_nil, hs, hx, hr]
  exact h ao cap w' h2
theorem step_onto_bind {ops : Array Oper} {o : Oper} {a : Act} {K : Act → World → Prop} {Q : Exit → Act → World → Prop} {E : Prop} (hgd : o.guard = none) (s x : Operand) (ho : o.op = .call { callee := .builtin .append, args := #[s, x], argTypes := #[24, 24] })
    (w : World) (base n : Nat) (v : Value) (xs : List Value) (hs : a.eval s = v) (hown : w.ownsRow base 39 10 v n xs) (b2 m : Nat) (ys : List Value) (xv : Value) (hx : a.eval x = xv) (hsrc : w.ownsRow b2 39 10 xv m ys) (h1 : ∀ u ∈ ys, u.oneCell' = true) (hb : n + m ≤ 100000) (hbase : base ≤ w.heap.size)
    (h : ∀ ao cap w', Onto w base 39 10 v (n + m) (xs ++ ys) ao cap w' → K (a.put o.dst (.slice ao (n + m) cap)) w') :
    if Region.wanted o (yielded ops a.tmps) = true then Oper.wp Tryz.prog o a w K Q else E := by
  have hw : Region.wanted o (yielded ops a.tmps) = true := by simp [Region.wanted, hgd]
  rw [if_pos hw]
  exact wp_onto_bind s x ho w base n v xs hs hown b2 m ys xv hx hsrc h1 hb hbase h
theorem step_wanted {P : Program} {ops : Array Oper} {o : Oper} {a : Act} {w : World} {K : Act → World → Prop} {Q : Exit → Act → World → Prop} {E : Prop} (hg : o.guard = none) (h : Oper.wp P o a w K Q) :
    if Region.wanted o (yielded ops a.tmps) = true then Oper.wp P o a w K Q else E := by
  have hw : Region.wanted o (yielded ops a.tmps) = true := by simp [Region.wanted, hg]
  rw [if_pos hw]
  exact h
theorem boxw_o {W W' : World} {p : Nat} {c : Value} {cs : List Value} {o : Option Nat} (h : BoxW W p (c :: cs)) (hg : W.grownBy W' o) (hp : some p ≠ o) : BoxW W' p (c :: cs) :=
  ⟨fun j v hj => (World.cell?_of_block (hg.block p h.lt hp)).trans (h.1 j v hj), fun j => (World.frozen?_of_block (w := W) (hg.block p h.lt hp)).trans (h.2 j)⟩
theorem own_o {w w' : World} {base : Nat} {e : TypeId} {size : Nat} {v : Value} {n : Nat} {xs : List Value} (h : w.ownsRow base e size v n xs) {o : Option Nat} (hb : w.grownBy w' o) (hn : ∀ g, v.ownBlock = some g → some g ≠ o) : w'.ownsRow base e size v n xs := by
  obtain ⟨h0, h | ⟨g, cap, cur, rfl, h2, h3, h4⟩⟩ := h
  · exact ⟨h0, Or.inl h⟩
  · refine ⟨h0, Or.inr ⟨g, cap, cur, rfl, h2, ?_, h4⟩⟩
    have hg : g < w.heap.size := by
      rcases Nat.lt_or_ge g w.heap.size with h | h
      · exact h
      · rw [Array.getElem?_eq_none h] at h3; cases h3
    rw [hb.block g hg (hn g rfl)]
    exact h3
def Sf {α : Type} (o : Out α) (rest : List Tok) : Prop :=
  match o with
  | .ok _ _ r => ∀ y, y ∈ r → y ∈ rest
  | .bad _ _ => True
theorem Sf.bind {α β : Type} {o : Out α} {f : α → Int → List Tok → Out β} {rest : List Tok} (h : Sf o rest) (hf : ∀ a l r, Sf (f a l r) r) : Sf (o.bind f) rest := by
  cases o with
  | bad e l => trivial
  | ok a l r =>
    have h2 := hf a l r
    show Sf (f a l r) rest
    cases hq : f a l r with
    | bad e l => trivial
    | ok b l2 r2 => rw [hq] at h2; exact fun y hy => h y (h2 y hy)
def Suf {α : Type} (p : Par α) : Prop := ∀ l r, Sf (p l r) r
theorem sf_ok {α : Type} (a : α) (l : Int) (r : List Tok) : Sf (.ok a l r) r := fun _ h => h
theorem sf_refuse {α : Type} (e l : Int) (r : List Tok) (q : List Tok) : Sf (refuseO e l r : Out α) q := by rw [refuseO_eq]; trivial
theorem take_suf : Suf takeO := fun l r => by
  cases r with
  | nil => trivial
  | cons y r => exact fun z hz => List.mem_cons_of_mem _ hz
theorem want_suf (s : Sh) : Suf (wantO s) := fun l r => by
  unfold wantO
  split
  · exact take_suf l r
  · exact sf_refuse _ _ _ _
theorem names_suf : ∀ (r : List Tok) (l : Int) (acc : List Nm), ∀ y, y ∈ (namesO l r acc).2.2 → y ∈ r
  | [], l, acc => fun y hy => hy
  | z :: r, l, acc => by
    unfold namesO
    split
    · exact fun y hy => List.mem_cons_of_mem _ (names_suf r _ _ y hy)
    · exact fun y hy => hy
theorem Sf.mono {α : Type} {o : Out α} {r q : List Tok} (h : Sf o r) (hm : ∀ y, y ∈ r → y ∈ q) : Sf o q := by
  cases o with
  | ok a l r => exact fun y hy => hm y (h y hy)
  | bad e l => trivial
theorem bind_suf {ex : Par Ex} (h : Suf ex) : Suf (bindO ex) := fun l r =>
  (want_suf _ l r).bind fun _ l r => Sf.mono ((want_suf _ _ _).bind fun _ l2 r2 => (h l2 r2).bind fun _ _ _ => sf_ok _ _ _) (names_suf r l [])
theorem more_suf {α : Type} {item : Par α} (h : Suf item) : ∀ (n : Nat) (acc : List α), Suf (moreO item n acc)
  | 0, acc => fun l r => sf_ok _ _ _
  | n + 1, acc => fun l r => by
    unfold moreO
    split
    · exact (take_suf l r).bind fun _ l r => (h l r).bind fun a l2 r2 => more_suf h n _ l2 r2
    · exact sf_ok _ _ _
theorem some_suf {α : Type} {item : Par α} (h : Suf item) : Suf (someO item) := fun l r => (h l r).bind fun _ l r => more_suf h _ _ l r
theorem atom_suf {ex : Par Ex} (h : Suf ex) : Suf (atomO ex) := fun l r => by
  unfold atomO
  split
  · exact (take_suf l r).bind fun t l r => sf_ok _ _ _
  split
  · exact (take_suf l r).bind fun t l r => sf_ok _ _ _
  split
  · exact (take_suf l r).bind fun t l r => sf_ok _ _ _
  split
  · exact (take_suf l r).bind fun t l r => sf_ok _ _ _
  split
  · exact (want_suf _ l r).bind fun _ l r => (h l r).bind fun x l2 r2 => (want_suf _ l2 r2).bind fun _ l3 r3 => sf_ok _ _ _
  · exact sf_refuse _ _ _ _
theorem atoms_suf {ex : Par Ex} (h : Suf ex) : ∀ (n : Nat) (acc : List Ex), Suf (atomsO ex n acc)
  | 0, acc => fun l r => sf_ok _ _ _
  | n + 1, acc => fun l r => by
    unfold atomsO
    split
    · exact (atom_suf h l r).bind fun a l r => atoms_suf h n _ l r
    · exact sf_ok _ _ _
theorem row_suf {ex : Par Ex} (h : Suf ex) : Suf (rowO ex) := fun l r =>
  (atom_suf h l r).bind fun _ l r => (atoms_suf h _ _ l r).bind fun _ _ _ => sf_ok _ _ _
theorem rows_suf {ex : Par Ex} (h : Suf ex) : Suf (rowsO ex) := fun l r =>
  (row_suf h l r).bind fun a l r => by
    split
    · exact (take_suf l r).bind fun t l2 r2 => (row_suf h l2 r2).bind fun b l3 r3 => sf_ok _ _ _
    · exact sf_ok _ _ _
theorem let_suf {ex : Par Ex} (h : Suf ex) : Suf (letO ex) := fun l r =>
  (want_suf _ l r).bind fun _ l r => (some_suf (bind_suf h) l r).bind fun _ l2 r2 => (want_suf _ l2 r2).bind fun _ l3 r3 => (h l3 r3).bind fun _ _ _ => sf_ok _ _ _
theorem alt_suf {ex : Par Ex} (h : Suf ex) : Suf (altO ex) := fun l r => by
  unfold altO
  split
  · exact (take_suf l r).bind fun t l r => Sf.mono ((want_suf _ _ _).bind fun _ l2 r2 => (h l2 r2).bind fun x l3 r3 => sf_ok _ _ _) (names_suf r l [])
  split
  · exact (take_suf l r).bind fun t l r => (want_suf _ l r).bind fun _ l2 r2 => (h l2 r2).bind fun x l3 r3 => sf_ok _ _ _
  · exact (want_suf _ l r).bind fun t l r => (want_suf _ l r).bind fun _ l2 r2 => (h l2 r2).bind fun x l3 r3 => sf_ok _ _ _
theorem case_suf {ex : Par Ex} (h : Suf ex) : Suf (caseO ex) := fun l r =>
  (want_suf _ l r).bind fun _ l r => (h l r).bind fun x l2 r2 => (want_suf _ l2 r2).bind fun _ l3 r3 => (want_suf _ l3 r3).bind fun _ l4 r4 => by
    split
    · exact (want_suf _ l4 r4).bind fun _ l5 r5 => sf_ok _ _ _
    · exact (some_suf (alt_suf h) l4 r4).bind fun xs l5 r5 => (want_suf _ l5 r5).bind fun _ l6 r6 => sf_ok _ _ _
theorem lam_suf {ex : Par Ex} (h : Suf ex) : Suf (lamO ex) := fun l r =>
  (want_suf _ l r).bind fun _ l r => by
    split
    · exact Sf.mono ((want_suf _ _ _).bind fun _ l2 r2 => (h l2 r2).bind fun x l3 r3 => sf_ok _ _ _) (names_suf r l [])
    · exact sf_refuse _ _ _ _
theorem expr_suf : ∀ (n d : Nat), Suf (exprO n d)
  | 0, d => fun l r => trivial
  | n + 1, d => fun l r => by
    unfold exprO
    have h := expr_suf n (d + 1)
    split
    · split
      · exact sf_refuse _ _ _ _
      split
      · exact let_suf h l r
      split
      · exact case_suf h l r
      split
      · exact lam_suf h l r
      · exact rows_suf h l r
    · exact sf_refuse _ _ _ _
def MdV (lo : Nat) (md : Md) (e : Ending) (w : World) : Prop :=
  ∃ vc vb xb, e = .returned (.agg #[vc, vb]) ∧ w.ownsRow lo 69 2 vc md.1.length (declV md.1) ∧ w.ownsRow lo 39 10 vb md.2.length xb ∧ BndsAt w (fun g => lo ≤ g) md.2 xb
structure MdI (w : World) (b me ma : Nat) (N : Nat) (wr : World) (l : Int) (r : List Tok) (cs : List (Nm × Int)) (bs : List Bnd) (vc vb : Value) (xb : List Value) : Prop where
  R : Rdr wr b me ma l r 0
  g : w.grownBy wr (some b)
  n : cs.length + bs.length + r.length ≤ N
  x : ∀ y, y ∈ r → 0 ≤ y.1.x
  p : BoxW wr w.heap.size [.slice none 0 0, .slice none 0 0]
  q : BoxW wr (w.heap.size + 1) [vc, vb]
  oc : wr.ownsRow (w.heap.size + 2) 69 2 vc cs.length (declV cs)
  ob : wr.ownsRow (w.heap.size + 2) 39 10 vb bs.length xb
  bt : BndsAt wr (fun g => w.heap.size + 2 ≤ g ∧ some g ≠ vc.ownBlock ∧ some g ≠ vb.ownBlock) bs xb
  ne : ∀ g, vc.ownBlock = some g → vb.ownBlock ≠ some g
theorem MdI.grown {w wr w' : World} {b me ma N : Nat} {l l' : Int} {r r' : List Tok} {cs : List (Nm × Int)} {bs : List Bnd} {vc vb : Value} {xb : List Value} (h : MdI w b me ma N wr l r cs bs vc vb xb) (hb : b < w.heap.size) (hg : wr.grownBy w' (some b)) (hR : Rdr w' b me ma l' r' 0) (hl : r'.length ≤ r.length) (hx : ∀ y, y ∈ r' → y ∈ r) : MdI w b me ma N w' l' r' cs bs vc vb xb :=
  ⟨hR, Gt h.g hg, by have := h.n; omega, fun y hy => h.x y (hx y hy), boxw_grown h.p hg (by omega), boxw_grown h.q hg (by omega),
   own_o h.oc hg (fun g e e2 => by have := (h.oc.lt g e).1; have := Oi e2; omega), own_o h.ob hg (fun g e e2 => by have := (h.ob.lt g e).1; have := Oi e2; omega),
   h.bt.move (fun g hk lt => ⟨hk, hg.block g lt (by have := hk.1; simp; omega)⟩), h.ne⟩
theorem MdI.bind {w w5 w9 : World} {b me ma N : Nat} {l : Int} {r : List Tok} {cs : List (Nm × Int)} {bs : List Bnd} {vc vb : Value} {xb ya : List Value} {a : Bnd} {ao : Option Addr} {cap lo2 : Nat} (h : MdI w b me ma N w5 l r cs bs vc vb xb) (hb : b < w.heap.size) (h9 : Onto w5 (w.heap.size + 2) 39 10 vb (bs.length + 1) (xb ++ ya) ao cap w9) (hn : cs.length + bs.length + 1 + r.length ≤ N)
    (hlo : w.heap.size + 2 ≤ lo2) (ha : BndsAt w5 (fun g => lo2 ≤ g) [a] ya) (hvc : ∀ g, vc.ownBlock = some g → g < lo2) (hvb : ∀ g, vb.ownBlock = some g → g < lo2) :
    MdI w b me ma N (w9.setCell ⟨w.heap.size + 1, 1, none⟩ (.slice ao (bs.length + 1) cap)) l r cs (bs ++ [a]) vc (.slice ao (bs.length + 1) cap) (xb ++ ya) := by
  obtain ⟨h1, h2, h3⟩ := h9
  have hq5 := h.q.lt
  have lo : ∀ g, vb.ownBlock = some g → w.heap.size + 2 ≤ g := fun g e => (h.ob.lt g e).1
  have lb : ∀ g, vc.ownBlock = some g → w.heap.size + 2 ≤ g ∧ g < w5.heap.size := fun g e => h.oc.lt g e
  have lx : ∀ g, (Value.slice ao (bs.length + 1) cap).ownBlock = some g → w.heap.size + 2 ≤ g := fun g e => (h1.lt g e).1
  have hgs := set_grown w9 (w.heap.size + 1) 1 (.slice ao (bs.length + 1) cap)
  obtain ⟨q, hq, hg⟩ := grown_some (b := b) h2 (fun g e => by have := lo g e; omega)
  refine ⟨(h.R.past hg hq).over (by omega) _, grown_new (grown_past h.g h2 (fun g e => by have := lo g e; omega)) (by omega) _, by simp; omega, h.x, ?_, ?_, ?_, ?_, ?_, ?_⟩
  · exact boxw_o (boxw_o h.p h2 (fun e => by have := lo _ e.symm; omega)) hgs (fun e => by have := Oi e; omega)
  · exact (boxw_o h.q h2 (fun e => by have := lo _ e.symm; omega)).set 1 (show 1 < 2 by decide) _
  · exact own_o (own_o h.oc h2 (fun g e e2 => h.ne g e e2.symm)) hgs (fun g e e2 => by have := (lb g e).1; have := Oi e2; omega)
  · rw [List.length_append]
    exact own_o h1 hgs (fun g e e2 => by have := lx g e; have := Oi e2; omega)
  · have far : ∀ g, w.heap.size + 2 ≤ g → g < w5.heap.size → some g ≠ vc.ownBlock → some g ≠ vb.ownBlock → (w.heap.size + 2 ≤ g ∧ some g ≠ vc.ownBlock ∧ some g ≠ (Value.slice ao (bs.length + 1) cap).ownBlock) ∧ (w9.setCell ⟨w.heap.size + 1, 1, none⟩ (.slice ao (bs.length + 1) cap)).heap[g]? = w5.heap[g]? := by
      intro g k1 lt k2 k3
      refine ⟨⟨k1, k2, ?_⟩, (hgs.block g (Nat.lt_of_lt_of_le lt h2.size) (fun e => by have := Oi e; omega)).trans (h2.block g lt k3)⟩
      rcases h3 with h3 | h3
      · rw [h3]; exact k3
      · rw [h3]; intro e; have := Oi e; omega
    have hold := h.bt.move (K' := fun g => w.heap.size + 2 ≤ g ∧ some g ≠ vc.ownBlock ∧ some g ≠ (Value.slice ao (bs.length + 1) cap).ownBlock) (fun g hk lt => far g hk.1 lt hk.2.1 hk.2.2)
    have hnew := ha.move (K' := fun g => w.heap.size + 2 ≤ g ∧ some g ≠ vc.ownBlock ∧ some g ≠ (Value.slice ao (bs.length + 1) cap).ownBlock) (fun g hk lt => far g (by omega) lt (fun e => by have := hvc g e.symm; omega) (fun e => by have := hvb g e.symm; omega))
    cases hnew with
    | cons n ps e _ v0 c0 x0 hp he tl =>
      cases tl
      rw [List.append_nil]
      exact hold.snoc (x := (n, ps, e)) hp he
  · intro g e e2
    rcases h3 with h3 | h3
    · exact h.ne g e (h3.symm.trans e2)
    · have := Oi (h3.symm.trans e2)
      have := (lb g e).2
      omega
theorem own_at {w : World} {base : Nat} {e : TypeId} {size : Nat} {a : Option Addr} {n c : Nat} {xs : List Value} (h : w.ownsRow base e size (.slice a n c) n xs) (hn : 0 < n) : ∃ g, a = some ⟨g, 0, none⟩ ∧ n ≤ c ∧ ∀ j u, xs[j]? = some u → w.cell? ⟨g, j, none⟩ = some u := by
  rcases id h.2 with ⟨e, e2⟩ | ⟨g, cap, cur, e, hg, hb, h1, h2, -⟩
  · omega
  · cases e
    refine ⟨g, rfl, h1, fun j u hj => ?_⟩
    have hadd : (⟨g, 0, none⟩ : Addr).add j = ⟨g, j, none⟩ := by unfold Addr.add; split <;> simp_all
    rw [← hadd]
    exact own_news h j u hj
theorem namesV_at {l : List Nm} {j : Nat} (hj : j < l.length) : (namesV l)[j]? = some (.string (tx l[j])) := by simp [namesV, hj]
theorem shift_at (n i j : Nat) (c x : List Value) (hc : c.length = n) : (c ++ x)[(j + 1) * n + i]? = x[j * n + i]? := by
  have h : (j + 1) * n = j * n + n := Nat.succ_mul j n
  rw [List.getElem?_append_right (by omega), hc, h]
  congr 1
  omega
theorem ExsAt.at {W : World} {K : Nat → Prop} : ∀ {bs : List Ex} {xs : List Value}, ExsAt W K bs xs → ∀ j (hj : j < bs.length), ∃ k nm f u vp vk vb va, ExAt W K bs[j] [.int .i64 k, .string nm, .bool f, .int .u64 u, vp, vk, vb, va] ∧ xs[j * 8 + 0]? = some (.int .i64 k) ∧ xs[j * 8 + 1]? = some (.string nm) ∧ xs[j * 8 + 2]? = some (.bool f) ∧ xs[j * 8 + 3]? = some (.int .u64 u) ∧ xs[j * 8 + 4]? = some vp ∧ xs[j * 8 + 5]? = some vk ∧ xs[j * 8 + 6]? = some vb ∧ xs[j * 8 + 7]? = some va
  | _ :: _, _, .cons e es cs xs h t, 0, _ => by
    cases h with
    | mk k n f x ps ks bs al vp vk vb va xk xb xa hp hk hb ha tk tb ta => exact ⟨k, _, f, x, vp, vk, vb, va, .mk k n f x ps ks bs al vp vk vb va xk xb xa hp hk hb ha tk tb ta, rfl, rfl, rfl, rfl, rfl, rfl, rfl, rfl⟩
  | _ :: es, _, .cons e _ cs xs h t, j + 1, hj => by
    have hc : cs.length = 8 := by cases h; rfl
    obtain ⟨k, nm, f, u, vp, vk, vb, va, h1, q0, q1, q2, q3, q4, q5, q6, q7⟩ := t.at j (by simpa using hj)
    exact ⟨k, nm, f, u, vp, vk, vb, va, h1, (shift_at 8 0 j cs xs hc).trans q0, (shift_at 8 1 j cs xs hc).trans q1, (shift_at 8 2 j cs xs hc).trans q2, (shift_at 8 3 j cs xs hc).trans q3, (shift_at 8 4 j cs xs hc).trans q4, (shift_at 8 5 j cs xs hc).trans q5, (shift_at 8 6 j cs xs hc).trans q6, (shift_at 8 7 j cs xs hc).trans q7⟩
theorem BndsAt.at {W : World} {K : Nat → Prop} : ∀ {bs : List Bnd} {xs : List Value}, BndsAt W K bs xs → ∀ j (hj : j < bs.length), ∃ vq k nm f u vp vk vb va, RowAt W K 9 1 vq bs[j].2.1.length (namesV bs[j].2.1) ∧ ExAt W K bs[j].2.2 [.int .i64 k, .string nm, .bool f, .int .u64 u, vp, vk, vb, va] ∧ xs[j * 10 + 0]? = some (.string (tx bs[j].1)) ∧ xs[j * 10 + 1]? = some vq ∧ xs[j * 10 + 2]? = some (.int .i64 k) ∧ xs[j * 10 + 3]? = some (.string nm) ∧ xs[j * 10 + 4]? = some (.bool f) ∧ xs[j * 10 + 5]? = some (.int .u64 u) ∧ xs[j * 10 + 6]? = some vp ∧ xs[j * 10 + 7]? = some vk ∧ xs[j * 10 + 8]? = some vb ∧ xs[j * 10 + 9]? = some va
  | _ :: _, _, .cons n0 p0 e es vq cs xs hr h t, 0, _ => by
    cases h with
    | mk k n f x ps ks bs al vp vk vb va xk xb xa hp hk hb ha tk tb ta => exact ⟨vq, k, _, f, x, vp, vk, vb, va, hr, .mk k n f x ps ks bs al vp vk vb va xk xb xa hp hk hb ha tk tb ta, rfl, rfl, rfl, rfl, rfl, rfl, rfl, rfl, rfl, rfl⟩
  | _ :: es, _, .cons n0 p0 e _ vq cs xs hr h t, j + 1, hj => by
    have hc : (.string (tx n0) :: vq :: cs).length = 10 := by cases h; rfl
    obtain ⟨vq', k, nm, f, u, vp, vk, vb, va, h0, h1, q0, q1, q2, q3, q4, q5, q6, q7, q8, q9⟩ := t.at j (by simpa using hj)
    have s := fun i => shift_at 10 i j (.string (tx n0) :: vq :: cs) xs hc
    exact ⟨vq', k, nm, f, u, vp, vk, vb, va, h0, h1, (s 0).trans q0, (s 1).trans q1, (s 2).trans q2, (s 3).trans q3, (s 4).trans q4, (s 5).trans q5, (s 6).trans q6, (s 7).trans q7, (s 8).trans q8, (s 9).trans q9⟩
theorem AltsAt.at {W : World} {K : Nat → Prop} : ∀ {bs : List Alt} {xs : List Value}, AltsAt W K bs xs → ∀ j (hj : j < bs.length), ∃ vq k nm f u vp vk vb va, RowAt W K 9 1 vq bs[j].2.2.2.2.1.length (namesV bs[j].2.2.2.2.1) ∧ ExAt W K bs[j].2.2.2.2.2 [.int .i64 k, .string nm, .bool f, .int .u64 u, vp, vk, vb, va] ∧ xs[j * 13 + 0]? = some (.int .i64 bs[j].1) ∧ xs[j * 13 + 1]? = some (.string (tx bs[j].2.1)) ∧ xs[j * 13 + 2]? = some (.bool bs[j].2.2.1) ∧ xs[j * 13 + 3]? = some (.int .u64 bs[j].2.2.2.1) ∧ xs[j * 13 + 4]? = some vq ∧ xs[j * 13 + 5]? = some (.int .i64 k) ∧ xs[j * 13 + 6]? = some (.string nm) ∧ xs[j * 13 + 7]? = some (.bool f) ∧ xs[j * 13 + 8]? = some (.int .u64 u) ∧ xs[j * 13 + 9]? = some vp ∧ xs[j * 13 + 10]? = some vk ∧ xs[j * 13 + 11]? = some vb ∧ xs[j * 13 + 12]? = some va
  | _ :: _, _, .cons k0 n0 f0 x0 p0 e es vq cs xs hr h t, 0, _ => by
    cases h with
    | mk k n f x ps ks bs al vp vk vb va xk xb xa hp hk hb ha tk tb ta => exact ⟨vq, k, _, f, x, vp, vk, vb, va, hr, .mk k n f x ps ks bs al vp vk vb va xk xb xa hp hk hb ha tk tb ta, rfl, rfl, rfl, rfl, rfl, rfl, rfl, rfl, rfl, rfl, rfl, rfl, rfl⟩
  | _ :: es, _, .cons k0 n0 f0 x0 p0 e _ vq cs xs hr h t, j + 1, hj => by
    have hc : (.int .i64 k0 :: .string (tx n0) :: .bool f0 :: .int .u64 x0 :: vq :: cs).length = 13 := by cases h; rfl
    obtain ⟨vq', k, nm, f, u, vp, vk, vb, va, h0, h1, q0, q1, q2, q3, q4, q5, q6, q7, q8, q9, q10, q11, q12⟩ := t.at j (by simpa using hj)
    have s := fun i => shift_at 13 i j (.int .i64 k0 :: .string (tx n0) :: .bool f0 :: .int .u64 x0 :: vq :: cs) xs hc
    exact ⟨vq', k, nm, f, u, vp, vk, vb, va, h0, h1, (s 0).trans q0, (s 1).trans q1, (s 2).trans q2, (s 3).trans q3, (s 4).trans q4, (s 5).trans q5, (s 6).trans q6, (s 7).trans q7, (s 8).trans q8, (s 9).trans q9, (s 10).trans q10, (s 11).trans q11, (s 12).trans q12⟩
theorem RowAt.below {W W' : World} {K : Nat → Prop} {e : TypeId} {size : Nat} {v : Value} {n : Nat} {xs : List Value} (h : RowAt W K e size v n xs) (hb : Below W.heap.size W W') : RowAt W' K e size v n xs := h.move fun g hk lt => ⟨hk, hb.block g lt⟩
theorem ExAt.form {W : World} {K : Nat → Prop} {x : Ex} {k n f u vp vk vb va : Value} (h : ExAt W K x [k, n, f, u, vp, vk, vb, va]) : ∃ k' nm f' u' ap np cp ak nk ck ab nb cb aa na ca, k = .int .i64 k' ∧ n = .string (tx nm) ∧ f = .bool f' ∧ u = .int .u64 u' ∧ vp = .slice ap np cp ∧ vk = .slice ak nk ck ∧ vb = .slice ab nb cb ∧ va = .slice aa na ca := by
  cases h with
  | mk k n f x ps ks bs al vp vk vb va xk xb xa hp hk hb ha tk tb ta =>
    obtain ⟨ap, cp, rfl⟩ := hp.sl
    obtain ⟨ak, ck, rfl⟩ := hk.sl
    obtain ⟨ab, cb, rfl⟩ := hb.sl
    obtain ⟨aa, ca, rfl⟩ := ha.sl
    exact ⟨k, n, f, x, ap, _, cp, ak, _, ck, ab, _, cb, aa, _, ca, rfl, rfl, rfl, rfl, rfl, rfl, rfl, rfl⟩
theorem ExsAt.cells {W : World} {K : Nat → Prop} {l : List Ex} {xs : List Value} (h : ExsAt W K l xs) (j : Nat) (hj : j < l.length) : ∃ k nm f u ap np cp ak nk ck ab nb cb aa na ca, ExAt W K l[j] [.int .i64 k, .string (tx nm), .bool f, .int .u64 u, .slice ap np cp, .slice ak nk ck, .slice ab nb cb, .slice aa na ca] ∧
    ∀ i v, [Value.int .i64 k, .string (tx nm), .bool f, .int .u64 u, .slice ap np cp, .slice ak nk ck, .slice ab nb cb, .slice aa na ca][i]? = some v → xs[j * 8 + i]? = some v := by
  obtain ⟨k, nm, f, u, vp, vk, vb, va, h1, z0, z1, z2, z3, z4, z5, z6, z7⟩ := h.at j hj
  obtain ⟨k', nm', f', u', ap, np, cp, ak, nk, ck, ab, nb, cb, aa, na, ca, e0, e1, e2, e3, rfl, rfl, rfl, rfl⟩ := h1.form
  cases e0; cases e1; cases e2; cases e3
  refine ⟨k, nm', f, u, ap, np, cp, ak, nk, ck, ab, nb, cb, aa, na, ca, h1, fun i v hi => ?_⟩
  match i, hi with
  | 0, hi => cases hi; exact z0
  | 1, hi => cases hi; exact z1
  | 2, hi => cases hi; exact z2
  | 3, hi => cases hi; exact z3
  | 4, hi => cases hi; exact z4
  | 5, hi => cases hi; exact z5
  | 6, hi => cases hi; exact z6
  | 7, hi => cases hi; exact z7
theorem BndsAt.cells {W : World} {K : Nat → Prop} {l : List Bnd} {xs : List Value} (h : BndsAt W K l xs) (j : Nat) (hj : j < l.length) : ∃ aq cq k nm f u ap np cp ak nk ck ab nb cb aa na ca, RowAt W K 9 1 (.slice aq l[j].2.1.length cq) l[j].2.1.length (namesV l[j].2.1) ∧ ExAt W K l[j].2.2 [.int .i64 k, .string (tx nm), .bool f, .int .u64 u, .slice ap np cp, .slice ak nk ck, .slice ab nb cb, .slice aa na ca] ∧
    ∀ i v, [Value.string (tx l[j].1), .slice aq l[j].2.1.length cq, .int .i64 k, .string (tx nm), .bool f, .int .u64 u, .slice ap np cp, .slice ak nk ck, .slice ab nb cb, .slice aa na ca][i]? = some v → xs[j * 10 + i]? = some v := by
  obtain ⟨vq, k, nm, f, u, vp, vk, vb, va, h0, h1, z0, z1, z2, z3, z4, z5, z6, z7, z8, z9⟩ := h.at j hj
  obtain ⟨k', nm', f', u', ap, np, cp, ak, nk, ck, ab, nb, cb, aa, na, ca, e0, e1, e2, e3, rfl, rfl, rfl, rfl⟩ := h1.form
  cases e0; cases e1; cases e2; cases e3
  obtain ⟨aq, cq, rfl⟩ := h0.sl
  refine ⟨aq, cq, k, nm', f, u, ap, np, cp, ak, nk, ck, ab, nb, cb, aa, na, ca, h0, h1, fun i v hi => ?_⟩
  match i, hi with
  | 0, hi => cases hi; exact z0
  | 1, hi => cases hi; exact z1
  | 2, hi => cases hi; exact z2
  | 3, hi => cases hi; exact z3
  | 4, hi => cases hi; exact z4
  | 5, hi => cases hi; exact z5
  | 6, hi => cases hi; exact z6
  | 7, hi => cases hi; exact z7
  | 8, hi => cases hi; exact z8
  | 9, hi => cases hi; exact z9
theorem AltsAt.cells {W : World} {K : Nat → Prop} {l : List Alt} {xs : List Value} (h : AltsAt W K l xs) (j : Nat) (hj : j < l.length) : ∃ aq cq k nm f u ap np cp ak nk ck ab nb cb aa na ca, RowAt W K 9 1 (.slice aq l[j].2.2.2.2.1.length cq) l[j].2.2.2.2.1.length (namesV l[j].2.2.2.2.1) ∧ ExAt W K l[j].2.2.2.2.2 [.int .i64 k, .string (tx nm), .bool f, .int .u64 u, .slice ap np cp, .slice ak nk ck, .slice ab nb cb, .slice aa na ca] ∧
    ∀ i v, [Value.int .i64 l[j].1, .string (tx l[j].2.1), .bool l[j].2.2.1, .int .u64 l[j].2.2.2.1, .slice aq l[j].2.2.2.2.1.length cq, .int .i64 k, .string (tx nm), .bool f, .int .u64 u, .slice ap np cp, .slice ak nk ck, .slice ab nb cb, .slice aa na ca][i]? = some v → xs[j * 13 + i]? = some v := by
  obtain ⟨vq, k, nm, f, u, vp, vk, vb, va, h0, h1, z0, z1, z2, z3, z4, z5, z6, z7, z8, z9, z10, z11, z12⟩ := h.at j hj
  obtain ⟨k', nm', f', u', ap, np, cp, ak, nk, ck, ab, nb, cb, aa, na, ca, e0, e1, e2, e3, rfl, rfl, rfl, rfl⟩ := h1.form
  cases e0; cases e1; cases e2; cases e3
  obtain ⟨aq, cq, rfl⟩ := h0.sl
  refine ⟨aq, cq, k, nm', f, u, ap, np, cp, ak, nk, ck, ab, nb, cb, aa, na, ca, h0, h1, fun i v hi => ?_⟩
  match i, hi with
  | 0, hi => cases hi; exact z0
  | 1, hi => cases hi; exact z1
  | 2, hi => cases hi; exact z2
  | 3, hi => cases hi; exact z3
  | 4, hi => cases hi; exact z4
  | 5, hi => cases hi; exact z5
  | 6, hi => cases hi; exact z6
  | 7, hi => cases hi; exact z7
  | 8, hi => cases hi; exact z8
  | 9, hi => cases hi; exact z9
  | 10, hi => cases hi; exact z10
  | 11, hi => cases hi; exact z11
  | 12, hi => cases hi; exact z12
theorem tx_list' (l : List UInt8) : (tx l).data.toList = l := by simp [tx]
theorem tx_app (a b : List UInt8) : tx a ++ tx b = tx (a ++ b) := by
  simp [tx, ByteArray.ext_iff]
theorem words_step (f : List UInt8) (o : List (List UInt8)) {j : Nat} (h : j < o.length) : wordsL f (o.take (j + 1)) = wordsL f (o.take j) ++ (32 :: o[j]) := by
  unfold wordsL
  rw [List.take_succ_eq_append_getElem h, List.flatMap_append, List.append_assoc]
  simp
theorem tx_size (l : List UInt8) : (tx l).size = l.length := by simp [tx, ByteArray.size]
theorem words_any (f : List UInt8) (o : List (List UInt8)) (a : Option Addr) (c : Nat) (K : Nat → Prop) (w : World) (hr : RowAt w K 9 1 (.slice a o.length c) o.length (namesV o)) (hlen : (wordsL f o).length ≤ 140737488355328) :
    Calls Tryz.prog 24 #[.string (tx f), .slice a o.length c] w fun e w' => e = .returned (.string (tx (wordsL f o))) ∧ Below w.heap.size w w' := by
  have hx := (Below.refl w.heap.size w).alloc Nr (.cells #[.pointer none, .slice none 0 0] TB)
  have hfl := words_fst f o
  have HW := Hd (ws_any w.heap.size w.heap.size [] (tx f) (w.alloc (.cells #[.pointer none, .slice none 0 0] TB)) (Lib.fresh_isBuilder TB 5 w) (by rw [tx_size]; simp only [List.length_nil]; omega) hx.size)
  have HO := Hd hr
  have HX := Hd hx
  have HL := Hd hlen
  have hmx := hr.cap
  unfold maxLen at hmx
  clear hx hr hlen
  go_enter Tryz.func24, Tryz.ntmps24
  go_wp2_with fail
  refine HW.out.mono ?_
  rintro e w1 ⟨rfl, hB, hb⟩
  have H1 := Hd (Ai (show Lib.BuilderAt TB 5 w.heap.size w.heap.size (.pointer (some ⟨w.heap.size, 0, none⟩)) (Lib.byteCells (wordsL f (o.take 0))) w1 by rw [List.take_zero]; simpa [wordsL, Lib.strCells_eq, tx_list'] using hB) (HX.out.trans hb))
  clear hB hb HW
  go_wp2_with fail
  go_loopw [12] (fun s wr => ∃ j : Nat, j ≤ o.length ∧ s = .int .i64 j ∧ Lib.BuilderAt TB 5 w.heap.size w.heap.size (.pointer (some ⟨w.heap.size, 0, none⟩)) (Lib.byteCells (wordsL f (o.take j))) wr ∧ Below w.heap.size w wr) (fun s _ => o.length - (RowKit.intOf s).toNat)
  case atStart => exact ⟨0, Nat.zero_le _, rfl, H1.out.1, H1.out.2⟩
  case round =>
    obtain ⟨j, hj, rfl, hB, hbr⟩ := hrel
    have HR := Hd (Ai hB hbr)
    clear hB hbr
    by_cases gj : j < o.length
    · have gj' : (j : Int) < (o.length : Int) := by omega
      obtain ⟨g1, o1, ea1, k1, m1', -, ht1⟩ := HO.out.at (by omega)
      subst ea1
      have p0 := later' HR.out.2 (ht1 j _ (namesV_at gj))
      have HS := Hd (words_step f o gj)
      have hl2 := words_take f o (j + 1)
      rw [words_step f o gj] at hl2
      have hl3 := HL.out
      clear ht1
      generalize o[j] = tk at *
      simp only [List.length_append, List.length_cons] at hl2
      have hsz : (⟨#[32]⟩ ++ tx tk : ByteArray).size = tk.length + 1 := by rw [show (⟨#[32]⟩ : ByteArray) = tx [32] from rfl, tx_app, tx_size]; simp
      have HW := Hd (ws_any w.heap.size w.heap.size (Lib.byteCells (wordsL f (o.take j))) (⟨#[32]⟩ ++ tx tk) wr (Or.inr HR.out.1) (by rw [hsz, Lib.byteCells_length]; omega) HR.out.2.size)
      have hl4 : (tx tk).size ≤ 140737488355328 := by rw [tx_size]; omega
      clear hl2 hl3
      have HE := Hd (show Lib.byteCells (wordsL f (o.take j)) ++ Lib.strCells (⟨#[32]⟩ ++ tx tk) = Lib.byteCells (wordsL f (o.take (j + 1))) by rw [HS.out, Lib.byteCells_append, Lib.strCells_eq, show (⟨#[32]⟩ : ByteArray) = tx [32] from rfl, tx_app, tx_list']; rfl)
      have ej : IntKind.i64.wrap ((j : Int) + 1) = (j : Int) + 1 := by rw [IntKind.wrap_i64]; omega
      have b0 : (0 : Int) ≤ (j : Int) := by omega
      go_wp2_with fail
      refine HW.out.mono ?_
      rintro e w2 ⟨rfl, hB2, hb2⟩
      rw [HE.out] at hB2
      have H2 := Hd (Ai hB2 (HR.out.2.trans hb2))
      clear hB2 hb2 HW
      go_wp2_with fail
      exact ⟨⟨j + 1, by omega, by go_num, H2.out.1, H2.out.2⟩, by simp [RowKit.intOf]; omega⟩
    · obtain rfl : j = o.length := by omega
      rw [List.take_length] at HR
      have HT := Hd (Tryz.Builder_String_any w.heap.size w.heap.size (wordsL f o) wr (Or.inr HR.out.1) HR.out.2.size)
      go_wp2_with fail
      refine HT.out.mono ?_
      rintro e w2 ⟨rfl, hb2⟩
      have H2 := Hd (HR.out.2.trans hb2)
      clear hb2 HT
      go_wp2_with fail
      go_ret
      exact ⟨rfl, H2.out⟩
end Go.Proofs.YthehgcmhcioffaaGreatDoor
