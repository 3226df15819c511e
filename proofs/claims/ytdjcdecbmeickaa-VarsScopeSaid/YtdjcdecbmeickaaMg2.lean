import Derived.Shelf.Abstract
import Derived.Test.YtdjcdecbmeickaaMg1
namespace Go.Proofs.Ytdjcdecbmeickaa
set_option maxHeartbeats 64000000
set_option maxRecDepth 100000
open Go.RowKit Go.Lib
def RowAt (W : World) (K : Nat → Prop) (_e : TypeId) (size : Nat) (v : Value) (n : Nat) (xs : List Value) : Prop :=
  xs.length = n * size ∧ ((v = .slice none 0 0 ∧ n = 0) ∨ ∃ g o c cur, v = .slice (some ⟨g, o, none⟩) n c ∧ K g ∧ W.heap[g]? = some (cur : Obj) ∧ n ≤ c ∧ c ≤ maxLen ∧ ∀ j u, xs[j]? = some u → W.cell? ⟨g, o + j, none⟩ = some u)
theorem RowAt.move {W W' : World} {K K' : Nat → Prop} (hK : ∀ g, K g → g < W.heap.size → K' g ∧ W'.heap[g]? = W.heap[g]?) {e : TypeId} {size : Nat} {v : Value} {n : Nat} {xs : List Value} (h : RowAt W K e size v n xs) : RowAt W' K' e size v n xs := by
  obtain ⟨h0, ⟨rfl, rfl⟩ | ⟨g, o, c, cur, rfl, hk, hc, h1, h2, h3⟩⟩ := h
  · exact ⟨h0, Or.inl ⟨rfl, rfl⟩⟩
  · have lt : g < W.heap.size := by
      rcases Nat.lt_or_ge g W.heap.size with h' | h'
      · exact h'
      · rw [Array.getElem?_eq_none h'] at hc; cases hc
    obtain ⟨k1, k2⟩ := hK g hk lt
    exact ⟨h0, Or.inr ⟨g, o, c, cur, rfl, k1, k2.trans hc, h1, h2, fun j u hj => (World.cell?_of_block (a := ⟨g, o + j, none⟩) k2).trans (h3 j u hj)⟩⟩
theorem RowAt.of {W : World} {base : Nat} {K : Nat → Prop} {e : TypeId} {size : Nat} {v : Value} {n : Nat} {xs : List Value} (h : W.ownsRow base e size v n xs) (hk : ∀ g, base ≤ g → K g) : RowAt W K e size v n xs := by
  obtain ⟨h0, ⟨rfl, rfl⟩ | ⟨g, cap, cur, rfl, hb, hc, h1, h2, -, h4⟩⟩ := h
  · exact ⟨h0, Or.inl ⟨rfl, rfl⟩⟩
  · refine ⟨h0, Or.inr ⟨g, 0, cap, _, rfl, hk g hb, hc, h1, h2, fun j u hj => ?_⟩⟩
    rw [Nat.zero_add, cell_of_row W g j cur e (0, 0) hc]
    rw [← h4] at hj
    have := List.getElem?_take (l := cur.toList) (i := n * size) (j := j)
    rw [hj] at this
    split at this
    · simpa using this.symm
    · cases this
theorem RowAt.nil (W : World) (K : Nat → Prop) (e : TypeId) (size : Nat) : RowAt W K e size (.slice none 0 0) 0 [] := ⟨by simp, Or.inl ⟨rfl, rfl⟩⟩
theorem RowAt.sl {W : World} {K : Nat → Prop} {e : TypeId} {size : Nat} {v : Value} {n : Nat} {xs : List Value} (h : RowAt W K e size v n xs) : ∃ a c, v = .slice a n c := by
  obtain ⟨_, ⟨rfl, rfl⟩ | ⟨g, o, c, cur, rfl, -⟩⟩ := h
  · exact ⟨_, _, rfl⟩
  · exact ⟨_, _, rfl⟩
theorem RowAt.slice {W : World} {K : Nat → Prop} {e : TypeId} {size : Nat} {v : Value} {n : Nat} {xs : List Value} (h : RowAt W K e size v n xs) : ∃ a n c, v = .slice a n c := by
  obtain ⟨a, c, h⟩ := h.sl
  exact ⟨a, n, c, h⟩
theorem RowAt.cap {W : World} {K : Nat → Prop} {e : TypeId} {size : Nat} {v : Value} {n : Nat} {xs : List Value} (h : RowAt W K e size v n xs) : n ≤ maxLen := by
  obtain ⟨_, ⟨rfl, rfl⟩ | ⟨g, o, c, cur, rfl, -, -, h1, h2, -⟩⟩ := h
  · exact Nat.zero_le _
  · omega
theorem RowAt.at {W : World} {K : Nat → Prop} {e : TypeId} {size : Nat} {a : Option Addr} {n c : Nat} {xs : List Value} (h : RowAt W K e size (.slice a n c) n xs) (hn : 0 < n) : ∃ g o, a = some ⟨g, o, none⟩ ∧ n ≤ c ∧ c ≤ maxLen ∧ K g ∧ ∀ j u, xs[j]? = some u → W.cell? ⟨g, o + j, none⟩ = some u := by
  obtain ⟨_, ⟨e, rfl⟩ | ⟨g, o, c', cur, e, hk, -, h1, h2, h3⟩⟩ := h
  · omega
  · cases e
    exact ⟨g, o, rfl, h1, h2, hk, h3⟩
theorem RowAt.tail {W : World} {K : Nat → Prop} {e : TypeId} {size n g o c : Nat} {cs xs : List Value} (h : RowAt W K e size (.slice (some ⟨g, o, none⟩) (n + 1) c) (n + 1) (cs ++ xs)) (hs : cs.length = size) {o' : Nat} (ho : n = 0 ∨ o' = o + size) : RowAt W K e size (.slice (some ⟨g, o', none⟩) n (c - 1)) n xs := by
  obtain ⟨h0, ⟨e, h⟩ | ⟨g', o2, c', cur, e, hk, hc, h1, h2, h3⟩⟩ := h
  · omega
  · cases e
    have hx : xs.length = n * size := by
      rw [List.length_append, Nat.succ_mul] at h0
      omega
    refine ⟨hx, Or.inr ⟨g, o', c - 1, cur, rfl, hk, hc, by omega, by omega, fun j u hj => ?_⟩⟩
    rcases ho with rfl | rfl
    · rw [Nat.zero_mul] at hx
      cases xs with
      | nil => cases hj
      | cons x xs => simp at hx
    · have := h3 (size + j) u (by rw [List.getElem?_append_right (by omega), hs, Nat.add_sub_cancel_left]; exact hj)
      rwa [← Nat.add_assoc] at this
def namesV (l : List Nm) : List Value := l.map fun x => .string (tx x)
mutual
inductive ExAt (W : World) (K : Nat → Prop) : Ex → List Value → Prop
  | mk (k : Int) (n : Nm) (f : Bool) (x : Int) (ps : List Nm) (ks : List Ex) (bs : List Bnd) (al : List Alt) (vp vk vb va : Value) (xk xb xa : List Value)
    (hp : RowAt W K 9 1 vp ps.length (namesV ps)) (hk : RowAt W K 34 8 vk ks.length xk) (hb : RowAt W K 36 10 vb bs.length xb) (ha : RowAt W K 51 13 va al.length xa)
    (tk : ExsAt W K ks xk) (tb : BndsAt W K bs xb) (ta : AltsAt W K al xa) : ExAt W K (.mk k n f x ps ks bs al) [.int .i64 k, .string (tx n), .bool f, .int .u64 x, vp, vk, vb, va]
inductive ExsAt (W : World) (K : Nat → Prop) : List Ex → List Value → Prop
  | nil : ExsAt W K [] []
  | cons (e : Ex) (es : List Ex) (cs xs : List Value) (h : ExAt W K e cs) (t : ExsAt W K es xs) : ExsAt W K (e :: es) (cs ++ xs)
inductive BndsAt (W : World) (K : Nat → Prop) : List Bnd → List Value → Prop
  | nil : BndsAt W K [] []
  | cons (n : Nm) (ps : List Nm) (e : Ex) (bs : List Bnd) (vp : Value) (cs xs : List Value) (hp : RowAt W K 9 1 vp ps.length (namesV ps)) (h : ExAt W K e cs) (t : BndsAt W K bs xs) : BndsAt W K ((n, ps, e) :: bs) (.string (tx n) :: vp :: cs ++ xs)
inductive AltsAt (W : World) (K : Nat → Prop) : List Alt → List Value → Prop
  | nil : AltsAt W K [] []
  | cons (k : Int) (n : Nm) (f : Bool) (x : Int) (ps : List Nm) (e : Ex) (al : List Alt) (vp : Value) (cs xs : List Value) (hp : RowAt W K 9 1 vp ps.length (namesV ps)) (h : ExAt W K e cs) (t : AltsAt W K al xs) : AltsAt W K ((k, n, f, x, ps, e) :: al) (.int .i64 k :: .string (tx n) :: .bool f :: .int .u64 x :: vp :: cs ++ xs)
end
theorem ExAt.move {W W' : World} {K K' : Nat → Prop} (hK : ∀ g, K g → g < W.heap.size → K' g ∧ W'.heap[g]? = W.heap[g]?) {e : Ex} {cs : List Value} (h : ExAt W K e cs) : ExAt W' K' e cs :=
  ExAt.rec (motive_1 := fun e cs _ => ExAt W' K' e cs) (motive_2 := fun es xs _ => ExsAt W' K' es xs) (motive_3 := fun bs xs _ => BndsAt W' K' bs xs) (motive_4 := fun al xs _ => AltsAt W' K' al xs)
    (fun k n f x ps ks bs al vp vk vb va xk xb xa hp hk hb ha _ _ _ t1 t2 t3 => .mk k n f x ps ks bs al vp vk vb va xk xb xa (hp.move hK) (hk.move hK) (hb.move hK) (ha.move hK) t1 t2 t3)
    .nil (fun e es cs xs _ _ h t => .cons e es cs xs h t) .nil (fun n ps e bs vp cs xs hp _ _ h t => .cons n ps e bs vp cs xs (hp.move hK) h t) .nil (fun k n f x ps e al vp cs xs hp _ _ h t => .cons k n f x ps e al vp cs xs (hp.move hK) h t) h
theorem ExsAt.move {W W' : World} {K K' : Nat → Prop} (hK : ∀ g, K g → g < W.heap.size → K' g ∧ W'.heap[g]? = W.heap[g]?) : ∀ {es : List Ex} {xs : List Value}, ExsAt W K es xs → ExsAt W' K' es xs
  | [], _, .nil => .nil
  | e :: es, _, .cons _ _ cs xs h t => .cons e es cs xs (h.move hK) (t.move hK)
theorem BndsAt.move {W W' : World} {K K' : Nat → Prop} (hK : ∀ g, K g → g < W.heap.size → K' g ∧ W'.heap[g]? = W.heap[g]?) : ∀ {bs : List Bnd} {xs : List Value}, BndsAt W K bs xs → BndsAt W' K' bs xs
  | [], _, .nil => .nil
  | _ :: _, _, .cons n ps e bs vp cs xs hp h t => .cons n ps e bs vp cs xs (hp.move hK) (h.move hK) (t.move hK)
theorem AltsAt.move {W W' : World} {K K' : Nat → Prop} (hK : ∀ g, K g → g < W.heap.size → K' g ∧ W'.heap[g]? = W.heap[g]?) : ∀ {al : List Alt} {xs : List Value}, AltsAt W K al xs → AltsAt W' K' al xs
  | [], _, .nil => .nil
  | _ :: _, _, .cons k n f x ps e al vp cs xs hp h t => .cons k n f x ps e al vp cs xs (hp.move hK) (h.move hK) (t.move hK)
theorem ExsAt.snoc {W : World} {K : Nat → Prop} : ∀ {es : List Ex} {xs : List Value} {e : Ex} {cs : List Value}, ExsAt W K es xs → ExAt W K e cs → ExsAt W K (es ++ [e]) (xs ++ cs)
  | [], _, e, cs, .nil, h => by simpa using ExsAt.cons e [] cs [] h .nil
  | e0 :: es, _, e, cs, .cons _ _ c0 x0 h0 t0, h => by simpa [List.append_assoc] using ExsAt.cons e0 _ c0 _ h0 (t0.snoc h)
def ExV (lo : Nat) (x : Ex) (e : Ending) (w : World) : Prop :=
  ∃ k n f u vp vk vb va, e = .returned (.agg #[.int .i64 k, .string n, .bool f, .int .u64 u, vp, vk, vb, va]) ∧ ExAt w (fun g => lo ≤ g) x [.int .i64 k, .string n, .bool f, .int .u64 u, vp, vk, vb, va]
theorem ExAt.leaf (W : World) (K : Nat → Prop) (k : Int) (n : Nm) : ExAt W K (.leaf k n) [.int .i64 k, .string (tx n), .bool false, .int .u64 0, .slice none 0 0, .slice none 0 0, .slice none 0 0, .slice none 0 0] :=
  .mk k n false 0 [] [] [] [] _ _ _ _ [] [] [] (RowAt.nil _ _ _ _) (RowAt.nil _ _ _ _) (RowAt.nil _ _ _ _) (RowAt.nil _ _ _ _) .nil .nil .nil
theorem ExAt.num (W : World) (K : Nat → Prop) (f : Bool) (x : Int) : ExAt W K (.num f x) [.int .i64 3, .string (tx []), .bool f, .int .u64 x, .slice none 0 0, .slice none 0 0, .slice none 0 0, .slice none 0 0] :=
  .mk 3 [] f x [] [] [] [] _ _ _ _ [] [] [] (RowAt.nil _ _ _ _) (RowAt.nil _ _ _ _) (RowAt.nil _ _ _ _) (RowAt.nil _ _ _ _) .nil .nil .nil
def Box8 (p : Nat) (w3 : World) : Prop := w3.cell? ⟨p, 0, none⟩ = some (.int .i64 0) ∧ w3.cell? ⟨p, 1, none⟩ = some (.string ⟨#[]⟩) ∧ w3.cell? ⟨p, 2, none⟩ = some (.bool false) ∧ w3.cell? ⟨p, 3, none⟩ = some (.int .u64 0) ∧ w3.cell? ⟨p, 4, none⟩ = some (.slice none 0 0) ∧ w3.cell? ⟨p, 5, none⟩ = some (.slice none 0 0) ∧ w3.cell? ⟨p, 6, none⟩ = some (.slice none 0 0) ∧ w3.cell? ⟨p, 7, none⟩ = some (.slice none 0 0) ∧ w3.frozen? ⟨p, 0, none⟩ = false ∧ w3.frozen? ⟨p, 1, none⟩ = false ∧ w3.frozen? ⟨p, 2, none⟩ = false ∧ w3.frozen? ⟨p, 3, none⟩ = false ∧ w3.frozen? ⟨p, 4, none⟩ = false ∧ w3.frozen? ⟨p, 5, none⟩ = false ∧ w3.frozen? ⟨p, 6, none⟩ = false ∧ w3.frozen? ⟨p, 7, none⟩ = false
def meth (f b : Nat) : Value := .func (.func f) #[.pointer (some ⟨b, 0, none⟩)] #[]
structure Bx where
  k1 : Nat
  r1 : Nat
  k2 : Nat
  r2 : Nat
  k3 : Nat
  r3 : Nat
def BoxAt (W : World) (b k r : Nat) (kind : Int) : Prop := W.cell? ⟨k, 0, none⟩ = some (.int .i64 kind) ∧ W.cell? ⟨r, 0, none⟩ = some (.pointer (some ⟨b, 0, none⟩)) ∧ k ≠ b ∧ r ≠ b
theorem BoxAt.later {W W' : World} {b k r : Nat} {kind : Int} (h : BoxAt W b k r kind) (hb : W.grownBy W' (some b)) : BoxAt W' b k r kind :=
  ⟨hb.cell h.1 (by simpa using h.2.2.1), hb.cell h.2.1 (by simpa using h.2.2.2), h.2.2⟩
theorem ExAt.kept {W W' : World} {lo b : Nat} {x : Ex} {cs : List Value} (h : ExAt W (fun g => lo ≤ g) x cs) (hb : W.grownBy W' (some b)) (hlo : b < lo) {lo' : Nat} (hl : lo' ≤ lo) : ExAt W' (fun g => lo' ≤ g) x cs :=
  h.move fun g hg lt => ⟨Nt hl hg, hb.block g lt (by simp; omega)⟩
theorem ExAt.slices {W : World} {K : Nat → Prop} {x : Ex} {k n f u vp vk vb va : Value} (h : ExAt W K x [k, n, f, u, vp, vk, vb, va]) : (∃ a n c, vp = .slice a n c) ∧ (∃ a n c, vk = .slice a n c) ∧ (∃ a n c, vb = .slice a n c) ∧ (∃ a n c, va = .slice a n c) := by
  cases h with
  | mk _ _ _ _ _ _ _ _ _ _ _ _ _ _ _ hp hk hb ha => exact ⟨hp.slice, hk.slice, hb.slice, ha.slice⟩
theorem atomO_none {ex : Par Ex} {last : Int} {rest : List Tok} (h : shapeL rest ≠ sName ∧ shapeL rest ≠ sCon ∧ shapeL rest ≠ sNum ∧ shapeL rest ≠ sBack ∧ shapeL rest ≠ sOpen) : atomO ex last rest = .bad (refE 3 last rest).1 (refE 3 last rest).2 := by
  unfold atomO
  rw [if_neg h.1, if_neg h.2.1, if_neg h.2.2.1, if_neg h.2.2.2.1, if_neg h.2.2.2.2, refuseO_eq]
theorem Try.info_expr : (Try.prog.info? 34).map (fun i => (i.zero, i.size, i.bytes)) = some (some (.agg #[.int .i64 0, .string ⟨#[]⟩, .bool false, .int .u64 0, .slice none 0 0, .slice none 0 0, .slice none 0 0, .slice none 0 0]), 8, 136) := by kernel_rfl
def ExsV (lo : Nat) (xs : List Ex) (e : Ending) (w : World) : Prop := ∃ v cs, e = .returned v ∧ w.ownsRow lo 34 8 v xs.length cs ∧ ExsAt w (fun g => lo ≤ g) xs cs
theorem Less.then {α β : Type} {m : Nat} {o : Out α} {f : α → Int → List Tok → Out β} (h : Less m o) (hf : ∀ a l r, Less r.length (f a l r)) : Less m (o.bind f) :=
  h.bind fun a l r hr => (hf a l r).mono hr
theorem less_ok {α : Type} (a : α) (l : Int) (r : List Tok) : Less r.length (.ok a l r) := Nat.le_refl _
theorem less_refuse {α : Type} (er l : Int) (r : List Tok) (m : Nat) : Less m (refuseO er l r : Out α) := by rw [refuseO_eq]; trivial
theorem take_shrinks : Shrinks takeO := fun l r => by
  cases r with
  | nil => trivial
  | cons y r => exact Nat.le_succ _
theorem want_shrinks (s : Sh) : Shrinks (wantO s) := fun l r => by
  unfold wantO
  split
  · exact take_shrinks l r
  · exact less_refuse _ _ _ _
theorem names_less : ∀ (r : List Tok) (l : Int) (acc : List Nm), (namesO l r acc).2.2.length ≤ r.length
  | [], l, acc => Nat.le_refl _
  | y :: r, l, acc => by
    unfold namesO
    split
    · exact Nt (names_less r _ _) (Nat.le_succ _)
    · exact Nat.le_refl _
theorem bind_shrinks {ex : Par Ex} (h : Shrinks ex) : Shrinks (bindO ex) := fun l r =>
  (want_shrinks _ l r).then fun _ l r => Less.mono ((want_shrinks _ _ _).then fun _ l2 r2 => (h l2 r2).then fun _ _ _ => less_ok _ _ _) (names_less r l [])
theorem more_shrinks {α : Type} {item : Par α} (h : Shrinks item) : ∀ (n : Nat) (acc : List α), Shrinks (moreO item n acc)
  | 0, acc => fun l r => less_ok _ _ _
  | n + 1, acc => fun l r => by
    unfold moreO
    split
    · exact (take_shrinks l r).then fun _ l r => (h l r).then fun a l2 r2 => more_shrinks h n _ l2 r2
    · exact less_ok _ _ _
theorem some_shrinks {α : Type} {item : Par α} (h : Shrinks item) : Shrinks (someO item) := fun l r => (h l r).then fun _ l r => more_shrinks h _ _ l r
theorem inner_shrinks {ex : Par Ex} (h : Shrinks ex) : Shrinks (innerO ex) := fun l r =>
  (want_shrinks _ l r).then fun _ l r => (h l r).then fun _ l2 r2 => (want_shrinks _ l2 r2).then fun _ _ _ => less_ok _ _ _
theorem atom_shrinks {ex : Par Ex} (h : Shrinks ex) : Shrinks (atomO ex) := fun l r => by
  unfold atomO
  split
  · exact (take_shrinks l r).then fun t l r => less_ok _ _ _
  split
  · exact (take_shrinks l r).then fun t l r => less_ok _ _ _
  split
  · exact (take_shrinks l r).then fun t l r => less_ok _ _ _
  split
  · exact (take_shrinks l r).then fun t l r => less_ok _ _ _
  split
  · exact inner_shrinks h l r
  · exact less_refuse _ _ _ _
theorem atoms_shrinks {ex : Par Ex} (h : Shrinks ex) : ∀ (n : Nat) (acc : List Ex), Shrinks (atomsO ex n acc)
  | 0, acc => fun l r => less_ok _ _ _
  | n + 1, acc => fun l r => by
    unfold atomsO
    split
    · exact (atom_shrinks h l r).then fun a l r => atoms_shrinks h n _ l r
    · exact less_ok _ _ _
theorem row_shrinks {ex : Par Ex} (h : Shrinks ex) : Shrinks (rowO ex) := fun l r =>
  (atom_shrinks h l r).then fun _ l r => (atoms_shrinks h _ _ l r).then fun _ _ _ => less_ok _ _ _
theorem rows_shrinks {ex : Par Ex} (h : Shrinks ex) : Shrinks (rowsO ex) := fun l r =>
  (row_shrinks h l r).then fun a l r => by
    split
    · exact (take_shrinks l r).then fun t l2 r2 => (row_shrinks h l2 r2).then fun b l3 r3 => less_ok _ _ _
    · exact less_ok _ _ _
theorem let_shrinks {ex : Par Ex} (h : Shrinks ex) : Shrinks (letO ex) := fun l r =>
  (want_shrinks _ l r).then fun _ l r => (some_shrinks (bind_shrinks h) l r).then fun _ l2 r2 => (want_shrinks _ l2 r2).then fun _ l3 r3 => (h l3 r3).then fun _ _ _ => less_ok _ _ _
theorem alt_shrinks {ex : Par Ex} (h : Shrinks ex) : Shrinks (altO ex) := fun l r => by
  unfold altO
  split
  · exact (take_shrinks l r).then fun t l r => Less.mono ((want_shrinks _ _ _).then fun _ l2 r2 => (h l2 r2).then fun x l3 r3 => less_ok _ _ _) (names_less r l [])
  split
  · exact (take_shrinks l r).then fun t l r => (want_shrinks _ l r).then fun _ l2 r2 => (h l2 r2).then fun x l3 r3 => less_ok _ _ _
  · exact (want_shrinks _ l r).then fun t l r => (want_shrinks _ l r).then fun _ l2 r2 => (h l2 r2).then fun x l3 r3 => less_ok _ _ _
theorem case_shrinks {ex : Par Ex} (h : Shrinks ex) : Shrinks (caseO ex) := fun l r =>
  (want_shrinks _ l r).then fun _ l r => (h l r).then fun x l2 r2 => (want_shrinks _ l2 r2).then fun _ l3 r3 => (want_shrinks _ l3 r3).then fun _ l4 r4 => by
    split
    · exact (want_shrinks _ l4 r4).then fun _ l5 r5 => less_ok _ _ _
    · exact (some_shrinks (alt_shrinks h) l4 r4).then fun xs l5 r5 => (want_shrinks _ l5 r5).then fun _ l6 r6 => less_ok _ _ _
theorem lam_shrinks {ex : Par Ex} (h : Shrinks ex) : Shrinks (lamO ex) := fun l r =>
  (want_shrinks _ l r).then fun _ l r => by
    split
    · exact Less.mono ((want_shrinks _ _ _).then fun _ l2 r2 => (h l2 r2).then fun x l3 r3 => less_ok _ _ _) (names_less r l [])
    · exact less_refuse _ _ _ _
theorem expr_shrinks : ∀ (n d : Nat), Shrinks (exprO n d)
  | 0, d => fun l r => trivial
  | n + 1, d => fun l r => by
    unfold exprO
    have h := expr_shrinks n (d + 1)
    split
    · split
      · exact less_refuse _ _ _ _
      split
      · exact let_shrinks h l r
      split
      · exact case_shrinks h l r
      split
      · exact lam_shrinks h l r
      · exact rows_shrinks h l r
    · exact less_refuse _ _ _ _
theorem take_strict {α : Type} {last : Int} {rest : List Tok} {f : Tok → Int → List Tok → Out α} (hf : ∀ a l r, Less r.length (f a l r)) {x : α} {l : Int} {r : List Tok} (h : (takeO last rest).bind f = .ok x l r) : r.length < rest.length := by
  cases rest with
  | nil => cases h
  | cons y r0 =>
    have h1 := hf y y.2 r0
    have h2 : f y y.2 r0 = .ok x l r := h
    rw [h2] at h1
    exact Nat.lt_succ_of_le h1
theorem want_strict {α : Type} {s : Sh} {last : Int} {rest : List Tok} {f : Tok → Int → List Tok → Out α} (hf : ∀ a l r, Less r.length (f a l r)) {x : α} {l : Int} {r : List Tok} (h : (wantO s last rest).bind f = .ok x l r) : r.length < rest.length := by
  unfold wantO at h
  split at h
  · exact take_strict hf h
  · rw [refuseO_eq] at h
    cases h
theorem atom_strict {ex : Par Ex} (hx : Shrinks ex) {last : Int} {rest : List Tok} {x : Ex} {l : Int} {r : List Tok} (h : atomO ex last rest = .ok x l r) : r.length < rest.length := by
  unfold atomO at h
  split at h
  · exact take_strict (fun t l r => less_ok _ _ _) h
  split at h
  · exact take_strict (fun t l r => less_ok _ _ _) h
  split at h
  · exact take_strict (fun t l r => less_ok _ _ _) h
  split at h
  · exact take_strict (fun t l r => less_ok _ _ _) h
  split at h
  · exact want_strict (fun _ l r => (hx l r).then fun x l2 r2 => (want_shrinks _ l2 r2).then fun _ l3 r3 => less_ok _ _ _) h
  · rw [refuseO_eq] at h
    cases h
def Sm (c : UInt8) : Prop := 97 ≤ c.toNat ∧ c.toNat ≤ 122
def Cp (c : UInt8) : Prop := 65 ≤ c.toNat ∧ c.toNat ≤ 90
def Dg (c : UInt8) : Prop := 48 ≤ c.toNat ∧ c.toNat ≤ 57
inductive TkOk (y : Tk) (c : UInt8) : Prop where
  | name (k : y.k = 1) (s : Sm c) (w : wordF y.t = none) (f : y.f = false) (x : y.x = 0)
  | word (k : y.k = 5 ∨ y.k = 7) (s : Sm c) (w : wordF y.t = some y.k) (f : y.f = false) (x : y.x = 0)
  | con (k : y.k = 2) (s : Cp c) (f : y.f = false) (x : y.x = 0)
  | num (k : y.k = 3) (s : Dg c ∨ c.toNat = 35)
  | sign (k : y.k = 4 ∨ y.k = 6) (ns : ¬ Sm c) (nc : ¬ Cp c) (nd : ¬ Dg c) (nh : c.toNat ≠ 35) (f : y.f = false) (x : y.x = 0)
theorem small_in : ∀ c, c ∈ smallsB.data.toList → Sm c := by unfold Sm; decide
theorem cap_in : ∀ c, c ∈ capsB.data.toList → Cp c := by unfold Cp; decide
theorem dig_in : ∀ c, c ∈ digsB.data.toList → Dg c := by unfold Dg; decide
theorem sign_in : ∀ x, x ∈ signsB → (x.2 = 4 ∨ x.2 = 6) ∧ ∃ c, x.1.data.toList.head? = some c ∧ (¬ (97 ≤ c.toNat ∧ c.toNat ≤ 122) ∧ ¬ (65 ≤ c.toNat ∧ c.toNat ≤ 90) ∧ ¬ (48 ≤ c.toNat ∧ c.toNat ≤ 57) ∧ c.toNat ≠ 35) := by
  intro x hx
  simp only [signsB, List.mem_cons, List.not_mem_nil, or_false] at hx
  rcases hx with rfl | rfl | rfl | rfl | rfl | rfl | rfl | rfl | rfl | rfl | rfl | rfl | rfl | rfl | rfl | rfl | rfl | rfl | rfl | rfl | rfl
  all_goals exact ⟨by decide, _, rfl, by decide⟩
theorem word_some {t : List UInt8} {k : Int} (h : wordF t = some k) : (k = 5 ∨ k = 7) ∧ ∃ c r, t = c :: r ∧ Sm c := by
  unfold wordF kput at h
  repeat' split at h
  all_goals first
    | (rename_i e; cases h; subst e; exact ⟨by decide, _, _, rfl, by unfold Sm; decide⟩)
    | cases h
theorem kputs_in {f : List UInt8 → Option Int} {l : List UInt8} {u : Int} {r : List UInt8} {k : Int} (h : kputs f l u r = some k) : (∃ c, c ∈ l ∧ r = [c] ∧ k = u) ∨ f r = some k := by
  unfold kputs at h
  split at h
  · rename_i e
    obtain ⟨c, hc, he⟩ := e
    exact Or.inl ⟨c, hc, he, (Oi h).symm⟩
  · exact Or.inr h
theorem kputs_some {f : List UInt8 → Option Int} {l : List UInt8} {u : Int} {r : List UInt8} (h : kputs f l u r = none) : f r = none := by
  unfold kputs at h
  split at h
  · cases h
  · exact h
theorem kind_some {t : List UInt8} {k : Int} (h : kindF t = some k) : (∃ c, t = [c] ∧ ((k = 1 ∧ Sm c) ∨ (k = 2 ∧ Cp c) ∨ (k = 3 ∧ Dg c))) ∨ wordF t = some k := by
  rcases kputs_in h with ⟨c, hc, e, rfl⟩ | h
  · exact Or.inl ⟨c, e, Or.inr (Or.inr ⟨rfl, dig_in c hc⟩)⟩
  rcases kputs_in h with ⟨c, hc, e, rfl⟩ | h
  · exact Or.inl ⟨c, e, Or.inr (Or.inl ⟨rfl, cap_in c hc⟩)⟩
  rcases kputs_in h with ⟨c, hc, e, rfl⟩ | h
  · exact Or.inl ⟨c, e, Or.inl ⟨rfl, small_in c hc⟩⟩
  exact Or.inr h
theorem kind_none {t : List UInt8} (h : kindF t = none) : wordF t = none := kputs_some (kputs_some (kputs_some h))
theorem kindOf_ok {c : UInt8} {r : List UInt8} (h : kindOf (c :: r) ≠ 0) : ∃ t, runL (c :: r) = c :: t ∧ ((kindOf (c :: r) = 1 ∧ Sm c ∧ wordF (c :: t) = none) ∨ ((kindOf (c :: r) = 5 ∨ kindOf (c :: r) = 7) ∧ Sm c ∧ wordF (c :: t) = some (kindOf (c :: r))) ∨ (kindOf (c :: r) = 2 ∧ Cp c) ∨ (kindOf (c :: r) = 3 ∧ Dg c)) := by
  cases hr : runL (c :: r) with
  | nil => exact absurd (kindOf_nil hr) h
  | cons d t =>
    obtain rfl : d = c := by
      have := List.takeWhile_prefix (p := inRun) (l := c :: r)
      unfold runL at hr
      rw [hr] at this
      exact (List.cons_prefix_cons.1 this).1
    refine ⟨t, rfl, ?_⟩
    unfold kindOf at h ⊢
    rw [hr] at h ⊢
    cases hk : kindF (d :: t) with
    | some k =>
      simp only [hk, Option.isSome_some, if_true, Option.getD_some] at h ⊢
      rcases kind_some hk with ⟨c', e, hh⟩ | hw
      · simp only [List.cons.injEq] at e
        obtain ⟨rfl, rfl⟩ := e
        rcases hh with ⟨rfl, hs⟩ | ⟨rfl, hs⟩ | ⟨rfl, hs⟩
        · exact Or.inl ⟨rfl, hs, word_one d⟩
        · exact Or.inr (Or.inr (Or.inl ⟨rfl, hs⟩))
        · exact Or.inr (Or.inr (Or.inr ⟨rfl, hs⟩))
      · obtain ⟨hk57, c', r', e, hs⟩ := word_some hw
        simp only [List.cons.injEq] at e
        obtain ⟨rfl, rfl⟩ := e
        exact Or.inr (Or.inl ⟨hk57, hs, hw⟩)
    | none =>
      have hw := kind_none hk
      simp only [hk, Option.isSome_none, Bool.false_eq_true, if_false, List.take_succ_cons, List.take_zero] at h ⊢
      cases hk1 : kindF [d] with
      | none => rw [hk1] at h; exact absurd rfl h
      | some k =>
        simp only [Option.getD_some]
        rcases kind_some hk1 with ⟨c', e, hh⟩ | hw1
        · simp only [List.cons.injEq, and_true] at e
          subst e
          rcases hh with ⟨rfl, hs⟩ | ⟨rfl, hs⟩ | ⟨rfl, hs⟩
          · exact Or.inl ⟨rfl, hs, hw⟩
          · exact Or.inr (Or.inr (Or.inl ⟨rfl, hs⟩))
          · exact Or.inr (Or.inr (Or.inr ⟨rfl, hs⟩))
        · rw [word_one] at hw1
          cases hw1
theorem numT_kind {t : List UInt8} (h : (numT t).2 = 0) : (numT t).1.k = 3 := by
  unfold numT at *
  split
  · rfl
  · rename_i g
    rw [if_neg g] at h
    exact absurd h g
theorem read_ok {c : UInt8} {r : List UInt8} (h : (readL (c :: r)).2 = 0) : ∃ t, (readL (c :: r)).1.t = c :: t ∧ TkOk (readL (c :: r)).1 c := by
  unfold readL at *
  cases hs : signL (c :: r) with
  | some x =>
    unfold signL at hs
    obtain ⟨hk, d, hd, h1, h2, h3, h4⟩ := sign_in x (List.mem_of_find?_eq_some hs)
    have hp := List.find?_some hs
    cases hx : x.1.data.toList with
    | nil => rw [hx] at hd; cases hd
    | cons d' t =>
      rw [hx] at hd hp
      obtain rfl := Oi hd
      unfold hasPrefix at hp
      obtain ⟨rfl, -⟩ := List.cons_prefix_cons.1 (List.isPrefixOf_iff_prefix.1 hp)
      exact ⟨t, hx, .sign hk h1 h2 h3 h4 rfl rfl⟩
  | none =>
    rw [hs] at h
    simp only at h ⊢
    split at h
    · rename_i g
      rw [if_pos g]
      have hc : c = 35 := by
        unfold hasPrefix at g
        exact (List.cons_prefix_cons.1 (List.isPrefixOf_iff_prefix.1 g)).1.symm
      have hl : ∃ n t, markedL (c :: r) = (c :: t).take (n + 1) := by
        unfold markedL
        have h1 := trimP_le r [45]
        simp only [List.drop_succ_cons, List.drop_zero, List.length_cons]
        refine ⟨r.length - (trimPrefix r [45]).length + (runL (trimPrefix r [45])).length, r, ?_⟩
        congr 1
        omega
      obtain ⟨n, t, hl⟩ := hl
      rw [List.take_succ_cons] at hl
      refine ⟨t.take n, (numT_ok h).trans hl, .num (numT_kind h) (Or.inr (by rw [hc]; rfl))⟩
    · rename_i g
      rw [if_neg g]
      unfold readR at *
      split at h
      · cases h
      · rename_i g0
        rw [if_neg g0]
        obtain ⟨t, hr, hh⟩ := kindOf_ok g0
        split at h
        · rename_i g3
          rw [if_pos g3]
          refine ⟨t, (numT_ok h).trans hr, .num (numT_kind h) (Or.inl ?_)⟩
          rcases hh with ⟨e, -⟩ | ⟨e, -⟩ | ⟨e, -⟩ | ⟨-, e⟩
          · omega
          · omega
          · omega
          · exact e
        · rename_i g3
          rw [if_neg g3]
          split at h
          · cases h
          · rename_i g16
            rw [if_neg g16]
            refine ⟨t, hr, ?_⟩
            rcases hh with ⟨e, hs, hw⟩ | ⟨e, hs, hw⟩ | ⟨e, hs⟩ | ⟨e, -⟩
            · exact .name e hs (by simpa [hr] using hw) rfl rfl
            · exact .word e hs (by simpa [hr] using hw) rfl rfl
            · exact .con e hs rfl rfl
            · exact absurd e g3
structure ToksOk (T : List (Tk × Int)) : Prop where
  ok : ∀ x, x ∈ T → 1 ≤ x.2 ∧ ∃ c t, x.1.t = c :: t ∧ TkOk x.1 c
  up : T.Pairwise fun a b => a.2 ≤ b.2
theorem lexA_ok : ∀ (f : Nat) (l : List UInt8) (line : Int) (acc T : List (Tk × Int)), 1 ≤ line → ToksOk acc → (∀ x, x ∈ acc → x.2 ≤ line) → lexA f l line acc = .good T → ToksOk T
  | 0, l, line, acc, T, _, ha, _, h => by unfold lexA at h; cases h; exact ha
  | f + 1, [], line, acc, T, _, ha, _, h => by unfold lexA at h; cases h; exact ha
  | f + 1, c :: r, line, acc, T, h0, ha, hl, h => by
    unfold lexA at h
    split at h
    · exact lexA_ok f _ _ _ _ (by omega) ha (fun x hx => by have := hl x hx; omega) h
    · split at h
      · exact lexA_ok f _ _ _ _ h0 ha hl h
      · split at h
        · split at h
          · cases h; exact ha
          · exact lexA_ok f _ _ _ _ h0 ha hl h
        · split at h
          · rename_i hr
            split at h
            · cases h
            · obtain ⟨t, ht, hk⟩ := read_ok hr
              refine lexA_ok f _ _ _ _ h0 ⟨fun x hx => ?_, ?_⟩ (fun x hx => ?_) h
              · rcases List.mem_append.1 hx with hx | hx
                · exact ha.ok x hx
                · rw [List.mem_singleton] at hx
                  subst hx
                  exact ⟨h0, c, t, ht, hk⟩
              · refine List.pairwise_append.2 ⟨ha.up, List.pairwise_singleton _ _, fun a ha' b hb => ?_⟩
                rw [List.mem_singleton] at hb
                subst hb
                exact hl a ha'
              · rcases List.mem_append.1 hx with hx | hx
                · exact hl x hx
                · rw [List.mem_singleton] at hx
                  subst hx
                  exact Int.le_refl _
          · cases h
theorem lexL_ok {l : List UInt8} {T : List (Tk × Int)} (h : lexL l = .good T) : ToksOk T := lexA_ok _ _ _ _ _ (by omega) ⟨fun x hx => (by cases hx), List.Pairwise.nil⟩ (fun x hx => by cases hx) h
structure St where
  r : List Tok
  e : Int
  ln : Int
def kindL : List Tok → Int
  | [] => 0
  | y :: _ => y.1.k
def seesL (t : Nm) : List Tok → Bool
  | [] => false
  | y :: _ => decide ((y.1.k = 5 ∨ y.1.k = 6) ∧ y.1.t = t)
def St.bad (ll er : Int) (s : St) : St :=
  if s.e ≠ 0 then s else
  match s.r with
  | [] => ⟨[], 17, ll⟩
  | y :: r => ⟨y :: r, er, y.2⟩
def St.next (s : St) : St := ⟨s.r.tail, s.e, s.ln⟩
def needD (ll : Int) (t : Nm) (s : St) : St := if s.e = 0 ∧ seesL t s.r = true then s.next else s.bad ll 3
def tokD (ll k : Int) (s : St) : Tok × St := if s.e = 0 ∧ kindL s.r = k then (tokO s.r, s.next) else (tokO [], s.bad ll 3)
def loopN (ll : Int) : Nat → Bool → List Nm → St → List Nm × St
  | 0, _, acc, s => (acc, s)
  | n + 1, least, acc, s => if s.e = 0 ∧ (least = true ∨ kindL s.r = 1) then loopN ll n false (acc ++ [(tokD ll 1 s).1.1.t]) (tokD ll 1 s).2 else (acc, s)
def namesD (ll : Int) (least : Bool) (s : St) : List Nm × St := loopN ll (s.r.length + 2) least [] s
abbrev Dp (α : Type) := St → α × St
def bindD (ll : Int) (ex : Dp Ex) : Dp Bnd := fun s =>
  (((namesD ll true s).1.headD [], (namesD ll true s).1.tail, (ex (needD ll [61] (namesD ll true s).2)).1), (ex (needD ll [61] (namesD ll true s).2)).2)
def moreD {α : Type} (item : Dp α) : Nat → List α → Dp (List α)
  | 0, acc => fun s => (acc, s)
  | n + 1, acc => fun s => if s.e = 0 ∧ seesL [59] s.r = true then moreD item n (acc ++ [(item s.next).1]) (item s.next).2 else (acc, s)
def someD {α : Type} (item : Dp α) : Dp (List α) := fun s => moreD item ((item s).2.r.length + 1) [(item s).1] (item s).2
def atomD (ll : Int) (ex : Dp Ex) : Dp Ex := fun s =>
  if kindL s.r = 1 then (.leaf 1 (tokD ll 1 s).1.1.t, (tokD ll 1 s).2)
  else if kindL s.r = 2 then (.leaf 2 (tokD ll 2 s).1.1.t, (tokD ll 2 s).2)
  else if kindL s.r = 7 then (.leaf 5 (tokD ll 7 s).1.1.t, (tokD ll 7 s).2)
  else if kindL s.r = 3 then (.num (tokD ll 3 s).1.1.f (tokD ll 3 s).1.1.x, (tokD ll 3 s).2)
  else ((ex s.next).1, needD ll [41] (ex s.next).2)
def begins (r : List Tok) : Prop := kindL r = 1 ∨ kindL r = 2 ∨ kindL r = 7 ∨ kindL r = 3 ∨ seesL [40] r = true
instance (r : List Tok) : Decidable (begins r) := inferInstanceAs (Decidable (_ ∨ _))
def atomsD (ll : Int) (ex : Dp Ex) : Nat → List Ex → Dp (List Ex)
  | 0, acc => fun s => (acc, s)
  | n + 1, acc => fun s => if s.e = 0 ∧ begins s.r then atomsD ll ex n (acc ++ [(atomD ll ex s).1]) (atomD ll ex s).2 else (acc, s)
def blankX : Ex := .leaf 0 []
def rowX (k : Int) : List Ex → Ex
  | [] => blankX
  | [x] => x
  | x :: y :: xs => if k = 2 ∨ k = 7 then x.withKids (y :: xs) else .mk 4 [] false 0 [] (x :: y :: xs) [] []
def rowD (ll : Int) (ex : Dp Ex) : Dp Ex := fun s =>
  (rowX (kindL s.r) (atomsD ll ex (s.r.length + 1) [] s).1, if (atomsD ll ex (s.r.length + 1) [] s).1 = [] then (atomsD ll ex (s.r.length + 1) [] s).2.bad ll 3 else (atomsD ll ex (s.r.length + 1) [] s).2)
def startsL (r : List Tok) : Prop := kindL r = 1 ∨ kindL r = 2 ∨ kindL r = 3 ∨ kindL r = 7 ∨ seesL [108, 101, 116] r = true ∨ seesL [99, 97, 115, 101] r = true ∨ seesL [40] r = true ∨ seesL [92] r = true
instance (r : List Tok) : Decidable (startsL r) := inferInstanceAs (Decidable (_ ∨ _))
def altD (ll : Int) (ex : Dp Ex) : Dp Alt := fun s =>
  if kindL s.r = 2 then
    ((0, (tokD ll 2 s).1.1.t, false, 0, (namesD ll false (tokD ll 2 s).2).1, (ex (needD ll [45, 62] (namesD ll false (tokD ll 2 s).2).2)).1), (ex (needD ll [45, 62] (namesD ll false (tokD ll 2 s).2).2)).2)
  else if kindL s.r = 3 then
    ((1, [], (tokD ll 3 s).1.1.f, (tokD ll 3 s).1.1.x, [], (ex (needD ll [45, 62] (tokD ll 3 s).2)).1), (ex (needD ll [45, 62] (tokD ll 3 s).2)).2)
  else
    ((2, (tokD ll 1 s).1.1.t, false, 0, [], (ex (needD ll [45, 62] (tokD ll 1 s).2)).1), (ex (needD ll [45, 62] (tokD ll 1 s).2)).2)
def letD (ll : Int) (ex : Dp Ex) : Dp Ex := fun s =>
  (.mk 6 [] false 0 [] [(ex (needD ll [105, 110] (someD (bindD ll ex) s).2)).1] (someD (bindD ll ex) s).1 [], (ex (needD ll [105, 110] (someD (bindD ll ex) s).2)).2)
def ofD (ll : Int) (s : St) : St := needD ll [123] (needD ll [111, 102] s)
def caseD (ll : Int) (ex : Dp Ex) : Dp Ex := fun s =>
  if (ofD ll (ex s).2).e = 0 ∧ seesL [125] (ofD ll (ex s).2).r = true then (.mk 7 [] false 0 [] [(ex s).1] [] [], (ofD ll (ex s).2).next)
  else (.mk 7 [] false 0 [] [(ex s).1] [] (someD (altD ll ex) (ofD ll (ex s).2)).1, needD ll [125] (someD (altD ll ex) (ofD ll (ex s).2)).2)
def lamD (ll : Int) (ex : Dp Ex) : Dp Ex := fun s =>
  (.mk 8 [] false 0 (namesD ll true s).1 [(ex (needD ll [45, 62] (namesD ll true s).2)).1] [] [], (ex (needD ll [45, 62] (namesD ll true s).2)).2)
def rowsD (ll : Int) (ex : Dp Ex) : Dp Ex := fun s =>
  if (rowD ll ex s).2.e = 0 ∧ kindL (rowD ll ex s).2.r = 4 then
    (.mk 5 (tokD ll 4 (rowD ll ex s).2).1.1.t false 0 [] [(rowD ll ex s).1, (rowD ll ex (tokD ll 4 (rowD ll ex s).2).2).1] [] [], (rowD ll ex (tokD ll 4 (rowD ll ex s).2).2).2)
  else rowD ll ex s
def exprD (ll : Int) : Nat → Dp Ex
  | 0 => fun s => if s.e ≠ 0 then (blankX, s) else (blankX, (if startsL s.r then s.bad ll 12 else s).bad ll 3)
  | k + 1 => fun s =>
    if s.e ≠ 0 then (blankX, s)
    else if seesL [108, 101, 116] s.r = true then letD ll (exprD ll k) s.next
    else if seesL [99, 97, 115, 101] s.r = true then caseD ll (exprD ll k) s.next
    else if seesL [92] s.r = true then lamD ll (exprD ll k) s.next
    else rowsD ll (exprD ll k) s
def declD (ll : Int) (s : St) : St := if kindL s.r = 3 ∧ ((tokO s.r).1.f = true ∨ 24 < (tokO s.r).1.x) then s.bad ll 1 else s
def declsD (ll : Int) : Nat → List (Nm × Int) → Dp (List (Nm × Int))
  | 0, acc => fun s => (acc, s)
  | n + 1, acc => fun s => if s.e = 0 ∧ kindL s.r = 2 then declsD ll n (acc ++ [((tokD ll 2 s).1.1.t, (tokD ll 3 (declD ll (tokD ll 2 s).2)).1.1.x)]) (tokD ll 3 (declD ll (tokD ll 2 s).2)).2 else (acc, s)
def dataD (ll : Int) : Dp (List (Nm × Int)) := fun s => ((declsD ll (s.r.length + 1) [] s).1, needD ll [59] (declsD ll (s.r.length + 1) [] s).2)
def moduleD (ll : Int) : Nat → List (Nm × Int) → List Bnd → Dp Md
  | 0, cs, bs => fun s => ((cs, bs), s)
  | n + 1, cs, bs => fun s =>
    if s.e = 0 ∧ s.r ≠ [] then
      (if seesL [100, 97, 116, 97] s.r = true then moduleD ll n (cs ++ (dataD ll s.next).1) bs (dataD ll s.next).2
       else moduleD ll n cs (bs ++ [(bindD ll (exprD ll 200) s).1]) (needD ll [59] (bindD ll (exprD ll 200) s).2))
    else ((cs, bs), s)
def Dead {α : Type} (d : Dp α) : Prop := ∀ s, s.e ≠ 0 → (d s).2.e = s.e ∧ (d s).2.ln = s.ln
theorem bad_dead {ll er : Int} {s : St} (h : s.e ≠ 0) : s.bad ll er = s := by unfold St.bad; rw [if_pos h]
theorem need_dead {ll : Int} {t : Nm} {s : St} (h : s.e ≠ 0) : needD ll t s = s := by unfold needD; rw [if_neg (fun g => h g.1), bad_dead h]
theorem tok_dead {ll k : Int} {s : St} (h : s.e ≠ 0) : tokD ll k s = (tokO [], s) := by unfold tokD; rw [if_neg (fun g => h g.1), bad_dead h]
theorem names_dead {ll : Int} {b : Bool} {s : St} (h : s.e ≠ 0) : namesD ll b s = ([], s) := by unfold namesD loopN; rw [if_neg (fun g => h g.1)]
theorem bind_dead {ll : Int} {ex : Dp Ex} (hx : Dead ex) : Dead (bindD ll ex) := fun s h => by
  unfold bindD; rw [names_dead h, need_dead h]; exact hx s h
theorem more_dead {α : Type} {item : Dp α} (n : Nat) (acc : List α) {s : St} (h : s.e ≠ 0) : moreD item n acc s = (acc, s) := by
  cases n with
  | zero => rfl
  | succ n => unfold moreD; rw [if_neg (fun g => h g.1)]
theorem some_dead {α : Type} {item : Dp α} (hx : Dead item) : Dead (someD item) := fun s h => by
  have h1 := hx s h
  unfold someD
  rw [more_dead _ _ (by rw [h1.1]; exact h)]
  exact h1
theorem atoms_dead {ll : Int} {ex : Dp Ex} (n : Nat) (acc : List Ex) {s : St} (h : s.e ≠ 0) : atomsD ll ex n acc s = (acc, s) := by
  cases n with
  | zero => rfl
  | succ n => unfold atomsD; rw [if_neg (fun g => h g.1)]
theorem expr_dead {ll : Int} : ∀ k, Dead (exprD ll k)
  | 0 => fun s h => by unfold exprD; rw [if_pos h]; exact ⟨rfl, rfl⟩
  | k + 1 => fun s h => by unfold exprD; rw [if_pos h]; exact ⟨rfl, rfl⟩
theorem alt_dead {ll : Int} {ex : Dp Ex} (hx : Dead ex) : Dead (altD ll ex) := fun s h => by
  unfold altD
  split
  · rw [tok_dead h, names_dead h, need_dead h]; exact hx s h
  split
  · rw [tok_dead h, need_dead h]; exact hx s h
  · rw [tok_dead h, need_dead h]; exact hx s h
def lastOf : Int → List Tok → Int
  | l, [] => l
  | _, y :: r => lastOf y.2 r
def Tv (y : Tok) : Prop := ∃ c t, y.1.t = c :: t ∧ TkOk y.1 c
def Tvs (r : List Tok) : Prop := ∀ x, x ∈ r → Tv x
theorem Tvs.tail {y : Tok} {r : List Tok} (h : Tvs (y :: r)) : Tvs r := fun x hx => h x (List.mem_cons_of_mem _ hx)
def AgS {α : Type} (ll : Int) (o : Out α) (s : St) : Prop :=
  match o with
  | .ok _ l r => s = ⟨r, 0, 0⟩ ∧ lastOf l r = ll ∧ Tvs r
  | .bad e ln => e ≠ 0 ∧ s.e = e ∧ s.ln = ln
def Ag {α : Type} (ll : Int) (o : Out α) (d : α × St) : Prop :=
  match o with
  | .ok a l r => d = (a, ⟨r, 0, 0⟩) ∧ lastOf l r = ll ∧ Tvs r
  | .bad e ln => e ≠ 0 ∧ d.2.e = e ∧ d.2.ln = ln
def Sim {α : Type} (ll : Int) (p : Par α) (d : Dp α) : Prop := ∀ last rest, lastOf last rest = ll → Tvs rest → Ag ll (p last rest) (d ⟨rest, 0, 0⟩)
theorem kind_shape {k : Int} (h5 : k ≠ 5) (h6 : k ≠ 6) (rest : List Tok) : kindL rest = k ↔ shapeL rest = (k, []) := by
  cases rest with
  | nil => simp [kindL, shapeL]
  | cons y r =>
    simp only [kindL, shapeL, shapeT]
    split
    · rename_i h
      constructor
      · intro e; rw [e] at h; rcases h with h | h; exact absurd h h5; exact absurd h h6
      · intro e; rw [(Prod.mk.inj e).1] at h; rcases h with h | h; exact absurd h h5; exact absurd h h6
    · simp
theorem kName (rest : List Tok) : kindL rest = 1 ↔ shapeL rest = sName := kind_shape (by decide) (by decide) rest
theorem kCon (rest : List Tok) : kindL rest = 2 ↔ shapeL rest = sCon := kind_shape (by decide) (by decide) rest
theorem kNum (rest : List Tok) : kindL rest = 3 ↔ shapeL rest = sNum := kind_shape (by decide) (by decide) rest
theorem kSign (rest : List Tok) : kindL rest = 4 ↔ shapeL rest = sSign := kind_shape (by decide) (by decide) rest
theorem kBack (rest : List Tok) : kindL rest = 7 ↔ shapeL rest = sBack := kind_shape (by decide) (by decide) rest
theorem sees_word {c : UInt8} {u : Nm} (hc : Sm c) {rest : List Tok} (hv : Tvs rest) : seesL (c :: u) rest = true ↔ shapeL rest = (5, c :: u) := by
  cases rest with
  | nil => simp [seesL, shapeL]
  | cons y r =>
    obtain ⟨c', u', e, ok⟩ := hv y (List.mem_cons_self ..)
    simp only [seesL, shapeL, shapeT, decide_eq_true_eq]
    constructor
    · rintro ⟨hk, ht⟩
      rw [if_pos hk, ht]
      rcases hk with hk | hk
      · rw [hk]
      · rw [e] at ht
        cases ht
        cases ok with
        | name k _ _ _ _ => rw [k] at hk; cases hk
        | word k _ _ _ _ => rw [hk] at k; rcases k with k | k <;> cases k
        | con k _ _ _ => rw [k] at hk; cases hk
        | num k _ => rw [k] at hk; cases hk
        | sign k ns _ _ _ _ _ => exact absurd hc ns
    · intro h
      split at h
      · rename_i hk
        exact ⟨hk, (Prod.mk.inj h).2⟩
      · cases (Prod.mk.inj h).2
theorem sees_sign {c : UInt8} {u : Nm} (hc : ¬ Sm c) {rest : List Tok} (hv : Tvs rest) : seesL (c :: u) rest = true ↔ shapeL rest = (6, c :: u) := by
  cases rest with
  | nil => simp [seesL, shapeL]
  | cons y r =>
    obtain ⟨c', u', e, ok⟩ := hv y (List.mem_cons_self ..)
    simp only [seesL, shapeL, shapeT, decide_eq_true_eq]
    constructor
    · rintro ⟨hk, ht⟩
      rw [if_pos hk, ht]
      rcases hk with hk | hk
      · rw [e] at ht
        cases ht
        cases ok with
        | name k _ _ _ _ => rw [k] at hk; cases hk
        | word k s _ _ _ => exact absurd s hc
        | con k _ _ _ => rw [k] at hk; cases hk
        | num k _ => rw [k] at hk; cases hk
        | sign k ns _ _ _ _ _ => rw [hk] at k; rcases k with k | k <;> cases k
      · rw [hk]
    · intro h
      split at h
      · rename_i hk
        exact ⟨hk, (Prod.mk.inj h).2⟩
      · cases (Prod.mk.inj h).2
theorem refuse_ag {α : Type} {ll er last : Int} {rest : List Tok} (her : er ≠ 0) (hl : lastOf last rest = ll) : AgS ll (refuseO er last rest : Out α) (St.bad ll er ⟨rest, 0, 0⟩) := by
  unfold St.bad
  cases rest with
  | nil => exact ⟨by decide, rfl, hl.symm⟩
  | cons y r => exact ⟨her, rfl, rfl⟩
theorem want_ag {ll last : Int} {rest : List Tok} {sh : Sh} {t : Nm} (h0 : sh.1 ≠ 0) (hs : seesL t rest = true ↔ shapeL rest = sh) (hl : lastOf last rest = ll) (hv : Tvs rest) : AgS ll (wantO sh last rest) (needD ll t ⟨rest, 0, 0⟩) := by
  unfold wantO needD
  by_cases g : shapeL rest = sh
  · rw [if_pos g, if_pos ⟨rfl, hs.2 g⟩]
    obtain ⟨y, r, rfl⟩ := take_of g h0
    exact ⟨rfl, hl, hv.tail⟩
  · rw [if_neg g, if_neg (fun h => g (hs.1 h.2))]
    exact refuse_ag (by decide) hl
theorem AgS.of {α β : Type} {ll : Int} {o : Out α} {s : St} (h : AgS ll o s) {f : α → Int → List Tok → Out β} {d : β × St} (hok : ∀ a l r, o = .ok a l r → s = ⟨r, 0, 0⟩ → lastOf l r = ll → Tvs r → Ag ll (f a l r) d) (hbad : s.e ≠ 0 → d.2.e = s.e ∧ d.2.ln = s.ln) : Ag ll (o.bind f) d := by
  cases o with
  | ok a l r => exact hok a l r rfl h.1 h.2.1 h.2.2
  | bad e ln =>
    obtain ⟨h1, h2, h3⟩ := h
    have := hbad (by rw [h2]; exact h1)
    exact ⟨h1, this.1.trans h2, this.2.trans h3⟩
theorem Ag.st {α : Type} {ll : Int} {o : Out α} {d : α × St} (h : Ag ll o d) : AgS ll o d.2 := by
  cases o with
  | ok a l r => rw [h.1]; exact ⟨rfl, h.2⟩
  | bad e ln => exact h
theorem Ag.of {α β : Type} {ll : Int} {o : Out α} {d0 : α × St} (h : Ag ll o d0) {f : α → Int → List Tok → Out β} {d : β × St} (hok : ∀ a l r, o = .ok a l r → d0 = (a, ⟨r, 0, 0⟩) → lastOf l r = ll → Tvs r → Ag ll (f a l r) d) (hbad : d0.2.e ≠ 0 → d.2.e = d0.2.e ∧ d.2.ln = d0.2.ln) : Ag ll (o.bind f) d := by
  cases o with
  | ok a l r => exact hok a l r rfl h.1 h.2.1 h.2.2
  | bad e ln => exact AgS.of (α := α) (o := .bad e ln) h.st (fun _ _ _ q => by cases q) hbad
theorem Ag.done {α : Type} {ll : Int} {a : α} {l : Int} {r : List Tok} {d : α × St} (hd : d = (a, ⟨r, 0, 0⟩)) (hl : lastOf l r = ll) (hv : Tvs r) : Ag ll (.ok a l r) d := ⟨hd, hl, hv⟩
theorem AgS.ag {α : Type} {ll : Int} {e ln : Int} {s : St} {d : α × St} (h : AgS ll (.bad e ln : Out α) s) (hd : d.2 = s) : Ag ll (.bad e ln) d := by
  obtain ⟨h1, h2, h3⟩ := h
  exact ⟨h1, by rw [hd]; exact h2, by rw [hd]; exact h3⟩
theorem refuse_Ag {α : Type} {ll er last : Int} {rest : List Tok} (her : er ≠ 0) (hl : lastOf last rest = ll) {d : α × St} (hd : d.2 = St.bad ll er ⟨rest, 0, 0⟩) : Ag ll (refuseO er last rest) d := by
  have h := refuse_ag (α := α) her hl
  rw [refuseO_eq] at h ⊢
  exact h.ag hd
theorem tok_ok {ll k : Int} {rest : List Tok} (h0 : k ≠ 0) (hk : kindL rest = k) : ∃ y r, rest = y :: r ∧ tokD ll k ⟨rest, 0, 0⟩ = (y, ⟨r, 0, 0⟩) := by
  cases rest with
  | nil => exact absurd hk.symm h0
  | cons y r => exact ⟨y, r, rfl, by unfold tokD; rw [if_pos ⟨rfl, hk⟩]; rfl⟩
theorem names_acc : ∀ (r : List Tok) (l : Int) (acc : List Nm), namesO l r acc = (acc ++ (namesO l r []).1, (namesO l r []).2)
  | [], l, acc => by simp [namesO]
  | y :: r, l, acc => by
    unfold namesO
    split
    · rw [names_acc r y.2 (acc ++ [y.1.t]), names_acc r y.2 ([] ++ [y.1.t])]
      simp
    · simp
theorem names_ag (ll : Int) : ∀ (r : List Tok) (l : Int) (acc : List Nm) (n : Nat), r.length < n → lastOf l r = ll → Tvs r →
    loopN ll n false acc ⟨r, 0, 0⟩ = ((namesO l r acc).1, ⟨(namesO l r acc).2.2, 0, 0⟩) ∧ lastOf (namesO l r acc).2.1 (namesO l r acc).2.2 = ll ∧ Tvs (namesO l r acc).2.2
  | [], l, acc, n + 1, hn, hl, hv => by
    refine ⟨?_, hl, hv⟩
    unfold loopN
    rw [if_neg (by rintro ⟨-, h | h⟩ <;> cases h)]
    rfl
  | y :: r, l, acc, n + 1, hn, hl, hv => by
    by_cases g : kindL (y :: r) = 1
    · have gs : shapeT y.1 = sName := (kName (y :: r)).1 g
      obtain ⟨y', r', e, ht⟩ := tok_ok (ll := ll) (k := 1) (by decide) g
      cases e
      unfold loopN namesO
      rw [if_pos ⟨rfl, Or.inr g⟩, ht, if_pos gs]
      exact names_ag ll r y.2 _ n (by simp at hn; omega) hl hv.tail
    · have gs : ¬ shapeT y.1 = sName := fun h => g ((kName _).2 h)
      unfold loopN namesO
      rw [if_neg (by rintro ⟨-, h | h⟩; cases h; exact g h), if_neg gs]
      exact ⟨rfl, hl, hv⟩
theorem names1_ok {ll : Int} {y : Tok} {r : List Tok} (hk : kindL (y :: r) = 1) (hl : lastOf y.2 r = ll) (hv : Tvs r) :
    namesD ll true ⟨y :: r, 0, 0⟩ = (y.1.t :: (namesO y.2 r []).1, ⟨(namesO y.2 r []).2.2, 0, 0⟩) ∧ lastOf (namesO y.2 r []).2.1 (namesO y.2 r []).2.2 = ll ∧ Tvs (namesO y.2 r []).2.2 := by
  obtain ⟨y', r', e, ht⟩ := tok_ok (ll := ll) (k := 1) (by decide) hk
  cases e
  have h := names_ag ll r y.2 [y.1.t] (r.length + 2) (by omega) hl hv
  rw [names_acc] at h
  unfold namesD
  rw [show (y :: r).length + 2 = (r.length + 2) + 1 from by simp]
  unfold loopN
  rw [if_pos ⟨rfl, Or.inl rfl⟩, ht]
  exact h
theorem names1_bad {ll : Int} {rest : List Tok} (hk : kindL rest ≠ 1) : namesD ll true ⟨rest, 0, 0⟩ = ([[]], St.bad ll 3 ⟨rest, 0, 0⟩) := by
  have ht : tokD ll 1 ⟨rest, 0, 0⟩ = (tokO [], St.bad ll 3 ⟨rest, 0, 0⟩) := by unfold tokD; rw [if_neg (fun h => hk h.2)]
  have hb : (St.bad ll 3 ⟨rest, 0, 0⟩).e ≠ 0 := by unfold St.bad; cases rest <;> simp
  unfold namesD loopN
  rw [if_pos ⟨rfl, Or.inl rfl⟩, ht]
  unfold loopN
  rw [if_neg (fun h => hb h.1)]
  rfl
theorem names0_ok {ll l : Int} {r : List Tok} (hl : lastOf l r = ll) (hv : Tvs r) :
    namesD ll false ⟨r, 0, 0⟩ = ((namesO l r []).1, ⟨(namesO l r []).2.2, 0, 0⟩) ∧ lastOf (namesO l r []).2.1 (namesO l r []).2.2 = ll ∧ Tvs (namesO l r []).2.2 :=
  names_ag ll r l [] (r.length + 2) (by omega) hl hv
theorem bad_ne0 {ll er : Int} {rest : List Tok} (her : er ≠ 0) : (St.bad ll er ⟨rest, 0, 0⟩).e ≠ 0 := by unfold St.bad; cases rest <;> simp [her]
theorem want_name {last : Int} {rest : List Tok} : wantO sName last rest = if kindL rest = 1 then takeO last rest else refuseO 3 last rest := by
  unfold wantO
  by_cases g : kindL rest = 1
  · rw [if_pos g, if_pos ((kName _).1 g)]
  · rw [if_neg g, if_neg (fun h => g ((kName _).2 h))]
theorem bind_sim {ll : Int} {ex : Par Ex} {dx : Dp Ex} (hx : Sim ll ex dx) (hd : Dead dx) : Sim ll (bindO ex) (bindD ll dx) := by
  intro last rest hl hv
  unfold bindO bindD
  rw [want_name]
  by_cases g : kindL rest = 1
  · rw [if_pos g]
    obtain ⟨y, r, rfl, -⟩ := tok_ok (ll := ll) (k := 1) (by decide) g
    obtain ⟨e1, e2, e3⟩ := names1_ok (ll := ll) g hl hv.tail
    rw [e1]
    simp only [takeO, Out.bind, List.headD_cons, List.tail_cons]
    refine (want_ag (sh := sEq) (by decide) (sees_sign (by unfold Sm; decide) e3) e2 e3).of (fun a l r ho hs hl hv => ?_) (fun he => hd _ he)
    rw [hs]
    refine (hx l r hl hv).of (fun b l2 r2 ho2 hs2 hl2 hv2 => ?_) (fun he => ⟨rfl, rfl⟩)
    rw [hs2]
    exact .done rfl hl2 hv2
  · rw [if_neg g, names1_bad g, refuseO_eq]
    have hb := bad_ne0 (ll := ll) (er := 3) (rest := rest) (by decide)
    rw [need_dead hb]
    have h := refuse_ag (α := Tok) (ll := ll) (er := 3) (by decide) hl
    rw [refuseO_eq] at h
    obtain ⟨h1, h2, h3⟩ := h
    obtain ⟨d1, d2⟩ := hd _ hb
    exact ⟨h1, d1.trans h2, d2.trans h3⟩
theorem more_sim {α : Type} {ll : Int} {item : Par α} {d : Dp α} (hi : Sim ll item d) (hd : Dead d) : ∀ (n : Nat) (acc : List α), Sim ll (moreO item n acc) (moreD d n acc)
  | 0, acc => fun last rest hl hv => .done rfl hl hv
  | n + 1, acc => fun last rest hl hv => by
    have hs : seesL [59] rest = true ↔ shapeL rest = sSemi := sees_sign (by unfold Sm; decide) hv
    unfold moreO moreD
    by_cases g : shapeL rest = sSemi
    · rw [if_pos g, if_pos ⟨rfl, hs.2 g⟩]
      obtain ⟨y, q, rfl⟩ := take_of g (by decide)
      simp only [takeO, Out.bind]
      rw [show St.next ⟨y :: q, 0, 0⟩ = ⟨q, 0, 0⟩ from rfl]
      refine (hi y.2 q hl hv.tail).of (fun a l r ho hs hl hv => ?_) (fun he => by rw [more_dead _ _ he]; exact ⟨rfl, rfl⟩)
      rw [hs]
      exact more_sim hi hd n _ l r hl hv
    · rw [if_neg g, if_neg (fun h => g (hs.1 h.2))]
      exact .done rfl hl hv
theorem some_sim {α : Type} {ll : Int} {item : Par α} {d : Dp α} (hi : Sim ll item d) (hd : Dead d) : Sim ll (someO item) (someD d) := by
  intro last rest hl hv
  unfold someO someD
  refine (hi last rest hl hv).of (fun a l r ho hs hl hv => ?_) (fun he => by rw [more_dead _ _ he]; exact ⟨rfl, rfl⟩)
  rw [hs]
  exact more_sim hi hd _ _ l r hl hv
end Go.Proofs.Ytdjcdecbmeickaa
