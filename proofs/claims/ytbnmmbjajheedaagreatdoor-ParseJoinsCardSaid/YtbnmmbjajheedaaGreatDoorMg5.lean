import Derived.Shelf.Abstract
import Derived.Test.YtbnmmbjajheedaaGreatDoorMg4
namespace Go.Proofs.YtbnmmbjajheedaaGreatDoor
set_option maxHeartbeats 64000000
set_option maxRecDepth 100000
open Go.RowKit Go.Lib
def RowAt (W : World) (K : Nat → Prop) (e : TypeId) (size : Nat) (v : Value) (n : Nat) (xs : List Value) : Prop :=
 xs.length = n * size ∧ ((v = .slice none 0 0 ∧ n = 0) ∨ ∃ g o c cur, v = .slice (some ⟨g, o, none⟩) n c ∧ K g ∧ W.heap[g]? = some (.cells cur e (0, 0)) ∧ n ≤ c ∧ c ≤ maxLen ∧ ∀ j u, xs[j]? = some u → W.cell? ⟨g, o + j, none⟩ = some u)
theorem RowAt.move {W W' : World} {K K' : Nat → Prop} (hK : ∀ g, K g → g < W.heap.size → K' g ∧ W'.heap[g]? = W.heap[g]?) {e : TypeId} {size : Nat} {v : Value} {n : Nat} {xs : List Value} (h : RowAt W K e size v n xs) : RowAt W' K' e size v n xs := by
 obtain ⟨h0, ⟨rfl, rfl⟩ | ⟨g, o, c, cur, rfl, hk, hc, h1, h2, h3⟩⟩ := h
 ·exact ⟨h0, Or.inl ⟨rfl, rfl⟩⟩
 ·have lt : g < W.heap.size := by
   rcases Nat.lt_or_ge g W.heap.size with h' | h'
   ·exact h'
   ·rw [Array.getElem?_eq_none h'] at hc; cases hc
  obtain ⟨k1, k2⟩ := hK g hk lt
  exact ⟨h0, Or.inr ⟨g, o, c, cur, rfl, k1, k2.trans hc, h1, h2, fun j u hj => (World.cell?_of_block (a := ⟨g, o + j, none⟩) k2).trans (h3 j u hj)⟩⟩
theorem RowAt.of {W : World} {base : Nat} {K : Nat → Prop} {e : TypeId} {size : Nat} {v : Value} {n : Nat} {xs : List Value} (h : W.ownsRow base e size v n xs) (hk : ∀ g, base ≤ g → K g) : RowAt W K e size v n xs := by
 obtain ⟨h0, ⟨rfl, rfl⟩ | ⟨g, cap, cur, rfl, hb, hc, h1, h2, -, h4⟩⟩ := h
 ·exact ⟨h0, Or.inl ⟨rfl, rfl⟩⟩
 ·refine ⟨h0, Or.inr ⟨g, 0, cap, cur, rfl, hk g hb, hc, h1, h2, fun j u hj => ?_⟩⟩
  rw [Nat.zero_add, cell_of_row W g j cur e (0, 0) hc]
  rw [← h4] at hj
  have := List.getElem?_take (l := cur.toList) (i := n * size) (j := j)
  rw [hj] at this
  split at this
  ·simpa using this.symm
  ·cases this
theorem RowAt.nil (W : World) (K : Nat → Prop) (e : TypeId) (size : Nat) : RowAt W K e size (.slice none 0 0) 0 [] := ⟨by simp, Or.inl ⟨rfl, rfl⟩⟩
theorem RowAt.sl {W : World} {K : Nat → Prop} {e : TypeId} {size : Nat} {v : Value} {n : Nat} {xs : List Value} (h : RowAt W K e size v n xs) : ∃ a c, v = .slice a n c := by
 obtain ⟨_, ⟨rfl, rfl⟩ | ⟨g, o, c, cur, rfl, -⟩⟩ := h
 ·exact ⟨_, _, rfl⟩
 ·exact ⟨_, _, rfl⟩
theorem RowAt.slice {W : World} {K : Nat → Prop} {e : TypeId} {size : Nat} {v : Value} {n : Nat} {xs : List Value} (h : RowAt W K e size v n xs) : ∃ a n c, v = .slice a n c := by
 obtain ⟨a, c, h⟩ := h.sl
 exact ⟨a, n, c, h⟩
theorem RowAt.cap {W : World} {K : Nat → Prop} {e : TypeId} {size : Nat} {v : Value} {n : Nat} {xs : List Value} (h : RowAt W K e size v n xs) : n ≤ maxLen := by
 obtain ⟨_, ⟨rfl, rfl⟩ | ⟨g, o, c, cur, rfl, -, -, h1, h2, -⟩⟩ := h
 ·exact Nat.zero_le _
 ·omega
theorem RowAt.at {W : World} {K : Nat → Prop} {e : TypeId} {size : Nat} {a : Option Addr} {n c : Nat} {xs : List Value} (h : RowAt W K e size (.slice a n c) n xs) (hn : 0 < n) : ∃ g o, a = some ⟨g, o, none⟩ ∧ n ≤ c ∧ c ≤ maxLen ∧ K g ∧ ∀ j u, xs[j]? = some u → W.cell? ⟨g, o + j, none⟩ = some u := by
 obtain ⟨_, ⟨e, rfl⟩ | ⟨g, o, c', cur, e, hk, -, h1, h2, h3⟩⟩ := h
 ·omega
 ·cases e
  exact ⟨g, o, rfl, h1, h2, hk, h3⟩
theorem RowAt.tail {W : World} {K : Nat → Prop} {e : TypeId} {size n g o c : Nat} {cs xs : List Value} (h : RowAt W K e size (.slice (some ⟨g, o, none⟩) (n + 1) c) (n + 1) (cs ++ xs)) (hs : cs.length = size) {o' : Nat} (ho : n = 0 ∨ o' = o + size) : RowAt W K e size (.slice (some ⟨g, o', none⟩) n (c - 1)) n xs := by
 obtain ⟨h0, ⟨e, h⟩ | ⟨g', o2, c', cur, e, hk, hc, h1, h2, h3⟩⟩ := h
 ·omega
 ·cases e
  have hx : xs.length = n * size := by
   rw [List.length_append, Nat.succ_mul] at h0
   omega
  refine ⟨hx, Or.inr ⟨g, o', c - 1, cur, rfl, hk, hc, by omega, by omega, fun j u hj => ?_⟩⟩
  rcases ho with rfl | rfl
  ·rw [Nat.zero_mul] at hx
   cases xs with
   | nil => cases hj
   | cons x xs => simp at hx
  ·have := h3 (size + j) u (by rw [List.getElem?_append_right (by omega), hs, Nat.add_sub_cancel_left]; exact hj)
   rwa [← Nat.add_assoc] at this
def namesV (l : List Nm) : List Value := l.map fun x => .string (tx x)
mutual
inductive ExAt (W : World) (K : Nat → Prop) : Ex → List Value → Prop
 | mk (k : Int) (n : Nm) (f : Bool) (x : Int) (ps : List Nm) (ks : List Ex) (bs : List Bnd) (al : List Alt) (vp vk vb va : Value) (xk xb xa : List Value)
  (hp : RowAt W K 9 1 vp ps.length (namesV ps)) (hk : RowAt W K 49 8 vk ks.length xk) (hb : RowAt W K 51 10 vb bs.length xb) (ha : RowAt W K 87 13 va al.length xa)
  (tk : ExsAt W K ks xk) (tb : BndsAt W K bs xb) (ta : AltsAt W K al xa) : ExAt W K (.mk k n f x ps ks bs al) [.int .i64 k, .string (tx n), .bool f, .int .u64 x, vp, vk, vb, va]
inductive ExsAt (W : World) (K : Nat → Prop) : List Ex → List Value → Prop
 | nil : ExsAt W K [] []
 | cons (e : Ex) (es : List Ex) (cs xs : List Value) (h : ExAt W K e cs) (t : ExsAt W K es xs) : ExsAt W K (e :: es) (cs ++ xs)
inductive BndsAt (W : World) (K : Nat → Prop) : List Bnd → List Value → Prop
 | nil : BndsAt W K [] []
 | cons (n : Nm) (ps : List Nm) (e : Ex) (bs : List Bnd) (vp : Value) (cs xs : List Value) (hp : RowAt W K 9 1 vp ps.length (namesV ps)) (h : ExAt W K e cs) (t : BndsAt W K bs xs) : BndsAt W K ((n, ps, e) :: bs) (.string (tx n) :: vp :: cs ++ xs)
inductive AltsAt (W : World) (K : Nat → Prop) : List Alt → List Value → Prop
 | nil : AltsAt W K [] []
 | cons (k : Int) (n : Nm) (f : Bool) (x : Int) (ps : List Nm) (e : Ex) (al : List Alt) (vp : Value) (cs xs : List Value) (hp : RowAt W K 9 1 vp ps.length (namesV ps)) (h : ExAt W K e cs) (t : AltsAt W K al xs) : AltsAt W K ((k, n, f, x, ps, e) :: al) (.int .i64 k :: .string (tx n) :: .bool f :: .int .u64 x :: vp :: cs ++ xs)
end
theorem ExAt.move {W W' : World} {K K' : Nat → Prop} (hK : ∀ g, K g → g < W.heap.size → K' g ∧ W'.heap[g]? = W.heap[g]?) {e : Ex} {cs : List Value} (h : ExAt W K e cs) : ExAt W' K' e cs :=
 ExAt.rec (motive_1 := fun e cs _ => ExAt W' K' e cs) (motive_2 := fun es xs _ => ExsAt W' K' es xs) (motive_3 := fun bs xs _ => BndsAt W' K' bs xs) (motive_4 := fun al xs _ => AltsAt W' K' al xs)
  (fun k n f x ps ks bs al vp vk vb va xk xb xa hp hk hb ha _ _ _ t1 t2 t3 => .mk k n f x ps ks bs al vp vk vb va xk xb xa (hp.move hK) (hk.move hK) (hb.move hK) (ha.move hK) t1 t2 t3)
  .nil (fun e es cs xs _ _ h t => .cons e es cs xs h t) .nil (fun n ps e bs vp cs xs hp _ _ h t => .cons n ps e bs vp cs xs (hp.move hK) h t) .nil (fun k n f x ps e al vp cs xs hp _ _ h t => .cons k n f x ps e al vp cs xs (hp.move hK) h t) h
theorem ExsAt.move {W W' : World} {K K' : Nat → Prop} (hK : ∀ g, K g → g < W.heap.size → K' g ∧ W'.heap[g]? = W.heap[g]?) : ∀ {es : List Ex} {xs : List Value}, ExsAt W K es xs → ExsAt W' K' es xs
 | [], _, .nil => .nil
 | e :: es, _, .cons _ _ cs xs h t => .cons e es cs xs (h.move hK) (t.move hK)
theorem BndsAt.move {W W' : World} {K K' : Nat → Prop} (hK : ∀ g, K g → g < W.heap.size → K' g ∧ W'.heap[g]? = W.heap[g]?) : ∀ {bs : List Bnd} {xs : List Value}, BndsAt W K bs xs → BndsAt W' K' bs xs
 | [], _, .nil => .nil
 | _ :: _, _, .cons n ps e bs vp cs xs hp h t => .cons n ps e bs vp cs xs (hp.move hK) (h.move hK) (t.move hK)
theorem AltsAt.move {W W' : World} {K K' : Nat → Prop} (hK : ∀ g, K g → g < W.heap.size → K' g ∧ W'.heap[g]? = W.heap[g]?) : ∀ {al : List Alt} {xs : List Value}, AltsAt W K al xs → AltsAt W' K' al xs
 | [], _, .nil => .nil
 | _ :: _, _, .cons k n f x ps e al vp cs xs hp h t => .cons k n f x ps e al vp cs xs (hp.move hK) (h.move hK) (t.move hK)
theorem ExsAt.snoc {W : World} {K : Nat → Prop} : ∀ {es : List Ex} {xs : List Value} {e : Ex} {cs : List Value}, ExsAt W K es xs → ExAt W K e cs → ExsAt W K (es ++ [e]) (xs ++ cs)
 | [], _, e, cs, .nil, h => by simpa using ExsAt.cons e [] cs [] h .nil
 | e0 :: es, _, e, cs, .cons _ _ c0 x0 h0 t0, h => by simpa [List.append_assoc] using ExsAt.cons e0 _ c0 _ h0 (t0.snoc h)
def ExV (lo : Nat) (x : Ex) (e : Ending) (w : World) : Prop :=
 ∃ k n f u vp vk vb va, e = .returned (.agg #[.int .i64 k, .string n, .bool f, .int .u64 u, vp, vk, vb, va]) ∧ ExAt w (fun g => lo ≤ g) x [.int .i64 k, .string n, .bool f, .int .u64 u, vp, vk, vb, va]
theorem ExAt.leaf (W : World) (K : Nat → Prop) (k : Int) (n : Nm) : ExAt W K (.leaf k n) [.int .i64 k, .string (tx n), .bool false, .int .u64 0, .slice none 0 0, .slice none 0 0, .slice none 0 0, .slice none 0 0] :=
 .mk k n false 0 [] [] [] [] _ _ _ _ [] [] [] (RowAt.nil _ _ _ _) (RowAt.nil _ _ _ _) (RowAt.nil _ _ _ _) (RowAt.nil _ _ _ _) .nil .nil .nil
theorem ExAt.num (W : World) (K : Nat → Prop) (f : Bool) (x : Int) : ExAt W K (.num f x) [.int .i64 3, .string (tx []), .bool f, .int .u64 x, .slice none 0 0, .slice none 0 0, .slice none 0 0, .slice none 0 0] :=
 .mk 3 [] f x [] [] [] [] _ _ _ _ [] [] [] (RowAt.nil _ _ _ _) (RowAt.nil _ _ _ _) (RowAt.nil _ _ _ _) (RowAt.nil _ _ _ _) .nil .nil .nil
theorem set8 {W : World} {b : Nat} {u0 u1 u2 u3 u4 u5 u6 u7 : Value} (h0 : W.cell? ⟨b, 0, none⟩ = some u0) (h1 : W.cell? ⟨b, 1, none⟩ = some u1) (h2 : W.cell? ⟨b, 2, none⟩ = some u2) (h3 : W.cell? ⟨b, 3, none⟩ = some u3) (h4 : W.cell? ⟨b, 4, none⟩ = some u4) (h5 : W.cell? ⟨b, 5, none⟩ = some u5) (h6 : W.cell? ⟨b, 6, none⟩ = some u6) (h7 : W.cell? ⟨b, 7, none⟩ = some u7) (v0 v1 v2 v3 v4 v5 v6 v7 : Value) : (((((((((((((((W.setCell ⟨b, 0, none⟩ v0)).setCell ⟨b, 1, none⟩ v1)).setCell ⟨b, 2, none⟩ v2)).setCell ⟨b, 3, none⟩ v3)).setCell ⟨b, 4, none⟩ v4)).setCell ⟨b, 5, none⟩ v5)).setCell ⟨b, 6, none⟩ v6)).setCell ⟨b, 7, none⟩ v7).cell? ⟨b, 0, none⟩ = some v0 ∧ (((((((((((((((W.setCell ⟨b, 0, none⟩ v0)).setCell ⟨b, 1, none⟩ v1)).setCell ⟨b, 2, none⟩ v2)).setCell ⟨b, 3, none⟩ v3)).setCell ⟨b, 4, none⟩ v4)).setCell ⟨b, 5, none⟩ v5)).setCell ⟨b, 6, none⟩ v6)).setCell ⟨b, 7, none⟩ v7).cell? ⟨b, 1, none⟩ = some v1 ∧ (((((((((((((((W.setCell ⟨b, 0, none⟩ v0)).setCell ⟨b, 1, none⟩ v1)).setCell ⟨b, 2, none⟩ v2)).setCell ⟨b, 3, none⟩ v3)).setCell ⟨b, 4, none⟩ v4)).setCell ⟨b, 5, none⟩ v5)).setCell ⟨b, 6, none⟩ v6)).setCell ⟨b, 7, none⟩ v7).cell? ⟨b, 2, none⟩ = some v2 ∧ (((((((((((((((W.setCell ⟨b, 0, none⟩ v0)).setCell ⟨b, 1, none⟩ v1)).setCell ⟨b, 2, none⟩ v2)).setCell ⟨b, 3, none⟩ v3)).setCell ⟨b, 4, none⟩ v4)).setCell ⟨b, 5, none⟩ v5)).setCell ⟨b, 6, none⟩ v6)).setCell ⟨b, 7, none⟩ v7).cell? ⟨b, 3, none⟩ = some v3 ∧ (((((((((((((((W.setCell ⟨b, 0, none⟩ v0)).setCell ⟨b, 1, none⟩ v1)).setCell ⟨b, 2, none⟩ v2)).setCell ⟨b, 3, none⟩ v3)).setCell ⟨b, 4, none⟩ v4)).setCell ⟨b, 5, none⟩ v5)).setCell ⟨b, 6, none⟩ v6)).setCell ⟨b, 7, none⟩ v7).cell? ⟨b, 4, none⟩ = some v4 ∧ (((((((((((((((W.setCell ⟨b, 0, none⟩ v0)).setCell ⟨b, 1, none⟩ v1)).setCell ⟨b, 2, none⟩ v2)).setCell ⟨b, 3, none⟩ v3)).setCell ⟨b, 4, none⟩ v4)).setCell ⟨b, 5, none⟩ v5)).setCell ⟨b, 6, none⟩ v6)).setCell ⟨b, 7, none⟩ v7).cell? ⟨b, 5, none⟩ = some v5 ∧ (((((((((((((((W.setCell ⟨b, 0, none⟩ v0)).setCell ⟨b, 1, none⟩ v1)).setCell ⟨b, 2, none⟩ v2)).setCell ⟨b, 3, none⟩ v3)).setCell ⟨b, 4, none⟩ v4)).setCell ⟨b, 5, none⟩ v5)).setCell ⟨b, 6, none⟩ v6)).setCell ⟨b, 7, none⟩ v7).cell? ⟨b, 6, none⟩ = some v6 ∧ (((((((((((((((W.setCell ⟨b, 0, none⟩ v0)).setCell ⟨b, 1, none⟩ v1)).setCell ⟨b, 2, none⟩ v2)).setCell ⟨b, 3, none⟩ v3)).setCell ⟨b, 4, none⟩ v4)).setCell ⟨b, 5, none⟩ v5)).setCell ⟨b, 6, none⟩ v6)).setCell ⟨b, 7, none⟩ v7).cell? ⟨b, 7, none⟩ = some v7 :=
 ⟨((at_oth _ b 7 0 _ (by decide)).trans ((at_oth _ b 6 0 _ (by decide)).trans ((at_oth _ b 5 0 _ (by decide)).trans ((at_oth _ b 4 0 _ (by decide)).trans ((at_oth _ b 3 0 _ (by decide)).trans ((at_oth _ b 2 0 _ (by decide)).trans ((at_oth _ b 1 0 _ (by decide)).trans (at_sam v0 h0)))))))), ((at_oth _ b 7 1 _ (by decide)).trans ((at_oth _ b 6 1 _ (by decide)).trans ((at_oth _ b 5 1 _ (by decide)).trans ((at_oth _ b 4 1 _ (by decide)).trans ((at_oth _ b 3 1 _ (by decide)).trans ((at_oth _ b 2 1 _ (by decide)).trans (at_sam v1 ((at_oth _ b 0 1 _ (by decide)).trans h1)))))))), ((at_oth _ b 7 2 _ (by decide)).trans ((at_oth _ b 6 2 _ (by decide)).trans ((at_oth _ b 5 2 _ (by decide)).trans ((at_oth _ b 4 2 _ (by decide)).trans ((at_oth _ b 3 2 _ (by decide)).trans (at_sam v2 ((at_oth _ b 1 2 _ (by decide)).trans ((at_oth _ b 0 2 _ (by decide)).trans h2)))))))), ((at_oth _ b 7 3 _ (by decide)).trans ((at_oth _ b 6 3 _ (by decide)).trans ((at_oth _ b 5 3 _ (by decide)).trans ((at_oth _ b 4 3 _ (by decide)).trans (at_sam v3 ((at_oth _ b 2 3 _ (by decide)).trans ((at_oth _ b 1 3 _ (by decide)).trans ((at_oth _ b 0 3 _ (by decide)).trans h3)))))))), ((at_oth _ b 7 4 _ (by decide)).trans ((at_oth _ b 6 4 _ (by decide)).trans ((at_oth _ b 5 4 _ (by decide)).trans (at_sam v4 ((at_oth _ b 3 4 _ (by decide)).trans ((at_oth _ b 2 4 _ (by decide)).trans ((at_oth _ b 1 4 _ (by decide)).trans ((at_oth _ b 0 4 _ (by decide)).trans h4)))))))), ((at_oth _ b 7 5 _ (by decide)).trans ((at_oth _ b 6 5 _ (by decide)).trans (at_sam v5 ((at_oth _ b 4 5 _ (by decide)).trans ((at_oth _ b 3 5 _ (by decide)).trans ((at_oth _ b 2 5 _ (by decide)).trans ((at_oth _ b 1 5 _ (by decide)).trans ((at_oth _ b 0 5 _ (by decide)).trans h5)))))))), ((at_oth _ b 7 6 _ (by decide)).trans (at_sam v6 ((at_oth _ b 5 6 _ (by decide)).trans ((at_oth _ b 4 6 _ (by decide)).trans ((at_oth _ b 3 6 _ (by decide)).trans ((at_oth _ b 2 6 _ (by decide)).trans ((at_oth _ b 1 6 _ (by decide)).trans ((at_oth _ b 0 6 _ (by decide)).trans h6)))))))), (at_sam v7 ((at_oth _ b 6 7 _ (by decide)).trans ((at_oth _ b 5 7 _ (by decide)).trans ((at_oth _ b 4 7 _ (by decide)).trans ((at_oth _ b 3 7 _ (by decide)).trans ((at_oth _ b 2 7 _ (by decide)).trans ((at_oth _ b 1 7 _ (by decide)).trans ((at_oth _ b 0 7 _ (by decide)).trans h7))))))))⟩
theorem Rdr.over8 {W : World} {b me ma : Nat} {last : Int} {rest : List Tok} {d : Nat} (h : Rdr W b me ma last rest d) {p : Nat} (hp : b < p) (v0 v1 v2 v3 v4 v5 v6 v7 : Value) : Rdr (((((((((((((((W.setCell ⟨p, 0, none⟩ v0)).setCell ⟨p, 1, none⟩ v1)).setCell ⟨p, 2, none⟩ v2)).setCell ⟨p, 3, none⟩ v3)).setCell ⟨p, 4, none⟩ v4)).setCell ⟨p, 5, none⟩ v5)).setCell ⟨p, 6, none⟩ v6)).setCell ⟨p, 7, none⟩ v7) b me ma last rest d := ((((((((h.over hp _).over hp _).over hp _).over hp _).over hp _).over hp _).over hp _).over hp _)
theorem grown_new8 {w W : World} {b p : Nat} (h : w.grownBy W (some b)) (hp : w.heap.size ≤ p) (v0 v1 v2 v3 v4 v5 v6 v7 : Value) : w.grownBy (((((((((((((((W.setCell ⟨p, 0, none⟩ v0)).setCell ⟨p, 1, none⟩ v1)).setCell ⟨p, 2, none⟩ v2)).setCell ⟨p, 3, none⟩ v3)).setCell ⟨p, 4, none⟩ v4)).setCell ⟨p, 5, none⟩ v5)).setCell ⟨p, 6, none⟩ v6)).setCell ⟨p, 7, none⟩ v7) (some b) := grown_new (grown_new (grown_new (grown_new (grown_new (grown_new (grown_new (grown_new h hp _) hp _) hp _) hp _) hp _) hp _) hp _) hp _
theorem numAtom_any (b me ma : Nat) (last : Int) (y : Tok) (r : List Tok) (d : Nat) (w : World) (hR : Rdr w b me ma last (y :: r) d) : Calls Tryz.prog 57 #[.pointer (some ⟨b, 0, none⟩)] w (OutSaid b me ma d (ExV w.heap.size) (.ok (.num y.1.f y.1.x) y.2 r) w) := by
 have hlt : b < w.heap.size := Bl hR.c1
 have hx := (Below.refl w.heap.size w).alloc Nr (.cells #[.int .i64 0, .string ⟨#[]⟩, .bool false, .int .u64 0, .slice none 0 0, .slice none 0 0, .slice none 0 0, .slice none 0 0] 49)
 have c := fun j v (h : (#[Value.int .i64 0, .string ⟨#[]⟩, .bool false, .int .u64 0, .slice none 0 0, .slice none 0 0, .slice none 0 0, .slice none 0 0] : Array Value)[j]? = some v) => (show (w.alloc (.cells #[.int .i64 0, .string ⟨#[]⟩, .bool false, .int .u64 0, .slice none 0 0, .slice none 0 0, .slice none 0 0, .slice none 0 0] 49)).cell? ⟨w.heap.size, j, none⟩ = some v by simpa [go_sem] using h)
 have z : ∀ j, (w.alloc (.cells #[.int .i64 0, .string ⟨#[]⟩, .bool false, .int .u64 0, .slice none 0 0, .slice none 0 0, .slice none 0 0, .slice none 0 0] 49)).frozen? ⟨w.heap.size, j, none⟩ = false := fun j => by simp
 have HX := Hd (Ai hx (Ai (hR.later hx) (Ai c z)))
 clear hx c z hR
 go_enter Tryz.func57, Tryz.ntmps57
 go_upto_region 1 with fail
 generalize (w.alloc (.cells #[.int .i64 0, .string ⟨#[]⟩, .bool false, .int .u64 0, .slice none 0 0, .slice none 0 0, .slice none 0 0, .slice none 0 0] 49)) = W at *
 have HT := Hd (take_any b me ma last y r d W HX.out.2.1)
 go_wp2_with fail
 refine HT.out.mono ?_
 rintro e w3 ⟨rfl, hR3, hg3⟩
 have hn' : some w.heap.size ≠ some b := by simp; omega
 have lt : w.heap.size < W.heap.size := Bl (HX.out.2.2.1 0 _ rfl)
 have c := fun j v h => hg3.cell (HX.out.2.2.1 j v h) hn'
 have z : ∀ j, w3.frozen? ⟨w.heap.size, j, none⟩ = false := fun j => (World.frozen?_of_block (w := W) (hg3.block _ lt hn')).trans (HX.out.2.2.2 j)
 have d0 : w3.cell? ⟨w.heap.size, 0, none⟩ = some (.int .i64 0) := c 0 _ rfl
 have d1 : w3.cell? ⟨w.heap.size, 1, none⟩ = some (.string ⟨#[]⟩) := c 1 _ rfl
 have d2 : w3.cell? ⟨w.heap.size, 2, none⟩ = some (.bool false) := c 2 _ rfl
 have d3 : w3.cell? ⟨w.heap.size, 3, none⟩ = some (.int .u64 0) := c 3 _ rfl
 have d4 : w3.cell? ⟨w.heap.size, 4, none⟩ = some (.slice none 0 0) := c 4 _ rfl
 have d5 : w3.cell? ⟨w.heap.size, 5, none⟩ = some (.slice none 0 0) := c 5 _ rfl
 have d6 : w3.cell? ⟨w.heap.size, 6, none⟩ = some (.slice none 0 0) := c 6 _ rfl
 have d7 : w3.cell? ⟨w.heap.size, 7, none⟩ = some (.slice none 0 0) := c 7 _ rfl
 have z0 := z 0
 have z1 := z 1
 have z2 := z 2
 have z3 := z 3
 have z4 := z 4
 have z5 := z 5
 have z6 := z 6
 have z7 := z 7
 have hf2 := fun W => tok_field2 y.1.k (tx y.1.t) y.1.f y.1.x y.2 W
 have H3 := Hd (Ai hR3 (Gt (grown_of HX.out.1) hg3))
 clear hR3 hg3 HT HX c z lt
 go_wp2_with fail
 obtain ⟨v0, v1, v2, v3, v4, v5, v6, v7⟩ := set8 d0 d1 d2 d3 d4 d5 d6 d7 (.int .i64 3) (.string ⟨#[]⟩) (.bool y.1.f) (.int .u64 y.1.x) (.slice none 0 0) (.slice none 0 0) (.slice none 0 0) (.slice none 0 0)
 refine bodyPost_ret (v := .agg #[.int .i64 3, .string ⟨#[]⟩, .bool y.1.f, .int .u64 y.1.x, .slice none 0 0, .slice none 0 0, .slice none 0 0, .slice none 0 0]) (by simp [results, Tryz.results57, go_sem, v0, v1, v2, v3, v4, v5, v6, v7]) rfl ?_
 exact ⟨⟨_, _, _, _, _, _, _, _, rfl, ExAt.num _ _ _ _⟩, H3.out.1.over8 hlt _ _ _ _ _ _ _ _, grown_new8 H3.out.2 Nr _ _ _ _ _ _ _ _⟩
def Box8 (p : Nat) (w3 : World) : Prop := w3.cell? ⟨p, 0, none⟩ = some (.int .i64 0) ∧ w3.cell? ⟨p, 1, none⟩ = some (.string ⟨#[]⟩) ∧ w3.cell? ⟨p, 2, none⟩ = some (.bool false) ∧ w3.cell? ⟨p, 3, none⟩ = some (.int .u64 0) ∧ w3.cell? ⟨p, 4, none⟩ = some (.slice none 0 0) ∧ w3.cell? ⟨p, 5, none⟩ = some (.slice none 0 0) ∧ w3.cell? ⟨p, 6, none⟩ = some (.slice none 0 0) ∧ w3.cell? ⟨p, 7, none⟩ = some (.slice none 0 0) ∧ w3.frozen? ⟨p, 0, none⟩ = false ∧ w3.frozen? ⟨p, 1, none⟩ = false ∧ w3.frozen? ⟨p, 2, none⟩ = false ∧ w3.frozen? ⟨p, 3, none⟩ = false ∧ w3.frozen? ⟨p, 4, none⟩ = false ∧ w3.frozen? ⟨p, 5, none⟩ = false ∧ w3.frozen? ⟨p, 6, none⟩ = false ∧ w3.frozen? ⟨p, 7, none⟩ = false
theorem box8 (w : World) (b : Nat) (hb : b < w.heap.size) : ∀ w3, (w.alloc (.cells #[.int .i64 0, .string ⟨#[]⟩, .bool false, .int .u64 0, .slice none 0 0, .slice none 0 0, .slice none 0 0, .slice none 0 0] 49)).grownBy w3 (some b) → Box8 w.heap.size w3 := by
 intro w3 hg
 have hn' : some w.heap.size ≠ some b := by simp; omega
 have c := fun j v (h : (#[.int .i64 0, .string ⟨#[]⟩, .bool false, .int .u64 0, .slice none 0 0, .slice none 0 0, .slice none 0 0, .slice none 0 0] : Array Value)[j]? = some v) => hg.cell (show (w.alloc (.cells #[.int .i64 0, .string ⟨#[]⟩, .bool false, .int .u64 0, .slice none 0 0, .slice none 0 0, .slice none 0 0, .slice none 0 0] 49)).cell? ⟨w.heap.size, j, none⟩ = some v by simpa [go_sem] using h) hn'
 have z : ∀ j, w3.frozen? ⟨w.heap.size, j, none⟩ = false := fun j => (World.frozen?_of_block (w := (w.alloc (.cells #[.int .i64 0, .string ⟨#[]⟩, .bool false, .int .u64 0, .slice none 0 0, .slice none 0 0, .slice none 0 0, .slice none 0 0] 49))) (hg.block _ (by simp) hn')).trans (by simp)
 exact ⟨c 0 _ rfl, c 1 _ rfl, c 2 _ rfl, c 3 _ rfl, c 4 _ rfl, c 5 _ rfl, c 6 _ rfl, c 7 _ rfl, z 0, z 1, z 2, z 3, z 4, z 5, z 6, z 7⟩
theorem named_any (gk gr : Nat) (k : Int) (b me ma : Nat) (last : Int) (y : Tok) (r : List Tok) (d : Nat) (w : World) (hR : Rdr w b me ma last (y :: r) d) (hk : w.cell? ⟨gk, 0, none⟩ = some (.int .i64 k)) (hr : w.cell? ⟨gr, 0, none⟩ = some (.pointer (some ⟨b, 0, none⟩))) (hkb : gk ≠ b) : Calls Tryz.prog 93 #[.pointer (some ⟨gk, 0, none⟩), .pointer (some ⟨gr, 0, none⟩)] w (OutSaid b me ma d (ExV w.heap.size) (.ok (.leaf k y.1.t) y.2 r) w) := by
 have hlt : b < w.heap.size := Bl hR.c1
 have hx := (Below.refl w.heap.size w).alloc Nr (.cells #[.int .i64 0, .string ⟨#[]⟩, .bool false, .int .u64 0, .slice none 0 0, .slice none 0 0, .slice none 0 0, .slice none 0 0] 49)
 have HX := Hd (Ai hx (Ai (hR.later hx) (box8 w b hlt)))
 have k0 := later' hx hk
 have r0 := later' hx hr
 have hkn : some (⟨gk, 0, none⟩ : Addr).block ≠ some b := by simpa using hkb
 clear hx hR hk hr
 go_enter Tryz.func93, Tryz.ntmps93
 go_upto_region 1 with fail
 generalize (w.alloc (.cells #[.int .i64 0, .string ⟨#[]⟩, .bool false, .int .u64 0, .slice none 0 0, .slice none 0 0, .slice none 0 0, .slice none 0 0] 49)) = W at *
 have HT := Hd (take_any b me ma last y r d W.drew (HX.out.2.1.later (Below.refl W.heap.size W).drew))
 have HK := Hd k0
 have hf1 := fun W => tok_field1 y.1.k (tx y.1.t) y.1.f y.1.x y.2 W
 go_region_with (go_at_call 92; refine HT.out.mono ?_; rintro e w3 ⟨rfl, hR3, hg3'⟩; have hg3 := Gt (grown_of (b := b) (Below.refl W.heap.size W).drew) hg3'; obtain ⟨d0, d1, d2, d3, d4, d5, d6, d7, z0, z1, z2, z3, z4, z5, z6, z7⟩ := HX.out.2.2 w3 hg3; have k3 := hg3.cell HK.out hkn; have H3 := Hd (Ai hR3 (Gt (grown_of HX.out.1) hg3)); clear hR3 hg3 hg3')
 all_goals
  obtain ⟨v0, v1, v2, v3, v4, v5, v6, v7⟩ := set8 d0 d1 d2 d3 d4 d5 d6 d7 (.int .i64 k) (.string (tx y.1.t)) (.bool false) (.int .u64 0) (.slice none 0 0) (.slice none 0 0) (.slice none 0 0) (.slice none 0 0)
  go_wp2_with fail
  refine bodyPost_ret (v := .agg #[.int .i64 k, .string (tx y.1.t), .bool false, .int .u64 0, .slice none 0 0, .slice none 0 0, .slice none 0 0, .slice none 0 0]) (by simp [results, Tryz.results93, go_sem, v0, v1, v2, v3, v4, v5, v6, v7]) rfl ?_
  exact ⟨⟨_, _, _, _, _, _, _, _, rfl, ExAt.leaf _ _ _ _⟩, H3.out.1.over8 hlt _ _ _ _ _ _ _ _, grown_new8 H3.out.2 Nr _ _ _ _ _ _ _ _⟩
def meth (f b : Nat) : Value := .func (.func f) #[.pointer (some ⟨b, 0, none⟩)] #[]
def namer (k r : Nat) : Value := .func (.func 93) #[] #[.pointer (some ⟨k, 0, none⟩), .pointer (some ⟨r, 0, none⟩)]
structure Bx where
 k1 : Nat
 r1 : Nat
 k2 : Nat
 r2 : Nat
 k3 : Nat
 r3 : Nat
def exprForms (b : Nat) : List (Sh × Value) := [(sLet, meth 52 b), (sCase, meth 53 b), (sLam, meth 54 b), (sName, meth 55 b), (sCon, meth 55 b), (sNum, meth 55 b), (sBack, meth 55 b), (sOpen, meth 55 b)]
def atomForms (b : Nat) (B : Bx) : List (Sh × Value) := [(sName, namer B.k1 B.r1), (sCon, namer B.k2 B.r2), (sNum, meth 57 b), (sBack, namer B.k3 B.r3), (sOpen, meth 58 b)]
def BoxAt (W : World) (b k r : Nat) (kind : Int) : Prop := W.cell? ⟨k, 0, none⟩ = some (.int .i64 kind) ∧ W.cell? ⟨r, 0, none⟩ = some (.pointer (some ⟨b, 0, none⟩)) ∧ k ≠ b ∧ r ≠ b
theorem BoxAt.later {W W' : World} {b k r : Nat} {kind : Int} (h : BoxAt W b k r kind) (hb : W.grownBy W' (some b)) : BoxAt W' b k r kind :=
 ⟨hb.cell h.1 (by simpa using h.2.2.1), hb.cell h.2.1 (by simpa using h.2.2.2), h.2.2⟩
structure Ctx (W : World) (b me ma : Nat) (B : Bx) : Prop where
 env : Env8 W b
 ex : KF W me (exprForms b)
 at' : KF W ma (atomForms b B)
 ne : me ≠ b
 na : ma ≠ b
 b1 : BoxAt W b B.k1 B.r1 1
 b2 : BoxAt W b B.k2 B.r2 2
 b3 : BoxAt W b B.k3 B.r3 5
theorem Ctx.later {W W' : World} {b me ma : Nat} {B : Bx} (h : Ctx W b me ma B) (hb : W.grownBy W' (some b)) : Ctx W' b me ma B :=
 ⟨h.env.later hb, h.ex.later hb h.ne, h.at'.later hb h.na, h.ne, h.na, h.b1.later hb, h.b2.later hb, h.b3.later hb⟩
def ExprC (b me ma : Nat) (B : Bx) (n d : Nat) : Prop :=
 ∀ (last : Int) (rest : List Tok) (W : World), rest.length < n → rest.length ≤ 4096 → Ctx W b me ma B → Rdr W b me ma last rest d → Calls Tryz.prog 86 #[.pointer (some ⟨b, 0, none⟩)] W (OutSaid b me ma d (ExV W.heap.size) (exprO n d last rest) W)
theorem wantO_less {s : Sh} (hs : s.1 ≠ 0) {last : Int} {rest : List Tok} {t : Tok} {l : Int} {r : List Tok} (h : wantO s last rest = .ok t l r) : rest = t :: r := by
 unfold wantO at h
 by_cases g : shapeL rest = s
 ·rw [if_pos g] at h
  obtain ⟨y, r', rfl⟩ := take_of g hs
  cases h
  rfl
 ·rw [if_neg g, refuseO_eq] at h
  cases h
theorem ExAt.kept {W W' : World} {lo b : Nat} {x : Ex} {cs : List Value} (h : ExAt W (fun g => lo ≤ g) x cs) (hb : W.grownBy W' (some b)) (hlo : b < lo) {lo' : Nat} (hl : lo' ≤ lo) : ExAt W' (fun g => lo' ≤ g) x cs :=
 h.move fun g hg lt => ⟨Nt hl hg, hb.block g lt (by simp; omega)⟩
theorem ExAt.slices {W : World} {K : Nat → Prop} {x : Ex} {k n f u vp vk vb va : Value} (h : ExAt W K x [k, n, f, u, vp, vk, vb, va]) : (∃ a n c, vp = .slice a n c) ∧ (∃ a n c, vk = .slice a n c) ∧ (∃ a n c, vb = .slice a n c) ∧ (∃ a n c, va = .slice a n c) := by
 cases h with
 | mk _ _ _ _ _ _ _ _ _ _ _ _ _ _ _ hp hk hb ha => exact ⟨hp.slice, hk.slice, hb.slice, ha.slice⟩
theorem set8_grown (W : World) (p : Nat) (v0 v1 v2 v3 v4 v5 v6 v7 : Value) : W.grownBy (((((((((((((((W.setCell ⟨p, 0, none⟩ v0)).setCell ⟨p, 1, none⟩ v1)).setCell ⟨p, 2, none⟩ v2)).setCell ⟨p, 3, none⟩ v3)).setCell ⟨p, 4, none⟩ v4)).setCell ⟨p, 5, none⟩ v5)).setCell ⟨p, 6, none⟩ v6)).setCell ⟨p, 7, none⟩ v7) (some p) := Gt (Gt (Gt (Gt (Gt (Gt (Gt (set_grown _ _ _ _) (set_grown _ _ _ _)) (set_grown _ _ _ _)) (set_grown _ _ _ _)) (set_grown _ _ _ _)) (set_grown _ _ _ _)) (set_grown _ _ _ _)) (set_grown _ _ _ _)
theorem ExAt.over8 {W : World} {lo p : Nat} {x : Ex} {cs : List Value} (h : ExAt W (fun g => lo ≤ g) x cs) (hp : p < lo) (v0 v1 v2 v3 v4 v5 v6 v7 : Value) : ExAt (((((((((((((((W.setCell ⟨p, 0, none⟩ v0)).setCell ⟨p, 1, none⟩ v1)).setCell ⟨p, 2, none⟩ v2)).setCell ⟨p, 3, none⟩ v3)).setCell ⟨p, 4, none⟩ v4)).setCell ⟨p, 5, none⟩ v5)).setCell ⟨p, 6, none⟩ v6)).setCell ⟨p, 7, none⟩ v7) (fun g => p ≤ g) x cs :=
 h.move fun g hg lt => ⟨by omega, (set8_grown W p v0 v1 v2 v3 v4 v5 v6 v7).block g lt (by simp; omega)⟩
theorem inner_any (b me ma : Nat) (B : Bx) (n d : Nat) (hEx : ExprC b me ma B n d) (last : Int) (rest : List Tok) (hn : rest.length ≤ n) (hL : rest.length ≤ 4096) (w : World) (hC : Ctx w b me ma B) (hR : Rdr w b me ma last rest d) : Calls Tryz.prog 58 #[.pointer (some ⟨b, 0, none⟩)] w (OutSaid b me ma d (ExV w.heap.size) (innerO (exprO n d) last rest) w) := by
 have hlt : b < w.heap.size := Bl hR.c1
 have hx := (Below.refl w.heap.size w).alloc Nr (.cells #[.int .i64 0, .string ⟨#[]⟩, .bool false, .int .u64 0, .slice none 0 0, .slice none 0 0, .slice none 0 0, .slice none 0 0] 49)
 have HX := Hd (Ai hx (Ai (hR.later hx) (Ai (box8 w b hlt) (hC.later (grown_of hx)))))
 have hs := HX.out.2.2.2.env.opn.1
 have c0 := hs.1
 have c1 := hs.2
 clear hx hR hs
 go_enter Tryz.func58, Tryz.ntmps58
 go_upto_region 1 with fail
 generalize (w.alloc (.cells #[.int .i64 0, .string ⟨#[]⟩, .bool false, .int .u64 0, .slice none 0 0, .slice none 0 0, .slice none 0 0, .slice none 0 0] 49)) = W at *
 have HW := Hd (want_any b me ma last rest d sOpen (by decide) W HX.out.2.1)
 go_wp2_with fail
 refine HW.out.mono ?_
 rintro e w2 h2
 cases ho : wantO sOpen last rest with
 | bad er ln =>
  rw [ho] at h2
  obtain ⟨hbr, hg2⟩ := h2
  have H2 := Hd (Ai ho (Gt (grown_of (b := b) HX.out.1) hg2))
  unfold Broken at hbr
  subst hbr
  clear hg2 HW ho c0 c1
  go_wp2_with fail
  refine ⟨rfl, ?_⟩
  unfold innerO
  rw [H2.out.1]
  exact ⟨rfl, H2.out.2⟩
 | ok t l r =>
  rw [ho] at h2
  obtain ⟨rfl, hR2, hg2⟩ := h2
  have H2 := Hd (Ai ho (Ai hR2 (Ai hg2 (HX.out.2.2.2.later hg2))))
  have hrr := wantO_less (by decide) ho
  have hr1 : r.length < n := by rw [hrr] at hn; simp only [List.length_cons] at hn; omega
  have hr2 : r.length ≤ 4096 := by rw [hrr] at hL; simp only [List.length_cons] at hL; omega
  have HE := Hd (hEx l r w2 hr1 hr2 H2.out.2.2.2 hR2)
  clear hR2 hg2 HW ho c0 c1 hrr
  go_wp2_with fail
  refine HE.out.mono ?_
  rintro e w3 h3
  cases hx : exprO n d l r with
  | bad er ln =>
   rw [hx] at h3
   obtain ⟨hbr, hg3⟩ := h3
   have H3 := Hd (Ai hx (Gt (Gt (grown_of (b := b) HX.out.1) H2.out.2.2.1) hg3))
   unfold Broken at hbr
   subst hbr
   clear hg3 HE hx
   go_wp2_with fail
   refine ⟨rfl, ?_⟩
   unfold innerO
   rw [H2.out.1]
   simp only [Out.bind]
   rw [H3.out.1]
   exact ⟨rfl, H3.out.2⟩
  | ok x l2 r2 =>
   rw [hx] at h3
   obtain ⟨⟨k, nm, f, u, vp, vk, vb, va, rfl, hat⟩, hR3, hg3⟩ := h3
   obtain ⟨⟨ap, np, cp, rfl⟩, ⟨ak, nk, ck, rfl⟩, ⟨ab, nb, cb, rfl⟩, ⟨aa, na, ca, rfl⟩⟩ := hat.slices
   have hy3 := (Below.refl w3.heap.size w3).alloc Nr (.cells #[.int .i64 k, .string nm, .bool f, .int .u64 u, .slice ap np cp, .slice ak nk ck, .slice ab nb cb, .slice aa na ca] 49)
   have hg23 := Gt (Gt H2.out.2.2.1 hg3) (grown_of (b := b) hy3)
   have hs := ((H2.out.2.2.2.later hg3).later (grown_of (b := b) hy3)).env.shut.1
   have c0 := hs.1
   have c1 := hs.2
   have hb3 : b < w3.heap.size := Bl hR3.c1
   have e0 : (w3.alloc (.cells #[.int .i64 k, .string nm, .bool f, .int .u64 u, .slice ap np cp, .slice ak nk ck, .slice ab nb cb, .slice aa na ca] 49)).cell? ⟨w3.heap.size, 0, none⟩ = some (.int .i64 k) := by simp [go_sem]
   have e1 : (w3.alloc (.cells #[.int .i64 k, .string nm, .bool f, .int .u64 u, .slice ap np cp, .slice ak nk ck, .slice ab nb cb, .slice aa na ca] 49)).cell? ⟨w3.heap.size, 1, none⟩ = some (.string nm) := by simp [go_sem]
   have e2 : (w3.alloc (.cells #[.int .i64 k, .string nm, .bool f, .int .u64 u, .slice ap np cp, .slice ak nk ck, .slice ab nb cb, .slice aa na ca] 49)).cell? ⟨w3.heap.size, 2, none⟩ = some (.bool f) := by simp [go_sem]
   have e3 : (w3.alloc (.cells #[.int .i64 k, .string nm, .bool f, .int .u64 u, .slice ap np cp, .slice ak nk ck, .slice ab nb cb, .slice aa na ca] 49)).cell? ⟨w3.heap.size, 3, none⟩ = some (.int .u64 u) := by simp [go_sem]
   have e4 : (w3.alloc (.cells #[.int .i64 k, .string nm, .bool f, .int .u64 u, .slice ap np cp, .slice ak nk ck, .slice ab nb cb, .slice aa na ca] 49)).cell? ⟨w3.heap.size, 4, none⟩ = some (.slice ap np cp) := by simp [go_sem]
   have e5 : (w3.alloc (.cells #[.int .i64 k, .string nm, .bool f, .int .u64 u, .slice ap np cp, .slice ak nk ck, .slice ab nb cb, .slice aa na ca] 49)).cell? ⟨w3.heap.size, 5, none⟩ = some (.slice ak nk ck) := by simp [go_sem]
   have e6 : (w3.alloc (.cells #[.int .i64 k, .string nm, .bool f, .int .u64 u, .slice ap np cp, .slice ak nk ck, .slice ab nb cb, .slice aa na ca] 49)).cell? ⟨w3.heap.size, 6, none⟩ = some (.slice ab nb cb) := by simp [go_sem]
   have e7 : (w3.alloc (.cells #[.int .i64 k, .string nm, .bool f, .int .u64 u, .slice ap np cp, .slice ak nk ck, .slice ab nb cb, .slice aa na ca] 49)).cell? ⟨w3.heap.size, 7, none⟩ = some (.slice aa na ca) := by simp [go_sem]
   have H3 := Hd (Ai hx (Ai (hR3.later hy3) (Ai hg23 (hat.kept (grown_of (b := b) hy3) (by have := H2.out.2.2.1.size; have := HX.out.1.size; omega) Nr))))
   have hsz : W.heap.size ≤ w2.heap.size := H2.out.2.2.1.size
   have hsz0 : w.heap.size + 1 ≤ W.heap.size := Bl (HX.out.2.2.1 W (grown_of Br)).1
   clear hx hR3 hg3 hg23 hs HE hat hy3
   go_upto_region 3 with fail
   generalize (w3.alloc (.cells #[.int .i64 k, .string nm, .bool f, .int .u64 u, .slice ap np cp, .slice ak nk ck, .slice ab nb cb, .slice aa na ca] 49)) = W4 at *
   have HW := Hd (want_any b me ma l2 r2 d sShut (by decide) W4 H3.out.2.1)
   go_wp2_with fail
   refine HW.out.mono ?_
   rintro e w4 h4
   cases hy : wantO sShut l2 r2 with
   | bad er ln =>
    rw [hy] at h4
    obtain ⟨hbr, hg4⟩ := h4
    have H4 := Hd (Ai hy (Gt (Gt (grown_of (b := b) HX.out.1) H3.out.2.2.1) hg4))
    unfold Broken at hbr
    subst hbr
    clear hg4 HW hy c0 c1
    go_wp2_with fail
    refine ⟨rfl, ?_⟩
    unfold innerO
    rw [H2.out.1]
    simp only [Out.bind]
    rw [H3.out.1]
    simp only
    rw [H4.out.1]
    exact ⟨rfl, H4.out.2⟩
   | ok t2 l3 r3 =>
    rw [hy] at h4
    obtain ⟨rfl, hR4, hg4⟩ := h4
    have H4 := Hd (Ai hy (Ai hR4 (Ai (Gt (Gt (grown_of (b := b) HX.out.1) H3.out.2.2.1) hg4) (H3.out.2.2.2.kept hg4 (by omega) Nr))))
    obtain ⟨d0, d1, d2, d3, d4, d5, d6, d7, z0, z1, z2, z3, z4, z5, z6, z7⟩ := HX.out.2.2.1 w4 (Gt H3.out.2.2.1 hg4)
    have hn3 : ∀ q, some (⟨w3.heap.size, q, none⟩ : Addr).block ≠ some b := fun q => by simp; omega
    replace e0 := hg4.cell e0 (hn3 0)
    replace e1 := hg4.cell e1 (hn3 1)
    replace e2 := hg4.cell e2 (hn3 2)
    replace e3 := hg4.cell e3 (hn3 3)
    replace e4 := hg4.cell e4 (hn3 4)
    replace e5 := hg4.cell e5 (hn3 5)
    replace e6 := hg4.cell e6 (hn3 6)
    replace e7 := hg4.cell e7 (hn3 7)
    clear hy hR4 hg4 HW c0 c1 hn3
    go_wp2_with fail
    obtain ⟨v0, v1, v2, v3, v4, v5, v6, v7⟩ := set8 d0 d1 d2 d3 d4 d5 d6 d7 (.int .i64 k) (.string nm) (.bool f) (.int .u64 u) (.slice ap np cp) (.slice ak nk ck) (.slice ab nb cb) (.slice aa na ca)
    refine bodyPost_ret (v := .agg #[.int .i64 k, .string nm, .bool f, .int .u64 u, .slice ap np cp, .slice ak nk ck, .slice ab nb cb, .slice aa na ca]) (by simp [results, Tryz.results58, go_sem, v0, v1, v2, v3, v4, v5, v6, v7]) rfl ?_
    unfold innerO
    rw [H2.out.1]
    simp only [Out.bind]
    rw [H3.out.1]
    simp only
    rw [H4.out.1]
    exact ⟨⟨_, _, _, _, _, _, _, _, rfl, H4.out.2.2.2.over8 (by omega) _ _ _ _ _ _ _ _⟩, H4.out.2.1.over8 hlt _ _ _ _ _ _ _ _, grown_new8 H4.out.2.2.1 Nr _ _ _ _ _ _ _ _⟩
theorem atom_cases {b : Nat} {B : Bx} {s : Sh} {v : Value} (h : lookSh (atomForms b B) s = some v) :
  (s = sName ∧ v = namer B.k1 B.r1) ∨ (s = sCon ∧ v = namer B.k2 B.r2) ∨ (s = sNum ∧ v = meth 57 b) ∨ (s = sBack ∧ v = namer B.k3 B.r3) ∨ (s = sOpen ∧ v = meth 58 b) := by
 unfold lookSh atomForms at h
 simp only [List.find?_cons, List.find?_nil] at h
 split at h
 ·rename_i g
  cases h
  exact Or.inl ⟨(of_decide_eq_true g).symm, rfl⟩
 split at h
 ·rename_i g
  cases h
  exact Or.inr (Or.inl ⟨(of_decide_eq_true g).symm, rfl⟩)
 split at h
 ·rename_i g
  cases h
  exact Or.inr (Or.inr (Or.inl ⟨(of_decide_eq_true g).symm, rfl⟩))
 split at h
 ·rename_i g
  cases h
  exact Or.inr (Or.inr (Or.inr (Or.inl ⟨(of_decide_eq_true g).symm, rfl⟩)))
 split at h
 ·rename_i g
  cases h
  exact Or.inr (Or.inr (Or.inr (Or.inr ⟨(of_decide_eq_true g).symm, rfl⟩)))
 ·cases h
theorem atom_none {b : Nat} {B : Bx} {s : Sh} (h : lookSh (atomForms b B) s = none) : s ≠ sName ∧ s ≠ sCon ∧ s ≠ sNum ∧ s ≠ sBack ∧ s ≠ sOpen := by
 unfold lookSh at h
 simp only [Option.map_eq_none_iff, List.find?_eq_none, decide_eq_true_eq] at h
 exact ⟨fun e => h (sName, namer B.k1 B.r1) (by simp [atomForms]) e.symm, fun e => h (sCon, namer B.k2 B.r2) (by simp [atomForms]) e.symm, fun e => h (sNum, meth 57 b) (by simp [atomForms]) e.symm, fun e => h (sBack, namer B.k3 B.r3) (by simp [atomForms]) e.symm, fun e => h (sOpen, meth 58 b) (by simp [atomForms]) e.symm⟩
theorem atomO_none {ex : Par Ex} {last : Int} {rest : List Tok} (h : shapeL rest ≠ sName ∧ shapeL rest ≠ sCon ∧ shapeL rest ≠ sNum ∧ shapeL rest ≠ sBack ∧ shapeL rest ≠ sOpen) : atomO ex last rest = .bad (refE 3 last rest).1 (refE 3 last rest).2 := by
 unfold atomO
 rw [if_neg h.1, if_neg h.2.1, if_neg h.2.2.1, if_neg h.2.2.2.1, if_neg h.2.2.2.2, refuseO_eq]
theorem atom_call (b me ma : Nat) (B : Bx) (n d : Nat) (hEx : ExprC b me ma B n d) (last : Int) (rest : List Tok) (hn : rest.length ≤ n) (hL : rest.length ≤ 4096) (w : World) (hC : Ctx w b me ma B) (hR : Rdr w b me ma last rest d) (v : Value) (hv : lookSh (atomForms b B) (shapeL rest) = some v) :
  ∃ f first cap, v = .func (.func f) first cap ∧ (∀ args w, (callFunc f args).run Tryz.prog w = .ok (.enter f args) w) ∧ Calls Tryz.prog f (first ++ cap) w (OutSaid b me ma d (ExV w.heap.size) (atomO (exprO n d) last rest) w) := by
 rcases atom_cases hv with ⟨g, rfl⟩ | ⟨g, rfl⟩ | ⟨g, rfl⟩ | ⟨g, rfl⟩ | ⟨g, rfl⟩
 ·obtain ⟨y, r, rfl⟩ := take_of g (by decide)
  have ho : atomO (exprO n d) last (y :: r) = .ok (.leaf 1 y.1.t) y.2 r := by unfold atomO; rw [if_pos g]; rfl
  rw [ho]
  exact ⟨_, _, _, rfl, enters_of Tryz.func93 (by kernel_rfl) rfl, named_any B.k1 B.r1 1 b me ma last y r d w hR hC.b1.1 hC.b1.2.1 hC.b1.2.2.1⟩
 ·obtain ⟨y, r, rfl⟩ := take_of g (by decide)
  have ho : atomO (exprO n d) last (y :: r) = .ok (.leaf 2 y.1.t) y.2 r := by unfold atomO; rw [g, if_neg (by decide), if_pos rfl]; rfl
  rw [ho]
  exact ⟨_, _, _, rfl, enters_of Tryz.func93 (by kernel_rfl) rfl, named_any B.k2 B.r2 2 b me ma last y r d w hR hC.b2.1 hC.b2.2.1 hC.b2.2.2.1⟩
 ·obtain ⟨y, r, rfl⟩ := take_of g (by decide)
  have ho : atomO (exprO n d) last (y :: r) = .ok (.num y.1.f y.1.x) y.2 r := by unfold atomO; rw [g, if_neg (by decide), if_neg (by decide), if_pos rfl]; rfl
  rw [ho]
  exact ⟨_, _, _, rfl, enters_of Tryz.func57 (by kernel_rfl) rfl, numAtom_any b me ma last y r d w hR⟩
 ·obtain ⟨y, r, rfl⟩ := take_of g (by decide)
  have ho : atomO (exprO n d) last (y :: r) = .ok (.leaf 5 y.1.t) y.2 r := by unfold atomO; rw [g, if_neg (by decide), if_neg (by decide), if_neg (by decide), if_pos rfl]; rfl
  rw [ho]
  exact ⟨_, _, _, rfl, enters_of Tryz.func93 (by kernel_rfl) rfl, named_any B.k3 B.r3 5 b me ma last y r d w hR hC.b3.1 hC.b3.2.1 hC.b3.2.2.1⟩
 ·have ho : atomO (exprO n d) last rest = innerO (exprO n d) last rest := by unfold atomO; rw [g, if_neg (by decide), if_neg (by decide), if_neg (by decide), if_neg (by decide), if_pos rfl]
  rw [ho]
  exact ⟨_, _, _, rfl, enters_of Tryz.func58 (by kernel_rfl) rfl, inner_any b me ma B n d hEx last rest hn hL w hC hR⟩
theorem atom_any (b me ma : Nat) (B : Bx) (n d : Nat) (hEx : ExprC b me ma B n d) (last : Int) (rest : List Tok) (hn : rest.length ≤ n) (hL : rest.length ≤ 4096) (w : World) (hC : Ctx w b me ma B) (hR : Rdr w b me ma last rest d) : Calls Tryz.prog 126 #[.pointer (some ⟨b, 0, none⟩)] w (OutSaid b me ma d (ExV w.heap.size) (atomO (exprO n d) last rest) w) := by
 have hlt : b < w.heap.size := Bl hR.c1
 have hx := (Below.refl w.heap.size w).alloc Nr (.cells #[.int .i64 0, .string ⟨#[]⟩, .bool false, .int .u64 0, .slice none 0 0, .slice none 0 0, .slice none 0 0, .slice none 0 0] 49)
 have HX := Hd (Ai hx (Ai (hR.later hx) (Ai (box8 w b hlt) (hC.later (grown_of hx)))))
 have c4 := (hR.later hx).c4
 clear hx hR
 go_enter Tryz.func126, Tryz.ntmps126
 go_upto_region 1 with fail
 generalize (w.alloc (.cells #[.int .i64 0, .string ⟨#[]⟩, .bool false, .int .u64 0, .slice none 0 0, .slice none 0 0, .slice none 0 0, .slice none 0 0] 49)) = W at *
 have HF := Hd (form_any b me ma last rest d ma (atomForms b B) W HX.out.2.1 HX.out.2.2.2.at')
 have hsz0 : w.heap.size + 1 ≤ W.heap.size := Bl (HX.out.2.2.1 W (grown_of Br)).1
 go_wp2_with fail
 refine HF.out.mono ?_
 rintro e w2 h2
 rcases h2 with ⟨v, hv, rfl, hb2⟩ | ⟨hv, hbr, hb2⟩
 ·obtain ⟨f, first, cap, rfl, eg, hcall⟩ := atom_call b me ma B n d hEx last rest hn hL w2 (HX.out.2.2.2.later (grown_of hb2)) (HX.out.2.1.later hb2) v hv
  have HCl := Hd hcall
  have H2 := Hd hb2
  clear hcall hb2 hv HF c4
  go_wp2_with fail
  refine HCl.out.mono ?_
  rintro e w3 h3
  have hsz2 : W.heap.size ≤ w2.heap.size := H2.out.size
  cases ho : atomO (exprO n d) last rest with
  | bad er ln =>
   rw [ho] at h3
   obtain ⟨hbr, hg3⟩ := h3
   have H3 := Hd (Gt (Gt (grown_of (b := b) HX.out.1) (grown_of H2.out)) hg3)
   unfold Broken at hbr
   subst hbr
   clear hg3 HCl ho
   go_wp2_with fail
   exact ⟨rfl, rfl, H3.out⟩
  | ok x l r =>
   rw [ho] at h3
   obtain ⟨⟨k, nm, f', u, vp, vk, vb, va, rfl, hat⟩, hR3, hg3⟩ := h3
   obtain ⟨⟨ap, np, cp, rfl⟩, ⟨ak, nk, ck, rfl⟩, ⟨ab, nb, cb, rfl⟩, ⟨aa, na, ca, rfl⟩⟩ := hat.slices
   have hgW := Gt (grown_of (b := b) H2.out) hg3
   have H3 := Hd (Ai hR3 (Ai (Gt (grown_of (b := b) HX.out.1) hgW) hat))
   obtain ⟨d0, d1, d2, d3, d4, d5, d6, d7, z0, z1, z2, z3, z4, z5, z6, z7⟩ := HX.out.2.2.1 w3 hgW
   have HO := Hd ho
   clear hgW hR3 hg3 hat HCl ho
   go_wp2_with fail
   obtain ⟨v0, v1, v2, v3, v4, v5, v6, v7⟩ := set8 d0 d1 d2 d3 d4 d5 d6 d7 (.int .i64 k) (.string nm) (.bool f') (.int .u64 u) (.slice ap np cp) (.slice ak nk ck) (.slice ab nb cb) (.slice aa na ca)
   refine bodyPost_ret (v := .agg #[.int .i64 k, .string nm, .bool f', .int .u64 u, .slice ap np cp, .slice ak nk ck, .slice ab nb cb, .slice aa na ca]) (by simp [results, Tryz.results126, go_sem, v0, v1, v2, v3, v4, v5, v6, v7]) rfl ?_
   rw [HO.out]
   exact ⟨⟨_, _, _, _, _, _, _, _, rfl, H3.out.2.2.over8 (by omega) _ _ _ _ _ _ _ _⟩, H3.out.1.over8 hlt _ _ _ _ _ _ _ _, grown_new8 H3.out.2.1 Nr _ _ _ _ _ _ _ _⟩
 ·have H2 := Hd (Ai (atomO_none (ex := exprO n d) (last := last) (atom_none hv)) (Gt (grown_of (b := b) HX.out.1) (grown_of hb2)))
  unfold Broken at hbr
  subst hbr
  clear hb2 hv HF c4
  go_wp2_with fail
  refine ⟨rfl, ?_⟩
  rw [H2.out.1]
  exact ⟨rfl, H2.out.2⟩
theorem look_atom {b : Nat} {B : Bx} {s : Sh} : (∃ f first cap, lookSh (atomForms b B) s = some (.func (.func f) first cap) ∧ s ∈ atomShapes) ∨ (lookSh (atomForms b B) s = none ∧ s ∉ atomShapes) := by
 cases h : lookSh (atomForms b B) s with
 | none =>
  obtain ⟨h1, h2, h3, h4, h5⟩ := atom_none h
  exact Or.inr ⟨rfl, by simp [atomShapes, h1, h2, h3, h4, h5]⟩
 | some v =>
  refine Or.inl ?_
  rcases atom_cases h with ⟨rfl, rfl⟩ | ⟨rfl, rfl⟩ | ⟨rfl, rfl⟩ | ⟨rfl, rfl⟩ | ⟨rfl, rfl⟩
  all_goals exact ⟨_, _, _, rfl, by decide⟩
theorem Tryz.info_expr : (Tryz.prog.info? 49).map (fun i => (i.zero, i.size, i.bytes)) = some (some (.agg #[.int .i64 0, .string ⟨#[]⟩, .bool false, .int .u64 0, .slice none 0 0, .slice none 0 0, .slice none 0 0, .slice none 0 0]), 8, 136) := by kernel_rfl
theorem func_ne (f : FuncId) (first cap : Array Value) (W : World) : (binOp .neq 106 (.func (.func f) first cap) .nilFunc).run Tryz.prog W = .ok (.bool true) W := by kernel_rfl
theorem func_eq (W : World) : (binOp .neq 106 .nilFunc .nilFunc).run Tryz.prog W = .ok (.bool false) W := by kernel_rfl
def ExsV (lo : Nat) (xs : List Ex) (e : Ending) (w : World) : Prop := ∃ v cs, e = .returned v ∧ w.ownsRow lo 49 8 v xs.length cs ∧ ExsAt w (fun g => lo ≤ g) xs cs
theorem Less.then {α β : Type} {m : Nat} {o : Out α} {f : α → Int → List Tok → Out β} (h : Less m o) (hf : ∀ a l r, Less r.length (f a l r)) : Less m (o.bind f) :=
 h.bind fun a l r hr => (hf a l r).mono hr
theorem less_ok {α : Type} (a : α) (l : Int) (r : List Tok) : Less r.length (.ok a l r) := Nat.le_refl _
theorem less_refuse {α : Type} (er l : Int) (r : List Tok) (m : Nat) : Less m (refuseO er l r : Out α) := by rw [refuseO_eq]; trivial
theorem take_shrinks : Shrinks takeO := fun l r => by
 cases r with
 | nil => trivial
 | cons y r => exact Nat.le_succ _
theorem want_shrinks (s : Sh) : Shrinks (wantO s) := fun l r => by
 unfold wantO
 split
 ·exact take_shrinks l r
 ·exact less_refuse _ _ _ _
theorem names_less : ∀ (r : List Tok) (l : Int) (acc : List Nm), (namesO l r acc).2.2.length ≤ r.length
 | [], l, acc => Nat.le_refl _
 | y :: r, l, acc => by
  unfold namesO
  split
  ·exact Nt (names_less r _ _) (Nat.le_succ _)
  ·exact Nat.le_refl _
theorem bind_shrinks {ex : Par Ex} (h : Shrinks ex) : Shrinks (bindO ex) := fun l r =>
 (want_shrinks _ l r).then fun _ l r => Less.mono ((want_shrinks _ _ _).then fun _ l2 r2 => (h l2 r2).then fun _ _ _ => less_ok _ _ _) (names_less r l [])
theorem more_shrinks {α : Type} {item : Par α} (h : Shrinks item) : ∀ (n : Nat) (acc : List α), Shrinks (moreO item n acc)
 | 0, acc => fun l r => less_ok _ _ _
 | n + 1, acc => fun l r => by
  unfold moreO
  split
  ·exact (take_shrinks l r).then fun _ l r => (h l r).then fun a l2 r2 => more_shrinks h n _ l2 r2
  ·exact less_ok _ _ _
theorem some_shrinks {α : Type} {item : Par α} (h : Shrinks item) : Shrinks (someO item) := fun l r => (h l r).then fun _ l r => more_shrinks h _ _ l r
theorem inner_shrinks {ex : Par Ex} (h : Shrinks ex) : Shrinks (innerO ex) := fun l r =>
 (want_shrinks _ l r).then fun _ l r => (h l r).then fun _ l2 r2 => (want_shrinks _ l2 r2).then fun _ _ _ => less_ok _ _ _
theorem atom_shrinks {ex : Par Ex} (h : Shrinks ex) : Shrinks (atomO ex) := fun l r => by
 unfold atomO
 split
 ·exact (take_shrinks l r).then fun t l r => less_ok _ _ _
 split
 ·exact (take_shrinks l r).then fun t l r => less_ok _ _ _
 split
 ·exact (take_shrinks l r).then fun t l r => less_ok _ _ _
 split
 ·exact (take_shrinks l r).then fun t l r => less_ok _ _ _
 split
 ·exact inner_shrinks h l r
 ·exact less_refuse _ _ _ _
theorem atoms_shrinks {ex : Par Ex} (h : Shrinks ex) : ∀ (n : Nat) (acc : List Ex), Shrinks (atomsO ex n acc)
 | 0, acc => fun l r => less_ok _ _ _
 | n + 1, acc => fun l r => by
  unfold atomsO
  split
  ·exact (atom_shrinks h l r).then fun a l r => atoms_shrinks h n _ l r
  ·exact less_ok _ _ _
theorem row_shrinks {ex : Par Ex} (h : Shrinks ex) : Shrinks (rowO ex) := fun l r =>
 (atom_shrinks h l r).then fun _ l r => (atoms_shrinks h _ _ l r).then fun _ _ _ => less_ok _ _ _
theorem rows_shrinks {ex : Par Ex} (h : Shrinks ex) : Shrinks (rowsO ex) := fun l r =>
 (row_shrinks h l r).then fun a l r => by
  split
  ·exact (take_shrinks l r).then fun t l2 r2 => (row_shrinks h l2 r2).then fun b l3 r3 => less_ok _ _ _
  ·exact less_ok _ _ _
theorem let_shrinks {ex : Par Ex} (h : Shrinks ex) : Shrinks (letO ex) := fun l r =>
 (want_shrinks _ l r).then fun _ l r => (some_shrinks (bind_shrinks h) l r).then fun _ l2 r2 => (want_shrinks _ l2 r2).then fun _ l3 r3 => (h l3 r3).then fun _ _ _ => less_ok _ _ _
theorem alt_shrinks {ex : Par Ex} (h : Shrinks ex) : Shrinks (altO ex) := fun l r => by
 unfold altO
 split
 ·exact (take_shrinks l r).then fun t l r => Less.mono ((want_shrinks _ _ _).then fun _ l2 r2 => (h l2 r2).then fun x l3 r3 => less_ok _ _ _) (names_less r l [])
 split
 ·exact (take_shrinks l r).then fun t l r => (want_shrinks _ l r).then fun _ l2 r2 => (h l2 r2).then fun x l3 r3 => less_ok _ _ _
 ·exact (want_shrinks _ l r).then fun t l r => (want_shrinks _ l r).then fun _ l2 r2 => (h l2 r2).then fun x l3 r3 => less_ok _ _ _
theorem case_shrinks {ex : Par Ex} (h : Shrinks ex) : Shrinks (caseO ex) := fun l r =>
 (want_shrinks _ l r).then fun _ l r => (h l r).then fun x l2 r2 => (want_shrinks _ l2 r2).then fun _ l3 r3 => (want_shrinks _ l3 r3).then fun _ l4 r4 => by
  split
  ·exact (want_shrinks _ l4 r4).then fun _ l5 r5 => less_ok _ _ _
  ·exact (some_shrinks (alt_shrinks h) l4 r4).then fun xs l5 r5 => (want_shrinks _ l5 r5).then fun _ l6 r6 => less_ok _ _ _
theorem lam_shrinks {ex : Par Ex} (h : Shrinks ex) : Shrinks (lamO ex) := fun l r =>
 (want_shrinks _ l r).then fun _ l r => by
  split
  ·exact Less.mono ((want_shrinks _ _ _).then fun _ l2 r2 => (h l2 r2).then fun x l3 r3 => less_ok _ _ _) (names_less r l [])
  ·exact less_refuse _ _ _ _
theorem expr_shrinks : ∀ (n d : Nat), Shrinks (exprO n d)
 | 0, d => fun l r => trivial
 | n + 1, d => fun l r => by
  unfold exprO
  have h := expr_shrinks n (d + 1)
  split
  ·split
   ·exact less_refuse _ _ _ _
   split
   ·exact let_shrinks h l r
   split
   ·exact case_shrinks h l r
   split
   ·exact lam_shrinks h l r
   ·exact rows_shrinks h l r
  ·exact less_refuse _ _ _ _
theorem take_strict {α : Type} {last : Int} {rest : List Tok} {f : Tok → Int → List Tok → Out α} (hf : ∀ a l r, Less r.length (f a l r)) {x : α} {l : Int} {r : List Tok} (h : (takeO last rest).bind f = .ok x l r) : r.length < rest.length := by
 cases rest with
 | nil => cases h
 | cons y r0 =>
  have h1 := hf y y.2 r0
  have h2 : f y y.2 r0 = .ok x l r := h
  rw [h2] at h1
  exact Nat.lt_succ_of_le h1
theorem want_strict {α : Type} {s : Sh} {last : Int} {rest : List Tok} {f : Tok → Int → List Tok → Out α} (hf : ∀ a l r, Less r.length (f a l r)) {x : α} {l : Int} {r : List Tok} (h : (wantO s last rest).bind f = .ok x l r) : r.length < rest.length := by
 unfold wantO at h
 split at h
 ·exact take_strict hf h
 ·rw [refuseO_eq] at h
  cases h
theorem atom_strict {ex : Par Ex} (hx : Shrinks ex) {last : Int} {rest : List Tok} {x : Ex} {l : Int} {r : List Tok} (h : atomO ex last rest = .ok x l r) : r.length < rest.length := by
 unfold atomO at h
 split at h
 ·exact take_strict (fun t l r => less_ok _ _ _) h
 split at h
 ·exact take_strict (fun t l r => less_ok _ _ _) h
 split at h
 ·exact take_strict (fun t l r => less_ok _ _ _) h
 split at h
 ·exact take_strict (fun t l r => less_ok _ _ _) h
 split at h
 ·exact want_strict (fun _ l r => (hx l r).then fun x l2 r2 => (want_shrinks _ l2 r2).then fun _ l3 r3 => less_ok _ _ _) h
 ·rw [refuseO_eq] at h
  cases h
theorem atoms_any (b me ma : Nat) (B : Bx) (n d : Nat) (hEx : ExprC b me ma B n d) (last : Int) (rest : List Tok) (hn : rest.length ≤ n) (hL : rest.length ≤ 4096) (w : World) (hC : Ctx w b me ma B) (hR : Rdr w b me ma last rest d) : Calls Tryz.prog 127 #[.pointer (some ⟨b, 0, none⟩)] w (OutSaid b me ma d (ExsV w.heap.size) (atomsO (exprO n d) (rest.length + 1) [] last rest) w) := by
 have hbw : b < w.heap.size := Bl hR.c1
 have HE := Hd (Ai hC (Ai hR (Ai hn hL)))
 obtain ⟨i0, hi0, hz0, hzs, hzb⟩ := info_parts Tryz.info_expr
 clear hC hR hn hL
 go_enter Tryz.func127, Tryz.ntmps127
 go_wp2_with fail
 go_loopw [3] (fun s3 wr => ∃ (l : Int) (r : List Tok) (acc : List Ex) (vv : Value) (cs : List Value) (fu : Nat), vv = s3 ∧ Rdr wr b me ma l r d ∧ w.grownBy wr (some b) ∧ r.length < fu ∧ atomsO (exprO n d) fu acc l r = atomsO (exprO n d) (rest.length + 1) [] last rest ∧ acc.length + r.length ≤ rest.length ∧ wr.ownsRow w.heap.size 49 8 vv acc.length cs ∧ ExsAt wr (fun g => w.heap.size ≤ g ∧ some g ≠ vv.ownBlock) acc cs) (fun s3 _ => rest.length - lenOf s3)
 case atStart => exact ⟨last, rest, [], _, [], _, rfl, HE.out.2.1, grown_of Br, Nat.lt_succ_self _, rfl, by simp, World.ownsRow_nil _ _ _ _, .nil⟩
 case round =>
  obtain ⟨l, r, acc, vv, cs, fu, rfl, hR, hg, hfu, hN, hn, hown, hex⟩ := hrel
  obtain ⟨aa, cc, rfl, hlow⟩ := own_shape hown
  have hC := HE.out.1.later hg
  have c4 := hR.c4
  have HA := Hd (ahead_any b me ma l r d wr.drew (hR.later (Below.refl wr.heap.size wr).drew))
  have HQ := Hd (Ai hR (Ai hg (Ai hN (Ai hn (Ai hown (Ai hlow (Ai hex (Ai hfu hC))))))))
  clear hR hg hN hn hown hlow hex hfu hC
  have HS := Hd (fun W => shapeOf_any (tokO r) W)
  have HL0 := Hd (fun (W : World) (hb : Below wr.heap.size wr W) => (HQ.out.2.2.2.2.2.2.2.2.at'.below hb).look (shapeL r) false)
  have hc4 := Hd (fun (W : World) (hb : Below wr.heap.size wr W) => later' hb c4)
  go_wp2_with fail
  rcases look_atom (b := b) (B := B) (s := shapeL r) with ⟨f, first, cap, hl, hmem⟩ | ⟨hl, hmem⟩
  ·have HM := Hd (Ai hl hmem)
   have hne := fun W => func_ne f first cap W
   clear hl hmem
   go_region_with (first
    | (go_at_call 124; refine HA.out.mono ?_; rintro e w2 ⟨rfl, hb2⟩; have hB2 := onB' ((Below.refl wr.heap.size wr).drew) hb2; have c42 := hc4.out w2 hB2; have HB2 := Hd hB2; clear hb2 hB2)
    | (go_at_call 123; refine (HS.out _).mono ?_; rintro e w3 ⟨rfl, hb3⟩; have hB3 := onB' HB2.out hb3; have c43 := hc4.out w3 hB3; have hlk := HL0.out w3 hB3; rw [HM.out.1] at hlk; simp only [Bool.false_eq_true, if_false, Option.getD_some] at hlk; have HB3 := Hd hB3; rw [shapeL_tok]; clear hb3 hB3))
   all_goals
    have hB := HB3.out
    have hR3 := HQ.out.1.later hB
    have hg3 := Gt HQ.out.2.1 (grown_of (b := b) hB)
    have hn4 := HQ.out.2.2.2.1
    have hL4 := HE.out.2.2.2
    have hn5 := HE.out.2.2.1
    have HR3 := Hd (Ai hR3 (Ai hg3 (own_below HQ.out.2.2.2.2.1 hB)))
    have HAt := Hd (atom_any b me ma B n d hEx l r (by omega) (by omega) w3 (HQ.out.2.2.2.2.2.2.2.2.later (grown_of (b := b) hB)) hR3)
    have hfz : ∃ fu', fu = fu' + 1 := ⟨fu - 1, by have := HQ.out.2.2.2.2.2.2.2.1; omega⟩
    obtain ⟨fu', rfl⟩ := hfz
    have hN4 := HQ.out.2.2.1
    have hunf : atomsO (exprO n d) (fu' + 1) acc l r = (atomO (exprO n d) l r).bind fun a l r => atomsO (exprO n d) fu' (acc ++ [a]) l r := by
     conv => lhs; unfold atomsO
     exact if_pos HM.out.2
    rw [hunf] at hN4
    have HN4 := Hd hN4
    clear hB hR3 hg3 hN4 hunf
    go_wp2_with fail
    refine HAt.out.mono ?_
    rintro e w4 h4
    cases ho : atomO (exprO n d) l r with
    | bad er ln =>
     rw [ho] at h4
     obtain ⟨hbr, hg4⟩ := h4
     have hN5 := HN4.out
     rw [ho] at hN5
     have H4 := Hd (Ai hN5 (Gt HR3.out.2.1 hg4))
     unfold Broken at hbr
     subst hbr
     clear hg4 HAt ho hN5
     go_wp2_with fail
     refine ⟨rfl, ?_⟩
     rw [← H4.out.1]
     exact ⟨rfl, H4.out.2⟩
    | ok x l2 r2 =>
     rw [ho] at h4
     obtain ⟨⟨k, nm, f', u, vp, vk, vb, va, rfl, hat⟩, hR4, hg4⟩ := h4
     obtain ⟨⟨ap, np, cp, rfl⟩, ⟨ak, nk, ck, rfl⟩, ⟨ab, nb, cb, rfl⟩, ⟨a5, n5, c5, rfl⟩⟩ := hat.slices
     have hN5 := HN4.out
     rw [ho] at hN5
     have hst := atom_strict (expr_shrinks n d) ho
     have HO4 := Hd (own_kept HR3.out.2.2 hg4 (fun e => by have := HQ.out.2.2.2.2.2.1 b e; omega))
     have H4 := Hd (Ai hR4 (Ai (Gt HR3.out.2.1 hg4) (Ai hg4 (Ai hat hN5))))
     have hwz : w.heap.size ≤ w4.heap.size := H4.out.2.1.size
     have one8 : ∀ z ∈ ([.int .i64 k, .string nm, .bool f', .int .u64 u, .slice ap np cp, .slice ak nk ck, .slice ab nb cb, .slice a5 n5 c5] : List Value), z.oneCell' = true := by intro z hz; simp at hz; rcases hz with rfl | rfl | rfl | rfl | rfl | rfl | rfl | rfl <;> rfl
     have m9 : acc.length + 1 ≤ maxLen := by unfold maxLen; omega
     have m8 : (acc.length + 1) * 136 ≤ 140737488355328 := by omega
     clear hR4 hg4 hat HAt ho hN5
     go_wp2_with (at_builtin; refine wpList_append_lies _ rfl _ _ 46 rfl w.heap.size 49 i0 (.agg #[.int .i64 0, .string ⟨#[]⟩, .bool false, .int .u64 0, .slice none 0 0, .slice none 0 0, .slice none 0 0, .slice none 0 0]) 8 136 Tryz.underlying46 hi0 hz0 hzs hzb rfl (by decide) (.slice aa acc.length cc) acc.length cs rfl (HO4.out.alloc _) ⟨w4.heap.size, 0, none⟩ 1 1 [.int .i64 k, .string nm, .bool f', .int .u64 u, .slice ap np cp, .slice ak nk ck, .slice ab nb cb, .slice a5 n5 c5] rfl rfl (World.news_of_block (heap_alloc_new _ _)) one8 (by decide) m9 m8 (by simp; omega) _ rfl ?_; intro g9 cap9 w9 o1 o2 o3 o4)
     have hxx := (Below.refl w4.heap.size w4).alloc Nr (.cells #[.int .i64 k, .string nm, .bool f', .int .u64 u, .slice ap np cp, .slice ak nk ck, .slice ab nb cb, .slice a5 n5 c5] 49)
     have hlow : ∀ g, (Value.slice aa acc.length cc).ownBlock = some g → w.heap.size ≤ g := HQ.out.2.2.2.2.2.1
     have hltO : ∀ g, (Value.slice aa acc.length cc).ownBlock = some g → g < wr.heap.size := fun g hg => (HQ.out.2.2.2.2.1.lt g hg).2
     obtain ⟨q, hq, hg9⟩ := grown_some (b := b) o2 (fun g e => by have := hlow g e; omega)
     have hs3 := HB3.out.size
     have hs4 := H4.out.2.2.1.size
     have hs5 := hxx.size
     have hfu := HQ.out.2.2.2.2.2.2.2.1
     refine ⟨⟨l2, r2, acc ++ [x], _, cs ++ [.int .i64 k, .string nm, .bool f', .int .u64 u, .slice ap np cp, .slice ak nk ck, .slice ab nb cb, .slice a5 n5 c5], fu', rfl, (H4.out.1.later hxx).past hg9 hq, grown_past (Gt H4.out.2.1 (grown_of hxx)) o2 hlow, by omega, H4.out.2.2.2.2, by simp; omega, by simpa using o1, ?_⟩, by simp [lenOf]; omega⟩
     refine ExsAt.snoc (HQ.out.2.2.2.2.2.2.1.move (fun g hg lt => ?_)) (H4.out.2.2.2.1.move (fun g hg lt => ?_))
     ·refine ⟨⟨hg.1, fun e => ?_⟩, ?_⟩
      ·rcases o3 with h | h
       ·exact hg.2 (e.trans h.symm)
       ·have := Oi e
        simp at this h
        omega
      ·exact ((o2.block g (by omega) hg.2).trans (hxx.block g (by omega))).trans ((H4.out.2.2.1.block g (by omega) (by simp; omega)).trans (HB3.out.block g lt))
     ·have hg' : w3.heap.size ≤ g := hg
      have hgr := HQ.out.2.1.size
      have hne9 : some g ≠ (Value.slice aa acc.length cc).ownBlock := fun e => by have := hltO g e.symm; omega
      refine ⟨⟨by omega, fun e => ?_⟩, ?_⟩
      ·rcases o3 with h | h
       ·exact hne9 (e.trans h.symm)
       ·have := Oi e
        simp at this h
        omega
      ·exact (o2.block g (by omega) hne9).trans (hxx.block g (by omega))
  ·have HM := Hd (Ai hl hmem)
   have hne := fun W => func_eq W
   clear hl hmem
   go_region_with (first
    | (go_at_call 124; refine HA.out.mono ?_; rintro e w2 ⟨rfl, hb2⟩; have hB2 := onB' ((Below.refl wr.heap.size wr).drew) hb2; have c42 := hc4.out w2 hB2; have HB2 := Hd hB2; clear hb2 hB2)
    | (go_at_call 123; refine (HS.out _).mono ?_; rintro e w3 ⟨rfl, hb3⟩; have hB3 := onB' HB2.out hb3; have c43 := hc4.out w3 hB3; have hlk := HL0.out w3 hB3; rw [HM.out.1] at hlk; simp only [Bool.false_eq_true, if_false, Option.getD_none] at hlk; have HB3 := Hd hB3; rw [shapeL_tok]; clear hb3 hB3))
   all_goals
    have hB := HB3.out
    have HR3 := Hd (Ai (HQ.out.1.later hB) (Ai (Gt HQ.out.2.1 (grown_of (b := b) hB)) (own_below HQ.out.2.2.2.2.1 hB)))
    have hfz : ∃ fu', fu = fu' + 1 := ⟨fu - 1, by have := HQ.out.2.2.2.2.2.2.2.1; omega⟩
    obtain ⟨fu', rfl⟩ := hfz
    have hN4 := HQ.out.2.2.1
    have hunf : atomsO (exprO n d) (fu' + 1) acc l r = .ok acc l r := by
     conv => lhs; unfold atomsO
     exact if_neg HM.out.2
    rw [hunf] at hN4
    have HN4 := Hd hN4
    clear hB hN4 hunf
    go_wp2_with fail
    refine bodyPost_ret (v := .slice aa acc.length cc) (by simp [results, Tryz.results127, go_sem]) rfl ?_
    rw [← HN4.out]
    exact ⟨⟨_, cs, rfl, HR3.out.2.2, HQ.out.2.2.2.2.2.2.1.move (fun g hg lt => ⟨hg.1, HB3.out.block g lt⟩)⟩, HR3.out.1, HR3.out.2.1⟩
end Go.Proofs.YtbnmmbjajheedaaGreatDoor
