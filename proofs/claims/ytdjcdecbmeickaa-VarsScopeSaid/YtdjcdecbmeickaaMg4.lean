import Derived.Deep.RegionHeldLaw
import Derived.RegionDies
import Derived.Lib.QuietBelow
import Derived.Test.YtdjcdecbmeickaaMg2
import Derived.Test.YtdjcdecbmeickaaMg3
namespace Go.Proofs.Ytdjcdecbmeickaa
set_option maxHeartbeats 64000000
set_option maxRecDepth 100000
open Go.RowKit Go.Lib
def declV : List (Nm × Int) → List Value
  | [] => []
  | (n, x) :: ds => .string (tx n) :: .int .i64 x :: declV ds
theorem declV_snoc (ds : List (Nm × Int)) (x : Nm × Int) : declV (ds ++ [x]) = declV ds ++ [.string (tx x.1), .int .i64 x.2] := by
  induction ds with
  | nil => rfl
  | cons y ds ih => simp [declV, ih]
theorem declV_len (ds : List (Nm × Int)) : (declV ds).length = ds.length * 2 := by
  induction ds with
  | nil => rfl
  | cons y ds ih => simp [declV, ih]; omega
theorem declV_app (ds es : List (Nm × Int)) : declV (ds ++ es) = declV ds ++ declV es := by
  induction ds with
  | nil => rfl
  | cons y ds ih => simp [declV, ih]
theorem declV_one (ds : List (Nm × Int)) : ∀ u ∈ declV ds, u.oneCell' = true := by
  induction ds with
  | nil => intro u hu; cases hu
  | cons y ds ih =>
    intro u hu
    simp only [declV, List.mem_cons] at hu
    rcases hu with rfl | rfl | hu
    · rfl
    · rfl
    · exact ih u hu
def DeclsV (lo : Nat) (ds : List (Nm × Int)) (e : Ending) (w : World) : Prop := ∃ v, e = .returned v ∧ w.ownsRow lo 66 2 v ds.length (declV ds)
theorem Try.info_decl : (Try.prog.info? 66).map (fun i => (i.zero, i.size, i.bytes)) = some (some (.agg #[.string ⟨#[]⟩, .int .i64 0]), 2, 24) := by kernel_rfl
def Onto (w : World) (base : Nat) (e : TypeId) (size : Nat) (v : Value) (n : Nat) (xs : List Value) (ao : Option Addr) (cap : Nat) (w' : World) : Prop :=
  w'.ownsRow base e size (.slice ao n cap) n xs ∧ w.grownBy w' v.ownBlock ∧ ((Value.slice ao n cap).ownBlock = v.ownBlock ∨ (Value.slice ao n cap).ownBlock = some w.heap.size)
theorem run_nil_decl (ty : TypeId) (v : Value) (base n : Nat) (xs : List Value) (c : Nat) (w : World) (h : w.ownsRow base 66 2 v n xs) :
    (Builtin.append_ #[39, 39] ty #[v, .slice none 0 c]).run Try.prog w = .ok v w := by
  have hu : Try.prog.underlying 39 = some (.slice 66) := Try.underlying39
  rcases h.2 with ⟨rfl, rfl⟩ | ⟨g, cap, cur, rfl, _, _, hcap, _⟩
  · simp [Builtin.append_, run_underlying hu, Try.sizeOf66, Builtin.firstCells, Builtin.lenOf, go_sem]
  · simp [Builtin.append_, run_underlying hu, Try.sizeOf66, Builtin.firstCells, Builtin.lenOf, go_sem, hcap]
theorem run_onto_decl (ty : TypeId) (w : World) (base n : Nat) (v : Value) (xs : List Value) (hown : w.ownsRow base 66 2 v n xs) (b2 m : Nat) (ys : List Value) (x : Value) (hx : w.ownsRow b2 66 2 x m ys) (h1 : ∀ u ∈ ys, u.oneCell' = true) (hb : n + m ≤ 100000) (hbase : base ≤ w.heap.size) :
    ∃ ao cap w', (Builtin.append_ #[39, 39] ty #[v, x]).run Try.prog w = .ok (.slice ao (n + m) cap) w' ∧ Onto w base 66 2 v (n + m) (xs ++ ys) ao cap w' := by
  obtain ⟨i0, hi, hz0, hz1, hz2⟩ := info_parts Try.info_decl
  obtain ⟨hl, ⟨rfl, rfl⟩ | ⟨g, cap, cur, rfl, h2, h3, h4, h5, h6, h7⟩⟩ := id hx
  · have hy : ys = [] := List.length_eq_zero_iff.1 (by simpa using hl)
    subst hy
    obtain ⟨ao, cap, rfl, hlow⟩ := own_shape hown
    exact ⟨ao, cap, w, run_nil_decl ty _ base n xs 0 w hown, by simpa using hown, ⟨rfl, rfl, rfl, Nat.le_refl _, fun _ _ _ => rfl⟩, Or.inl rfl⟩
  · obtain ⟨v', w', hr, q2, q3, _, q5⟩ := run_append_own_at (P := Try.prog) w base 39 ty 66 i0 (.agg #[.string ⟨#[]⟩, .int .i64 0]) 2 24 Try.underlying39 hi hz0 hz1 hz2 rfl (by decide) v n xs hown ⟨g, 0, none⟩ m cap ys hl (own_news hx) h1 (by unfold maxLen; omega) (by omega) hbase
    obtain ⟨ao, c2, rfl, hlow⟩ := own_shape q2
    exact ⟨ao, c2, w', hr, q2, q3, q5⟩
theorem wp_onto_decl {o : Oper} {a : Act} {K : Act → World → Prop} {Q : Exit → Act → World → Prop} (s x : Operand) (ho : o.op = .call { callee := .builtin .append, args := #[s, x], argTypes := #[39, 39] })
    (w : World) (base n : Nat) (v : Value) (xs : List Value) (hs : a.eval s = v) (hown : w.ownsRow base 66 2 v n xs) (b2 m : Nat) (ys : List Value) (xv : Value) (hx : a.eval x = xv) (hsrc : w.ownsRow b2 66 2 xv m ys) (h1 : ∀ u ∈ ys, u.oneCell' = true) (hb : n + m ≤ 100000) (hbase : base ≤ w.heap.size)
    (h : ∀ ao cap w', Onto w base 66 2 v (n + m) (xs ++ ys) ao cap w' → K (a.put o.dst (.slice ao (n + m) cap)) w') : o.wp Try.prog a w K Q := by
  obtain ⟨ao, cap, w', hr, h2⟩ := run_onto_decl o.type w base n v xs hown b2 m ys xv hsrc h1 hb hbase
  unfold Oper.wp execOp
  simp only [ho, resolve, invoke, builtin, Sem.run_bind, Sem.run_pure, Result.andThen_ok, List.map_toArray, List.map_cons, List.map_nil, hs, hx, hr]
  exact h ao cap w' h2
theorem step_onto_decl {ops : Array Oper} {o : Oper} {a : Act} {K : Act → World → Prop} {Q : Exit → Act → World → Prop} {E : Prop} (hgd : o.guard = none) (s x : Operand) (ho : o.op = .call { callee := .builtin .append, args := #[s, x], argTypes := #[39, 39] })
    (w : World) (base n : Nat) (v : Value) (xs : List Value) (hs : a.eval s = v) (hown : w.ownsRow base 66 2 v n xs) (b2 m : Nat) (ys : List Value) (xv : Value) (hx : a.eval x = xv) (hsrc : w.ownsRow b2 66 2 xv m ys) (h1 : ∀ u ∈ ys, u.oneCell' = true) (hb : n + m ≤ 100000) (hbase : base ≤ w.heap.size)
    (h : ∀ ao cap w', Onto w base 66 2 v (n + m) (xs ++ ys) ao cap w' → K (a.put o.dst (.slice ao (n + m) cap)) w') :
    if Region.wanted o (yielded ops a.tmps) = true then Oper.wp Try.prog o a w K Q else E := by
  have hw : Region.wanted o (yielded ops a.tmps) = true := by simp [Region.wanted, hgd]
  rw [if_pos hw]
  exact wp_onto_decl s x ho w base n v xs hs hown b2 m ys xv hx hsrc h1 hb hbase h
theorem run_nil_bind (ty : TypeId) (v : Value) (base n : Nat) (xs : List Value) (c : Nat) (w : World) (h : w.ownsRow base 36 10 v n xs) :
    (Builtin.append_ #[24, 24] ty #[v, .slice none 0 c]).run Try.prog w = .ok v w := by
  have hu : Try.prog.underlying 24 = some (.slice 36) := Try.underlying24
  rcases h.2 with ⟨rfl, rfl⟩ | ⟨g, cap, cur, rfl, _, _, hcap, _⟩
  · simp [Builtin.append_, run_underlying hu, Try.sizeOf36, Builtin.firstCells, Builtin.lenOf, go_sem]
  · simp [Builtin.append_, run_underlying hu, Try.sizeOf36, Builtin.firstCells, Builtin.lenOf, go_sem, hcap]
theorem run_onto_bind (ty : TypeId) (w : World) (base n : Nat) (v : Value) (xs : List Value) (hown : w.ownsRow base 36 10 v n xs) (b2 m : Nat) (ys : List Value) (x : Value) (hx : w.ownsRow b2 36 10 x m ys) (h1 : ∀ u ∈ ys, u.oneCell' = true) (hb : n + m ≤ 100000) (hbase : base ≤ w.heap.size) :
    ∃ ao cap w', (Builtin.append_ #[24, 24] ty #[v, x]).run Try.prog w = .ok (.slice ao (n + m) cap) w' ∧ Onto w base 36 10 v (n + m) (xs ++ ys) ao cap w' := by
  obtain ⟨i0, hi, hz0, hz1, hz2⟩ := info_parts Try.info_bind
  obtain ⟨hl, ⟨rfl, rfl⟩ | ⟨g, cap, cur, rfl, h2, h3, h4, h5, h6, h7⟩⟩ := id hx
  · have hy : ys = [] := List.length_eq_zero_iff.1 (by simpa using hl)
    subst hy
    obtain ⟨ao, cap, rfl, hlow⟩ := own_shape hown
    exact ⟨ao, cap, w, run_nil_bind ty _ base n xs 0 w hown, by simpa using hown, ⟨rfl, rfl, rfl, Nat.le_refl _, fun _ _ _ => rfl⟩, Or.inl rfl⟩
  · obtain ⟨v', w', hr, q2, q3, _, q5⟩ := run_append_own_at (P := Try.prog) w base 24 ty 36 i0 (.agg #[.string ⟨#[]⟩, .slice none 0 0, .int .i64 0, .string ⟨#[]⟩, .bool false, .int .u64 0, .slice none 0 0, .slice none 0 0, .slice none 0 0, .slice none 0 0]) 10 176 Try.underlying24 hi hz0 hz1 hz2 rfl (by decide) v n xs hown ⟨g, 0, none⟩ m cap ys hl (own_news hx) h1 (by unfold maxLen; omega) (by omega) hbase
    obtain ⟨ao, c2, rfl, hlow⟩ := own_shape q2
    exact ⟨ao, c2, w', hr, q2, q3, q5⟩
theorem wp_onto_bind {o : Oper} {a : Act} {K : Act → World → Prop} {Q : Exit → Act → World → Prop} (s x : Operand) (ho : o.op = .call { callee := .builtin .append, args := #[s, x], argTypes := #[24, 24] })
    (w : World) (base n : Nat) (v : Value) (xs : List Value) (hs : a.eval s = v) (hown : w.ownsRow base 36 10 v n xs) (b2 m : Nat) (ys : List Value) (xv : Value) (hx : a.eval x = xv) (hsrc : w.ownsRow b2 36 10 xv m ys) (h1 : ∀ u ∈ ys, u.oneCell' = true) (hb : n + m ≤ 100000) (hbase : base ≤ w.heap.size)
    (h : ∀ ao cap w', Onto w base 36 10 v (n + m) (xs ++ ys) ao cap w' → K (a.put o.dst (.slice ao (n + m) cap)) w') : o.wp Try.prog a w K Q := by
  obtain ⟨ao, cap, w', hr, h2⟩ := run_onto_bind o.type w base n v xs hown b2 m ys xv hsrc h1 hb hbase
  unfold Oper.wp execOp
  simp only [ho, resolve, invoke, builtin, Sem.run_bind, Sem.run_pure, Result.andThen_ok, List.map_toArray, List.map_cons, List.map_nil, hs, hx, hr]
  exact h ao cap w' h2
theorem step_onto_bind {ops : Array Oper} {o : Oper} {a : Act} {K : Act → World → Prop} {Q : Exit → Act → World → Prop} {E : Prop} (hgd : o.guard = none) (s x : Operand) (ho : o.op = .call { callee := .builtin .append, args := #[s, x], argTypes := #[24, 24] })
    (w : World) (base n : Nat) (v : Value) (xs : List Value) (hs : a.eval s = v) (hown : w.ownsRow base 36 10 v n xs) (b2 m : Nat) (ys : List Value) (xv : Value) (hx : a.eval x = xv) (hsrc : w.ownsRow b2 36 10 xv m ys) (h1 : ∀ u ∈ ys, u.oneCell' = true) (hb : n + m ≤ 100000) (hbase : base ≤ w.heap.size)
    (h : ∀ ao cap w', Onto w base 36 10 v (n + m) (xs ++ ys) ao cap w' → K (a.put o.dst (.slice ao (n + m) cap)) w') :
    if Region.wanted o (yielded ops a.tmps) = true then Oper.wp Try.prog o a w K Q else E := by
  have hw : Region.wanted o (yielded ops a.tmps) = true := by simp [Region.wanted, hgd]
  rw [if_pos hw]
  exact wp_onto_bind s x ho w base n v xs hs hown b2 m ys xv hx hsrc h1 hb hbase h
theorem step_wanted {P : Program} {ops : Array Oper} {o : Oper} {a : Act} {w : World} {K : Act → World → Prop} {Q : Exit → Act → World → Prop} {E : Prop} (hg : o.guard = none) (h : Oper.wp P o a w K Q) :
    if Region.wanted o (yielded ops a.tmps) = true then Oper.wp P o a w K Q else E := by
  have hw : Region.wanted o (yielded ops a.tmps) = true := by simp [Region.wanted, hg]
  rw [if_pos hw]
  exact h
theorem boxw_o {W W' : World} {p : Nat} {c : Value} {cs : List Value} {o : Option Nat} (h : BoxW W p (c :: cs)) (hg : W.grownBy W' o) (hp : some p ≠ o) : BoxW W' p (c :: cs) :=
  ⟨fun j v hj => (World.cell?_of_block (hg.block p h.lt hp)).trans (h.1 j v hj), fun j => (World.frozen?_of_block (w := W) (hg.block p h.lt hp)).trans (h.2 j)⟩
theorem own_o {w w' : World} {base : Nat} {e : TypeId} {size : Nat} {v : Value} {n : Nat} {xs : List Value} (h : w.ownsRow base e size v n xs) {o : Option Nat} (hb : w.grownBy w' o) (hn : ∀ g, v.ownBlock = some g → some g ≠ o) : w'.ownsRow base e size v n xs := by
  obtain ⟨h0, h | ⟨g, cap, cur, rfl, h2, h3, h4⟩⟩ := h
  · exact ⟨h0, Or.inl h⟩
  · refine ⟨h0, Or.inr ⟨g, cap, cur, rfl, h2, ?_, h4⟩⟩
    have hg : g < w.heap.size := by
      rcases Nat.lt_or_ge g w.heap.size with h | h
      · exact h
      · rw [Array.getElem?_eq_none h] at h3; cases h3
    rw [hb.block g hg (hn g rfl)]
    exact h3
def Sf {α : Type} (o : Out α) (rest : List Tok) : Prop :=
  match o with
  | .ok _ _ r => ∀ y, y ∈ r → y ∈ rest
  | .bad _ _ => True
theorem Sf.bind {α β : Type} {o : Out α} {f : α → Int → List Tok → Out β} {rest : List Tok} (h : Sf o rest) (hf : ∀ a l r, Sf (f a l r) r) : Sf (o.bind f) rest := by
  cases o with
  | bad e l => trivial
  | ok a l r =>
    have h2 := hf a l r
    show Sf (f a l r) rest
    cases hq : f a l r with
    | bad e l => trivial
    | ok b l2 r2 => rw [hq] at h2; exact fun y hy => h y (h2 y hy)
def Suf {α : Type} (p : Par α) : Prop := ∀ l r, Sf (p l r) r
theorem Sf.mono {α : Type} {o : Out α} {r q : List Tok} (h : Sf o r) (hm : ∀ y, y ∈ r → y ∈ q) : Sf o q := by
  cases o with
  | ok a l r => exact fun y hy => hm y (h y hy)
  | bad e l => trivial
def MdV (lo : Nat) (md : Md) (e : Ending) (w : World) : Prop :=
  ∃ vc vb xb, e = .returned (.agg #[vc, vb]) ∧ w.ownsRow lo 66 2 vc md.1.length (declV md.1) ∧ w.ownsRow lo 36 10 vb md.2.length xb ∧ BndsAt w (fun g => lo ≤ g) md.2 xb
structure MdI (w : World) (b me ma : Nat) (N : Nat) (wr : World) (l : Int) (r : List Tok) (cs : List (Nm × Int)) (bs : List Bnd) (vc vb : Value) (xb : List Value) : Prop where
  R : Rdr wr b me ma l r 0
  g : w.grownBy wr (some b)
  n : cs.length + bs.length + r.length ≤ N
  x : ∀ y, y ∈ r → 0 ≤ y.1.x
  p : BoxW wr w.heap.size [.slice none 0 0, .slice none 0 0]
  q : BoxW wr (w.heap.size + 1) [vc, vb]
  oc : wr.ownsRow (w.heap.size + 2) 66 2 vc cs.length (declV cs)
  ob : wr.ownsRow (w.heap.size + 2) 36 10 vb bs.length xb
  bt : BndsAt wr (fun g => w.heap.size + 2 ≤ g ∧ some g ≠ vc.ownBlock ∧ some g ≠ vb.ownBlock) bs xb
  ne : ∀ g, vc.ownBlock = some g → vb.ownBlock ≠ some g
theorem MdI.grown {w wr w' : World} {b me ma N : Nat} {l l' : Int} {r r' : List Tok} {cs : List (Nm × Int)} {bs : List Bnd} {vc vb : Value} {xb : List Value} (h : MdI w b me ma N wr l r cs bs vc vb xb) (hb : b < w.heap.size) (hg : wr.grownBy w' (some b)) (hR : Rdr w' b me ma l' r' 0) (hl : r'.length ≤ r.length) (hx : ∀ y, y ∈ r' → y ∈ r) : MdI w b me ma N w' l' r' cs bs vc vb xb :=
  ⟨hR, Gt h.g hg, by have := h.n; omega, fun y hy => h.x y (hx y hy), boxw_grown h.p hg (by omega), boxw_grown h.q hg (by omega),
   own_o h.oc hg (fun g e e2 => by have := (h.oc.lt g e).1; have := Oi e2; omega), own_o h.ob hg (fun g e e2 => by have := (h.ob.lt g e).1; have := Oi e2; omega),
   h.bt.move (fun g hk lt => ⟨hk, hg.block g lt (by have := hk.1; simp; omega)⟩), h.ne⟩
theorem MdI.bind {w w5 w9 : World} {b me ma N : Nat} {l : Int} {r : List Tok} {cs : List (Nm × Int)} {bs : List Bnd} {vc vb : Value} {xb ya : List Value} {a : Bnd} {ao : Option Addr} {cap lo2 : Nat} (h : MdI w b me ma N w5 l r cs bs vc vb xb) (hb : b < w.heap.size) (h9 : Onto w5 (w.heap.size + 2) 36 10 vb (bs.length + 1) (xb ++ ya) ao cap w9) (hn : cs.length + bs.length + 1 + r.length ≤ N)
    (hlo : w.heap.size + 2 ≤ lo2) (ha : BndsAt w5 (fun g => lo2 ≤ g) [a] ya) (hvc : ∀ g, vc.ownBlock = some g → g < lo2) (hvb : ∀ g, vb.ownBlock = some g → g < lo2) :
    MdI w b me ma N (w9.setCell ⟨w.heap.size + 1, 1, none⟩ (.slice ao (bs.length + 1) cap)) l r cs (bs ++ [a]) vc (.slice ao (bs.length + 1) cap) (xb ++ ya) := by
  obtain ⟨h1, h2, h3⟩ := h9
  have hq5 := h.q.lt
  have lo : ∀ g, vb.ownBlock = some g → w.heap.size + 2 ≤ g := fun g e => (h.ob.lt g e).1
  have lb : ∀ g, vc.ownBlock = some g → w.heap.size + 2 ≤ g ∧ g < w5.heap.size := fun g e => h.oc.lt g e
  have lx : ∀ g, (Value.slice ao (bs.length + 1) cap).ownBlock = some g → w.heap.size + 2 ≤ g := fun g e => (h1.lt g e).1
  have hgs := set_grown w9 (w.heap.size + 1) 1 (.slice ao (bs.length + 1) cap)
  obtain ⟨q, hq, hg⟩ := grown_some (b := b) h2 (fun g e => by have := lo g e; omega)
  refine ⟨(h.R.past hg hq).over (by omega) _, grown_new (grown_past h.g h2 (fun g e => by have := lo g e; omega)) (by omega) _, by simp; omega, h.x, ?_, ?_, ?_, ?_, ?_, ?_⟩
  · exact boxw_o (boxw_o h.p h2 (fun e => by have := lo _ e.symm; omega)) hgs (fun e => by have := Oi e; omega)
  · exact (boxw_o h.q h2 (fun e => by have := lo _ e.symm; omega)).set 1 (show 1 < 2 by decide) _
  · exact own_o (own_o h.oc h2 (fun g e e2 => h.ne g e e2.symm)) hgs (fun g e e2 => by have := (lb g e).1; have := Oi e2; omega)
  · rw [List.length_append]
    exact own_o h1 hgs (fun g e e2 => by have := lx g e; have := Oi e2; omega)
  · have far : ∀ g, w.heap.size + 2 ≤ g → g < w5.heap.size → some g ≠ vc.ownBlock → some g ≠ vb.ownBlock → (w.heap.size + 2 ≤ g ∧ some g ≠ vc.ownBlock ∧ some g ≠ (Value.slice ao (bs.length + 1) cap).ownBlock) ∧ (w9.setCell ⟨w.heap.size + 1, 1, none⟩ (.slice ao (bs.length + 1) cap)).heap[g]? = w5.heap[g]? := by
      intro g k1 lt k2 k3
      refine ⟨⟨k1, k2, ?_⟩, (hgs.block g (Nat.lt_of_lt_of_le lt h2.size) (fun e => by have := Oi e; omega)).trans (h2.block g lt k3)⟩
      rcases h3 with h3 | h3
      · rw [h3]; exact k3
      · rw [h3]; intro e; have := Oi e; omega
    have hold := h.bt.move (K' := fun g => w.heap.size + 2 ≤ g ∧ some g ≠ vc.ownBlock ∧ some g ≠ (Value.slice ao (bs.length + 1) cap).ownBlock) (fun g hk lt => far g hk.1 lt hk.2.1 hk.2.2)
    have hnew := ha.move (K' := fun g => w.heap.size + 2 ≤ g ∧ some g ≠ vc.ownBlock ∧ some g ≠ (Value.slice ao (bs.length + 1) cap).ownBlock) (fun g hk lt => far g (by omega) lt (fun e => by have := hvc g e.symm; omega) (fun e => by have := hvb g e.symm; omega))
    cases hnew with
    | cons n ps e _ v0 c0 x0 hp he tl =>
      cases tl
      rw [List.append_nil]
      exact hold.snoc (x := (n, ps, e)) hp he
  · intro g e e2
    rcases h3 with h3 | h3
    · exact h.ne g e (h3.symm.trans e2)
    · have := Oi (h3.symm.trans e2)
      have := (lb g e).2
      omega
theorem own_at {w : World} {base : Nat} {e : TypeId} {size : Nat} {a : Option Addr} {n c : Nat} {xs : List Value} (h : w.ownsRow base e size (.slice a n c) n xs) (hn : 0 < n) : ∃ g, a = some ⟨g, 0, none⟩ ∧ n ≤ c ∧ ∀ j u, xs[j]? = some u → w.cell? ⟨g, j, none⟩ = some u := by
  rcases id h.2 with ⟨e, e2⟩ | ⟨g, cap, cur, e, hg, hb, h1, h2, -⟩
  · omega
  · cases e
    refine ⟨g, rfl, h1, fun j u hj => ?_⟩
    have hadd : (⟨g, 0, none⟩ : Addr).add j = ⟨g, j, none⟩ := by unfold Addr.add; split <;> simp_all
    rw [← hadd]
    exact own_news h j u hj
theorem shift_at (n i j : Nat) (c x : List Value) (hc : c.length = n) : (c ++ x)[(j + 1) * n + i]? = x[j * n + i]? := by
  have h : (j + 1) * n = j * n + n := Nat.succ_mul j n
  rw [List.getElem?_append_right (by omega), hc, h]
  congr 1
  omega
theorem ExsAt.at {W : World} {K : Nat → Prop} : ∀ {bs : List Ex} {xs : List Value}, ExsAt W K bs xs → ∀ j (hj : j < bs.length), ∃ k nm f u vp vk vb va, ExAt W K bs[j] [.int .i64 k, .string nm, .bool f, .int .u64 u, vp, vk, vb, va] ∧ xs[j * 8 + 0]? = some (.int .i64 k) ∧ xs[j * 8 + 1]? = some (.string nm) ∧ xs[j * 8 + 2]? = some (.bool f) ∧ xs[j * 8 + 3]? = some (.int .u64 u) ∧ xs[j * 8 + 4]? = some vp ∧ xs[j * 8 + 5]? = some vk ∧ xs[j * 8 + 6]? = some vb ∧ xs[j * 8 + 7]? = some va
  | _ :: _, _, .cons e es cs xs h t, 0, _ => by
    cases h with
    | mk k n f x ps ks bs al vp vk vb va xk xb xa hp hk hb ha tk tb ta => exact ⟨k, _, f, x, vp, vk, vb, va, .mk k n f x ps ks bs al vp vk vb va xk xb xa hp hk hb ha tk tb ta, rfl, rfl, rfl, rfl, rfl, rfl, rfl, rfl⟩
  | _ :: es, _, .cons e _ cs xs h t, j + 1, hj => by
    have hc : cs.length = 8 := by cases h; rfl
    obtain ⟨k, nm, f, u, vp, vk, vb, va, h1, q0, q1, q2, q3, q4, q5, q6, q7⟩ := t.at j (by simpa using hj)
    exact ⟨k, nm, f, u, vp, vk, vb, va, h1, (shift_at 8 0 j cs xs hc).trans q0, (shift_at 8 1 j cs xs hc).trans q1, (shift_at 8 2 j cs xs hc).trans q2, (shift_at 8 3 j cs xs hc).trans q3, (shift_at 8 4 j cs xs hc).trans q4, (shift_at 8 5 j cs xs hc).trans q5, (shift_at 8 6 j cs xs hc).trans q6, (shift_at 8 7 j cs xs hc).trans q7⟩
theorem BndsAt.at {W : World} {K : Nat → Prop} : ∀ {bs : List Bnd} {xs : List Value}, BndsAt W K bs xs → ∀ j (hj : j < bs.length), ∃ vq k nm f u vp vk vb va, RowAt W K 9 1 vq bs[j].2.1.length (namesV bs[j].2.1) ∧ ExAt W K bs[j].2.2 [.int .i64 k, .string nm, .bool f, .int .u64 u, vp, vk, vb, va] ∧ xs[j * 10 + 0]? = some (.string (tx bs[j].1)) ∧ xs[j * 10 + 1]? = some vq ∧ xs[j * 10 + 2]? = some (.int .i64 k) ∧ xs[j * 10 + 3]? = some (.string nm) ∧ xs[j * 10 + 4]? = some (.bool f) ∧ xs[j * 10 + 5]? = some (.int .u64 u) ∧ xs[j * 10 + 6]? = some vp ∧ xs[j * 10 + 7]? = some vk ∧ xs[j * 10 + 8]? = some vb ∧ xs[j * 10 + 9]? = some va
  | _ :: _, _, .cons n0 p0 e es vq cs xs hr h t, 0, _ => by
    cases h with
    | mk k n f x ps ks bs al vp vk vb va xk xb xa hp hk hb ha tk tb ta => exact ⟨vq, k, _, f, x, vp, vk, vb, va, hr, .mk k n f x ps ks bs al vp vk vb va xk xb xa hp hk hb ha tk tb ta, rfl, rfl, rfl, rfl, rfl, rfl, rfl, rfl, rfl, rfl⟩
  | _ :: es, _, .cons n0 p0 e _ vq cs xs hr h t, j + 1, hj => by
    have hc : (.string (tx n0) :: vq :: cs).length = 10 := by cases h; rfl
    obtain ⟨vq', k, nm, f, u, vp, vk, vb, va, h0, h1, q0, q1, q2, q3, q4, q5, q6, q7, q8, q9⟩ := t.at j (by simpa using hj)
    have s := fun i => shift_at 10 i j (.string (tx n0) :: vq :: cs) xs hc
    exact ⟨vq', k, nm, f, u, vp, vk, vb, va, h0, h1, (s 0).trans q0, (s 1).trans q1, (s 2).trans q2, (s 3).trans q3, (s 4).trans q4, (s 5).trans q5, (s 6).trans q6, (s 7).trans q7, (s 8).trans q8, (s 9).trans q9⟩
theorem AltsAt.at {W : World} {K : Nat → Prop} : ∀ {bs : List Alt} {xs : List Value}, AltsAt W K bs xs → ∀ j (hj : j < bs.length), ∃ vq k nm f u vp vk vb va, RowAt W K 9 1 vq bs[j].2.2.2.2.1.length (namesV bs[j].2.2.2.2.1) ∧ ExAt W K bs[j].2.2.2.2.2 [.int .i64 k, .string nm, .bool f, .int .u64 u, vp, vk, vb, va] ∧ xs[j * 13 + 0]? = some (.int .i64 bs[j].1) ∧ xs[j * 13 + 1]? = some (.string (tx bs[j].2.1)) ∧ xs[j * 13 + 2]? = some (.bool bs[j].2.2.1) ∧ xs[j * 13 + 3]? = some (.int .u64 bs[j].2.2.2.1) ∧ xs[j * 13 + 4]? = some vq ∧ xs[j * 13 + 5]? = some (.int .i64 k) ∧ xs[j * 13 + 6]? = some (.string nm) ∧ xs[j * 13 + 7]? = some (.bool f) ∧ xs[j * 13 + 8]? = some (.int .u64 u) ∧ xs[j * 13 + 9]? = some vp ∧ xs[j * 13 + 10]? = some vk ∧ xs[j * 13 + 11]? = some vb ∧ xs[j * 13 + 12]? = some va
  | _ :: _, _, .cons k0 n0 f0 x0 p0 e es vq cs xs hr h t, 0, _ => by
    cases h with
    | mk k n f x ps ks bs al vp vk vb va xk xb xa hp hk hb ha tk tb ta => exact ⟨vq, k, _, f, x, vp, vk, vb, va, hr, .mk k n f x ps ks bs al vp vk vb va xk xb xa hp hk hb ha tk tb ta, rfl, rfl, rfl, rfl, rfl, rfl, rfl, rfl, rfl, rfl, rfl, rfl, rfl⟩
  | _ :: es, _, .cons k0 n0 f0 x0 p0 e _ vq cs xs hr h t, j + 1, hj => by
    have hc : (.int .i64 k0 :: .string (tx n0) :: .bool f0 :: .int .u64 x0 :: vq :: cs).length = 13 := by cases h; rfl
    obtain ⟨vq', k, nm, f, u, vp, vk, vb, va, h0, h1, q0, q1, q2, q3, q4, q5, q6, q7, q8, q9, q10, q11, q12⟩ := t.at j (by simpa using hj)
    have s := fun i => shift_at 13 i j (.int .i64 k0 :: .string (tx n0) :: .bool f0 :: .int .u64 x0 :: vq :: cs) xs hc
    exact ⟨vq', k, nm, f, u, vp, vk, vb, va, h0, h1, (s 0).trans q0, (s 1).trans q1, (s 2).trans q2, (s 3).trans q3, (s 4).trans q4, (s 5).trans q5, (s 6).trans q6, (s 7).trans q7, (s 8).trans q8, (s 9).trans q9, (s 10).trans q10, (s 11).trans q11, (s 12).trans q12⟩
theorem RowAt.below {W W' : World} {K : Nat → Prop} {e : TypeId} {size : Nat} {v : Value} {n : Nat} {xs : List Value} (h : RowAt W K e size v n xs) (hb : Below W.heap.size W W') : RowAt W' K e size v n xs := h.move fun g hk lt => ⟨hk, hb.block g lt⟩
theorem ExAt.low {W W' : World} {K : Nat → Prop} {x : Ex} {cs : List Value} (h : ExAt W K x cs) (hb : Below W.heap.size W W') : ExAt W' K x cs := h.move fun g hk lt => ⟨hk, hb.block g lt⟩
theorem add_at (g o j : Nat) : (⟨g, o, none⟩ : Addr).add j = ⟨g, o + j, none⟩ := by
  unfold Addr.add
  split <;> simp_all
theorem run_nil_str (ty : TypeId) (v : Value) (base n : Nat) (xs : List Value) (c : Nat) (w : World) (h : w.ownsRow base 9 1 v n xs) :
    (Builtin.append_ #[22, 22] ty #[v, .slice none 0 c]).run Try.prog w = .ok v w := by
  have hu : Try.prog.underlying 22 = some (.slice 9) := Try.underlying22
  rcases h.2 with ⟨rfl, rfl⟩ | ⟨g, cap, cur, rfl, _, _, hcap, _⟩
  · simp [Builtin.append_, run_underlying hu, Try.sizeOf9, Builtin.firstCells, Builtin.lenOf, go_sem]
  · simp [Builtin.append_, run_underlying hu, Try.sizeOf9, Builtin.firstCells, Builtin.lenOf, go_sem, hcap]
theorem run_onto_str (ty : TypeId) (w : World) (base n : Nat) (v : Value) (xs : List Value) (hown : w.ownsRow base 9 1 v n xs) (K : Nat → Prop) (m : Nat) (ys : List Value) (x : Value) (hx : RowAt w K 9 1 x m ys) (h1 : ∀ u ∈ ys, u.oneCell' = true) (hb : n + m ≤ 100000) (hbase : base ≤ w.heap.size) :
    ∃ ao cap w', (Builtin.append_ #[22, 22] ty #[v, x]).run Try.prog w = .ok (.slice ao (n + m) cap) w' ∧ Onto w base 9 1 v (n + m) (xs ++ ys) ao cap w' := by
  obtain ⟨i0, hi, hz0, hz1, hz2⟩ := info_parts Try.info_text
  obtain ⟨hl, ⟨rfl, rfl⟩ | ⟨g, o, c, cur, rfl, h2, h3, h4, h5, h6⟩⟩ := id hx
  · have hy : ys = [] := List.length_eq_zero_iff.1 (by simpa using hl)
    subst hy
    obtain ⟨ao, cap, rfl, hlow⟩ := own_shape hown
    exact ⟨ao, cap, w, run_nil_str ty _ base n xs 0 w hown, by simpa using hown, ⟨rfl, rfl, rfl, Nat.le_refl _, fun _ _ _ => rfl⟩, Or.inl rfl⟩
  · obtain ⟨v', w', hr, q2, q3, _, q5⟩ := run_append_own_at (P := Try.prog) w base 22 ty 9 i0 (.string ⟨#[]⟩) 1 16 Try.underlying22 hi hz0 hz1 hz2 rfl (by decide) v n xs hown ⟨g, o, none⟩ m c ys hl (fun j u hj => by rw [add_at]; exact h6 j u hj) h1 (by unfold maxLen; omega) (by omega) hbase
    obtain ⟨ao, c2, rfl, hlow⟩ := own_shape q2
    exact ⟨ao, c2, w', hr, q2, q3, q5⟩
theorem wp_onto_str {o : Oper} {a : Act} {K : Act → World → Prop} {Q : Exit → Act → World → Prop} (s x : Operand) (ho : o.op = .call { callee := .builtin .append, args := #[s, x], argTypes := #[22, 22] })
    (w : World) (base n : Nat) (v : Value) (xs : List Value) (hs : a.eval s = v) (hown : w.ownsRow base 9 1 v n xs) (K2 : Nat → Prop) (m : Nat) (ys : List Value) (xv : Value) (hx : a.eval x = xv) (hsrc : RowAt w K2 9 1 xv m ys) (h1 : ∀ u ∈ ys, u.oneCell' = true) (hb : n + m ≤ 100000) (hbase : base ≤ w.heap.size)
    (h : ∀ ao cap w', Onto w base 9 1 v (n + m) (xs ++ ys) ao cap w' → K (a.put o.dst (.slice ao (n + m) cap)) w') : o.wp Try.prog a w K Q := by
  obtain ⟨ao, cap, w', hr, h2⟩ := run_onto_str o.type w base n v xs hown K2 m ys xv hsrc h1 hb hbase
  unfold Oper.wp execOp
  simp only [ho, resolve, invoke, builtin, Sem.run_bind, Sem.run_pure, Result.andThen_ok, List.map_toArray, List.map_cons, List.map_nil, hs, hx, hr]
  exact h ao cap w' h2
theorem list_onto_str {ops : Array Oper} {rest : List Oper} {o : Oper} {a : Act} {Q : Exit → Act → World → Prop} (hgd : o.guard = none) (s x : Operand) (ho : o.op = .call { callee := .builtin .append, args := #[s, x], argTypes := #[22, 22] })
    (w : World) (base n : Nat) (v : Value) (xs : List Value) (hs : a.eval s = v) (hown : w.ownsRow base 9 1 v n xs) (K2 : Nat → Prop) (m : Nat) (ys : List Value) (xv : Value) (hx : a.eval x = xv) (hsrc : RowAt w K2 9 1 xv m ys) (h1 : ∀ u ∈ ys, u.oneCell' = true) (hb : n + m ≤ 100000) (hbase : base ≤ w.heap.size)
    (h : ∀ ao cap w', Onto w base 9 1 v (n + m) (xs ++ ys) ao cap w' → wpList Try.prog ops Q rest (a.put o.dst (.slice ao (n + m) cap)) w') : wpList Try.prog ops Q (o :: rest) a w :=
  wpList_plain hgd fun _ hK => wp_onto_str s x ho w base n v xs hs hown K2 m ys xv hx hsrc h1 hb hbase fun ao cap w' h1 => hK _ _ (h ao cap w' h1)
theorem namesV_one {l : List Nm} : ∀ u ∈ namesV l, u.oneCell' = true := by
  intro u hu
  simp only [namesV, List.mem_map] at hu
  obtain ⟨_, _, rfl⟩ := hu
  rfl
def Sub (a b : List Nm) : Prop := ∀ x, x ∈ a → x ∈ b
theorem Sub.app {a b : List Nm} (h : Sub a b) (c : List Nm) : Sub (a ++ c) (b ++ c) := fun x hx => by
  rcases List.mem_append.1 hx with g | g
  · exact List.mem_append.2 (Or.inl (h x g))
  · exact List.mem_append.2 (Or.inr g)
def NmOk (x : Nm) : Prop := x ≠ [] ∧ x.length ≤ 100000
def Nms (l : List Nm) : Prop := ∀ x, x ∈ l → NmOk x
mutual
def wfE : Ex → Prop
  | .mk k n _ _ ps ks bs al => (k = 1 → ks = []) ∧ (k ≠ 7 → al = []) ∧ (k = 1 ∨ k = 2 ∨ k = 5 → NmOk n) ∧ Nms ps ∧ wfEs ks ∧ wfBs bs ∧ wfAs al ∧ (k ≠ 6 → bs = []) ∧ (k ≠ 8 → ps = [])
def wfEs : List Ex → Prop
  | [] => True
  | e :: r => wfE e ∧ wfEs r
def wfBs : List (Nm × List Nm × Ex) → Prop
  | [] => True
  | (n, ps, e) :: r => (NmOk n ∧ Nms ps ∧ wfE e) ∧ wfBs r
def wfAs : List (Int × Nm × Bool × Int × List Nm × Ex) → Prop
  | [] => True
  | (k, n, _, _, ns, e) :: r => ((k = 0 ∨ k = 2 → NmOk n) ∧ (Nms ns ∧ (k ≠ 0 → ns = [])) ∧ wfE e) ∧ wfAs r
end
theorem or_nil (a : Fo) : a.or none = a := by cases a <;> rfl
mutual
theorem sdE_eq {cs : List Nm} : ∀ (e : Ex) (sc : List Nm), wfE e → sdE cs sc e = scE cs sc e
  | .mk k n f x ps ks bs al, sc, h => by
    unfold wfE at h
    obtain ⟨h1, h2, -, -, h5, h6, h7, -⟩ := h
    have a0 : ∀ sc, sdAs cs sc [] = none := fun sc => by unfold sdAs; rfl
    have k0 : ∀ sc, sdEs cs sc [] = none := fun sc => by unfold sdEs; rfl
    unfold sdE scE
    by_cases g1 : k = 1
    · rw [if_pos g1, if_pos g1, h1 g1, h2 (by omega), a0, k0]
      simp
    rw [if_neg g1, if_neg g1]
    by_cases g2 : k = 2
    · rw [if_pos g2, if_pos g2, h2 (by omega), a0, or_nil, sdEs_eq ks _ h5]
    rw [if_neg g2, if_neg g2]
    by_cases g3 : k = 6
    · rw [if_pos g3, if_pos g3, h2 (by omega), a0, or_nil, sdBs_eq bs _ h6, sdEs_eq ks _ h5]
    rw [if_neg g3, if_neg g3]
    by_cases g5 : k = 8
    · rw [if_pos g5, if_neg (by omega), if_pos g5, h2 (by omega), a0, or_nil, sdEs_eq ks _ h5]
    rw [if_neg g5]
    by_cases g4 : k = 7
    · rw [if_pos g4, sdEs_eq ks _ h5, sdAs_eq al _ h7]
    · rw [if_neg g4, if_neg g5, h2 g4, a0, or_nil, sdEs_eq ks _ h5]
theorem sdEs_eq {cs : List Nm} : ∀ (l : List Ex) (sc : List Nm), wfEs l → sdEs cs sc l = scEs cs sc l
  | [], _, _ => by unfold sdEs scEs; rfl
  | e :: r, sc, h => by
    unfold wfEs at h
    unfold sdEs scEs
    rw [sdE_eq e sc h.1, sdEs_eq r sc h.2]
theorem sdBs_eq {cs : List Nm} : ∀ (l : List (Nm × List Nm × Ex)) (sc : List Nm), wfBs l → sdBs cs sc l = scBs cs sc l
  | [], _, _ => by unfold sdBs scBs; rfl
  | (n, ps, e) :: r, sc, h => by
    unfold wfBs at h
    unfold sdBs scBs
    rw [sdE_eq e _ h.1.2.2, sdBs_eq r sc h.2]
theorem sdAs_eq {cs : List Nm} : ∀ (l : List (Int × Nm × Bool × Int × List Nm × Ex)) (sc : List Nm), wfAs l → sdAs cs sc l = scAs cs sc l
  | [], _, _ => by unfold sdAs scAs; rfl
  | (k, n, f, x, ns, e) :: r, sc, h => by
    unfold wfAs at h
    unfold sdAs scAs
    rw [sdE_eq e _ h.1.2.2, sdE_eq e _ h.1.2.2, sdE_eq e _ h.1.2.2, sdAs_eq r sc h.2]
end
theorem sdM_eq {m : Md} (h : wfBs m.2) : sdM m = scM m := by
  unfold sdM scM
  rw [sdBs_eq m.2 _ h]
def FoOk (o : Fo) : Prop := ∀ e n, o = some (e, n) → e ≠ 0 ∧ n ≠ []
theorem FoOk.or {a b : Fo} (ha : FoOk a) (hb : FoOk b) : FoOk (a.or b) := by
  cases a with
  | none => simpa using hb
  | some x => intro e n h; exact ha e n (by simpa using h)
theorem hasF_ok {l : List Nm} {n : Nm} (h : n ≠ []) : FoOk (hasF l n) := by
  intro e m he
  unfold hasF at he
  split at he
  · cases he
  · cases he; exact ⟨by decide, h⟩
theorem twiceL_mem : ∀ (l seen : List Nm) (x : Nm), twiceL seen l = some x → x ∈ l
  | [], _, _, h => by cases h
  | y :: r, seen, x, h => by
    unfold twiceL at h
    split at h
    · cases h; exact List.mem_cons_self ..
    · exact List.mem_cons_of_mem _ (twiceL_mem r _ x h)
theorem twF_ok {l : List Nm} (h : Nms l) : FoOk (twF l) := by
  intro e m he
  unfold twF at he
  obtain ⟨x, hx, hy⟩ := Option.map_eq_some_iff.1 he
  cases hy
  exact ⟨by decide, (h _ (twiceL_mem _ _ _ hx)).1⟩
theorem none_ok : FoOk none := fun _ _ h => by cases h
theorem bNames_ok : ∀ {bs : List (Nm × List Nm × Ex)}, wfBs bs → Nms (bNames bs)
  | [], _ => fun _ hx => by cases hx
  | (n, ps, e) :: r, h => fun x hx => by
    unfold wfBs at h
    rcases List.mem_cons.1 hx with rfl | hx
    · exact h.1.1
    · exact bNames_ok h.2 x hx
mutual
theorem scE_ok {cs : List Nm} : ∀ (e : Ex) (sc : List Nm), wfE e → FoOk (scE cs sc e)
  | .mk k n f x ps ks bs al, sc, h => by
    unfold wfE at h
    obtain ⟨h1, h2, h3, h4, h5, h6, h7, -⟩ := h
    unfold scE
    split
    · rename_i g; exact hasF_ok (h3 (Or.inl g)).1
    split
    · rename_i g; exact (hasF_ok (h3 (Or.inr (Or.inl g))).1).or (scEs_ok ks sc h5)
    split
    · exact (twF_ok (bNames_ok h6)).or ((scBs_ok bs _ h6).or (scEs_ok ks _ h5))
    split
    · exact (scEs_ok ks sc h5).or (scAs_ok al sc h7)
    split
    · exact (twF_ok h4).or (scEs_ok ks _ h5)
    · exact scEs_ok ks sc h5
theorem scEs_ok {cs : List Nm} : ∀ (l : List Ex) (sc : List Nm), wfEs l → FoOk (scEs cs sc l)
  | [], _, _ => by unfold scEs; exact none_ok
  | e :: r, sc, h => by
    unfold wfEs at h
    unfold scEs
    exact (scE_ok e sc h.1).or (scEs_ok r sc h.2)
theorem scBs_ok {cs : List Nm} : ∀ (l : List (Nm × List Nm × Ex)) (sc : List Nm), wfBs l → FoOk (scBs cs sc l)
  | [], _, _ => by unfold scBs; exact none_ok
  | (n, ps, e) :: r, sc, h => by
    unfold wfBs at h
    unfold scBs
    exact ((twF_ok h.1.2.1).or (scE_ok e _ h.1.2.2)).or (scBs_ok r sc h.2)
theorem scAs_ok {cs : List Nm} : ∀ (l : List (Int × Nm × Bool × Int × List Nm × Ex)) (sc : List Nm), wfAs l → FoOk (scAs cs sc l)
  | [], _, _ => by unfold scAs; exact none_ok
  | (k, n, f, x, ns, e) :: r, sc, h => by
    unfold wfAs at h
    unfold scAs
    refine FoOk.or ?_ (scAs_ok r sc h.2)
    split
    · rename_i g; exact (hasF_ok (h.1.1 (Or.inl g)).1).or ((twF_ok h.1.2.1.1).or (scE_ok e _ h.1.2.2))
    split
    · exact scE_ok e _ h.1.2.2
    · exact scE_ok e _ h.1.2.2
end
theorem scM_ok {m : Md} (h : wfBs m.2) (hc : ∀ d, d ∈ m.1 → NmOk d.1) : FoOk (scM m) := by
  have hn : Nms (conNames m) := fun x hx => by
    obtain ⟨d, hd, rfl⟩ := List.mem_map.1 hx
    rcases List.mem_append.1 hd with hd | hd
    · simp only [four, List.mem_cons, List.not_mem_nil, or_false] at hd
      rcases hd with rfl | rfl | rfl | rfl <;> exact ⟨by decide, by decide⟩
    · exact hc d hd
  refine (twF_ok hn).or ((twF_ok (bNames_ok h)).or (FoOk.or ?_ (scBs_ok _ _ h)))
  split
  · exact none_ok
  · intro e n he; cases he; exact ⟨by decide, by decide⟩
theorem bNames_snoc (bs : List Bnd) (b : Bnd) : bNames (bs ++ [b]) = bNames bs ++ [b.1] := by simp [bNames]
def Gap (b : UInt8) : Prop := b = 32 ∨ b = 10
theorem find_same {α : Type} {p q : α → Bool} : ∀ (l : List α), (∀ x, x ∈ l → p x = q x) → l.find? p = l.find? q
  | [], _ => rfl
  | a :: l, h => by
    rw [List.find?_cons, List.find?_cons, h a (List.mem_cons_self ..), find_same l fun x hx => h x (List.mem_cons_of_mem _ hx)]
theorem signs_gap : ∀ x, x ∈ signsB → (32 : UInt8) ∉ x.1.data.toList ∧ (10 : UInt8) ∉ x.1.data.toList := by decide
theorem inRun_gap {b : UInt8} (hb : Gap b) : inRun b = false := by
  rcases hb with rfl | rfl <;> decide
theorem run_run (l : List UInt8) : runL (runL l) = runL l := by
  unfold runL
  induction l with
  | nil => rfl
  | cons c l ih =>
    rw [List.takeWhile_cons]
    split
    · rename_i h
      rw [List.takeWhile_cons, if_pos h, ih]
    · rfl
theorem run_mem {l : List UInt8} {x : UInt8} (h : x ∈ runL l) : inRun x = true := by
  unfold runL at h
  induction l with
  | nil => cases h
  | cons c l ih =>
    rw [List.takeWhile_cons] at h
    split at h
    · rename_i g
      rcases List.mem_cons.1 h with rfl | h
      · exact g
      · exact ih h
    · cases h
theorem run_take (l : List UInt8) : l.take (runL l).length = runL l := (List.prefix_iff_eq_take.1 (List.takeWhile_prefix _)).symm
theorem marked_minus (q : List UInt8) : markedL (35 :: 45 :: q) = 35 :: 45 :: runL q := by
  have e : trimPrefix ((35 :: 45 :: q : List UInt8).drop 1) [45] = q := by simp [trimPrefix, hasPrefix]
  unfold markedL
  rw [e]
  have e2 : (35 :: 45 :: q : List UInt8).length - q.length + (runL q).length = (runL q).length + 1 + 1 := by simp only [List.length_cons]; omega
  rw [e2, List.take_succ_cons, List.take_succ_cons, run_take]
theorem marked_plain {m : List UInt8} (h : hasPrefix m [45] = false) : markedL (35 :: m) = 35 :: runL m := by
  have e : trimPrefix ((35 :: m : List UInt8).drop 1) [45] = m := by simp [trimPrefix, h]
  unfold markedL
  rw [e]
  have e2 : (35 :: m : List UInt8).length - m.length + (runL m).length = (runL m).length + 1 := by simp only [List.length_cons]; omega
  rw [e2, List.take_succ_cons, run_take]
theorem minus_split (m : List UInt8) : (∃ q, m = 45 :: q) ∨ hasPrefix m [45] = false := by
  cases m with
  | nil => exact Or.inr (by decide)
  | cons c q =>
    by_cases h : c = 45
    · exact Or.inl ⟨q, by rw [h]⟩
    · refine Or.inr ?_
      unfold hasPrefix
      rw [Bool.eq_false_iff]
      intro g
      exact h (List.cons_prefix_cons.1 (List.isPrefixOf_iff_prefix.1 g)).1.symm
theorem has35 {l : List UInt8} (h : hasPrefix l [35] = true) : ∃ m, l = 35 :: m := by
  unfold hasPrefix at h
  obtain ⟨t, rfl⟩ := List.isPrefixOf_iff_prefix.1 h
  exact ⟨t, rfl⟩
theorem signs_own : ∀ x, x ∈ signsB → signL x.1.data.toList = some x := by decide
theorem sign_pre {t l : List UInt8} (ht : t <+: l) (h : signL l = none) : signL t = none := by
  unfold signL at *
  rw [List.find?_eq_none] at *
  intro x hx g
  refine h x hx ?_
  unfold hasPrefix at *
  exact List.isPrefixOf_iff_prefix.2 ((List.isPrefixOf_iff_prefix.1 g).trans ht)
theorem marked_pre (m : List UInt8) : markedL (35 :: m) <+: 35 :: m ∧ markedL (markedL (35 :: m)) = markedL (35 :: m) := by
  rcases minus_split m with ⟨q, rfl⟩ | h
  · rw [marked_minus, marked_minus, run_run]
    exact ⟨List.cons_prefix_cons.2 ⟨rfl, List.cons_prefix_cons.2 ⟨rfl, List.takeWhile_prefix _⟩⟩, rfl⟩
  · rw [marked_plain h, marked_plain, run_run]
    · exact ⟨List.cons_prefix_cons.2 ⟨rfl, List.takeWhile_prefix _⟩, rfl⟩
    · rcases minus_split (runL m) with ⟨q, e⟩ | g
      · exact absurd (run_mem (l := m) (x := 45) (by rw [e]; exact List.mem_cons_self ..)) (by decide)
      · exact g
theorem marked_gaps {m : List UInt8} {x : UInt8} (h : x ∈ markedL (35 :: m)) : ¬ Gap x := by
  have hr : ∀ q, x ∈ runL q → ¬ Gap x := fun q hx g => by have := run_mem hx; rw [inRun_gap g] at this; cases this
  have h35 : x = 35 → ¬ Gap x := fun e g => by subst e; rcases g with g | g <;> revert g <;> decide
  have h45 : x = 45 → ¬ Gap x := fun e g => by subst e; rcases g with g | g <;> revert g <;> decide
  rcases minus_split m with ⟨q, rfl⟩ | g
  · rw [marked_minus] at h
    rcases List.mem_cons.1 h with h | h
    · exact h35 h
    · rcases List.mem_cons.1 h with h | h
      · exact h45 h
      · exact hr _ h
  · rw [marked_plain g] at h
    rcases List.mem_cons.1 h with h | h
    · exact h35 h
    · exact hr _ h
theorem read_own {l : List UInt8} (hl : l ≠ []) (h : (readL l).2 = 0) : readL (readL l).1.t = ((readL l).1, 0) ∧ (readL l).1.t <+: l ∧ ∀ x, x ∈ (readL l).1.t → ¬ Gap x := by
  cases hs : signL l with
  | some x =>
    have e : readL l = (⟨x.2, x.1.data.toList, false, 0⟩, 0) := by unfold readL; rw [hs]
    have hx : x ∈ signsB := by unfold signL at hs; exact List.mem_of_find?_eq_some hs
    have hp := by unfold signL at hs; exact List.find?_some hs
    rw [e]
    refine ⟨?_, ?_, ?_⟩
    · unfold readL
      simp only
      rw [signs_own x hx]
    · unfold hasPrefix at hp
      exact List.isPrefixOf_iff_prefix.1 hp
    · intro b hb g
      rcases g with rfl | rfl
      · exact (signs_gap x hx).1 hb
      · exact (signs_gap x hx).2 hb
  | none =>
    by_cases g : hasPrefix l [35] = true
    · have e : readL l = numT (markedL l) := by unfold readL; rw [hs]; exact if_pos g
      rw [e] at h ⊢
      rw [numT_ok h]
      obtain ⟨m, rfl⟩ := has35 g
      obtain ⟨hp, hm⟩ := marked_pre m
      refine ⟨?_, hp, fun x hx => marked_gaps hx⟩
      have h35 : hasPrefix (markedL (35 :: m)) [35] = true := by
        rcases minus_split m with ⟨q, rfl⟩ | gm
        · rw [marked_minus]; rfl
        · rw [marked_plain gm]; rfl
      have e2 : readL (markedL (35 :: m)) = numT (markedL (markedL (35 :: m))) := by
        unfold readL
        rw [sign_pre hp hs]
        exact if_pos h35
      rw [e2, hm, ← h]
    · have e : readL l = readR l := by unfold readL; rw [hs]; exact if_neg g
      rw [e] at h ⊢
      have hne : kindOf l ≠ 0 := by
        intro k
        unfold readR at h
        rw [if_pos k] at h
        cases h
      have hrn : runL l ≠ [] := by
        intro k
        cases l with
        | nil => exact hl rfl
        | cons c r => exact hne (kindOf_nil k)
      have hkk : kindOf (runL l) = kindOf l := by
        unfold kindOf
        rw [run_run]
        have : (runL l).take 1 = l.take 1 := by
          cases l with
          | nil => exact absurd rfl hl
          | cons c r =>
            unfold runL at hrn ⊢
            rw [List.takeWhile_cons] at hrn ⊢
            split
            · rfl
            · rename_i k
              rw [if_neg k] at hrn
              exact absurd rfl hrn
        rw [this]
      have ht : (readR l).1.t = runL l := by
        unfold readR at h ⊢
        rw [if_neg hne] at h ⊢
        split at h
        · rename_i g3
          rw [if_pos g3]
          exact numT_ok h
        · rename_i g3
          rw [if_neg g3]
          split at h
          · cases h
          · rename_i g16
            rw [if_neg g16]
      rw [ht]
      refine ⟨?_, List.takeWhile_prefix _, fun x hx gx => by have := run_mem hx; rw [inRun_gap gx] at this; cases this⟩
      have g2 : ¬ hasPrefix (runL l) [35] = true := by
        intro k
        obtain ⟨m, hm⟩ := has35 k
        exact absurd (run_mem (l := l) (x := 35) (by rw [hm]; exact List.mem_cons_self ..)) (by decide)
      have e2 : readL (runL l) = readR (runL l) := by
        unfold readL
        rw [sign_pre (show runL l <+: l from List.takeWhile_prefix _) hs]
        exact if_neg g2
      have e3 : readR (runL l) = readR l := by
        unfold readR
        rw [hkk, run_run]
      rw [e2, e3, ← h]
def Own (y : Tk) : Prop := ∃ c r, y.t = c :: r ∧ c ≠ 10 ∧ ¬ (c = 9 ∨ c = 13 ∨ c = 32) ∧ hasPrefix y.t [45, 45] = false ∧ readL y.t = (y, 0)
theorem fuel : ∀ (f g : Nat) (l : List UInt8) (line : Int) (acc : List (Tk × Int)), l.length < f → l.length < g → lexA f l line acc = lexA g l line acc
  | 0, _, l, _, _, hf, _ => by omega
  | _, 0, l, _, _, _, hg => by omega
  | f + 1, g + 1, [], _, _, _, _ => by unfold lexA; rfl
  | f + 1, g + 1, c :: r, line, acc, hf, hg => by
    simp only [List.length_cons] at hf hg
    unfold lexA
    split
    · exact fuel f g _ _ _ (by omega) (by omega)
    · rename_i h10
      split
      · exact fuel f g _ _ _ (by omega) (by omega)
      · split
        · have hip := index_pos (r := r) h10
          split
          · rfl
          · exact fuel f g _ _ _ (by rw [List.length_drop, List.length_cons]; omega) (by rw [List.length_drop, List.length_cons]; omega)
        · split
          · rename_i hr
            have hle := read_len hr
            split
            · rfl
            · exact fuel f g _ _ _ (by rw [List.length_drop, List.length_cons]; omega) (by rw [List.length_drop, List.length_cons]; omega)
          · rfl
def spaced (T : List (Tk × Int)) : List UInt8 := T.flatMap fun x => x.1.t ++ [32]
theorem lexA_bad : ∀ (f : Nat) (l : List UInt8) (line : Int) (acc : List (Tk × Int)) (e k : Int), lexA f l line acc = .bad e k → e ≠ 0
  | 0, l, line, acc, e, k, h => by unfold lexA at h; cases h
  | f + 1, [], line, acc, e, k, h => by unfold lexA at h; cases h
  | f + 1, c :: r, line, acc, e, k, h => by
    unfold lexA at h
    split at h
    · exact lexA_bad f _ _ _ _ _ h
    · split at h
      · exact lexA_bad f _ _ _ _ _ h
      · split at h
        · split at h
          · cases h
          · exact lexA_bad f _ _ _ _ _ h
        · split at h
          · split at h
            · cases h
              decide
            · exact lexA_bad f _ _ _ _ _ h
          · rename_i g
            cases h
            exact g
theorem lexL_bad {l : List UInt8} {e k : Int} (h : lexL l = .bad e k) : e ≠ 0 := lexA_bad _ _ _ _ _ _ h
def bytesT (T : List (Tk × Int)) : Nat := (T.map fun x => x.1.t.length).sum
theorem own_of {c : UInt8} {r : List UInt8} (h10 : c ≠ 10) (hbl : ¬ (c = 9 ∨ c = 13 ∨ c = 32)) (hp : ¬ hasPrefix (c :: r) [45, 45] = true) (h : (readL (c :: r)).2 = 0) : Own (readL (c :: r)).1 := by
  obtain ⟨h1, h2, -⟩ := read_own (List.cons_ne_nil c r) h
  have hl := read_len h
  cases ht : (readL (c :: r)).1.t with
  | nil => rw [ht] at hl; simp at hl
  | cons d q =>
    obtain ⟨u, hu⟩ := h2
    rw [ht] at hu
    obtain rfl : d = c := by simpa using (List.cons.inj hu).1
    refine ⟨d, q, ht, h10, hbl, ?_, h1⟩
    rw [Bool.eq_false_iff]
    intro g
    refine hp ?_
    unfold hasPrefix at *
    refine List.isPrefixOf_iff_prefix.2 ((List.isPrefixOf_iff_prefix.1 g).trans ⟨u, ?_⟩)
    rw [ht, hu]
theorem lexA_own : ∀ (f : Nat) (l : List UInt8) (line : Int) (acc T : List (Tk × Int)) (B : Nat), (∀ x, x ∈ acc → Own x.1) → acc.length ≤ 4096 → bytesT acc + l.length ≤ B → lexA f l line acc = .good T → (∀ x, x ∈ T → Own x.1) ∧ T.length ≤ 4096 ∧ bytesT T ≤ B
  | 0, l, line, acc, T, B, ha, hn, hB, h => by unfold lexA at h; cases h; exact ⟨ha, hn, by omega⟩
  | f + 1, [], line, acc, T, B, ha, hn, hB, h => by unfold lexA at h; cases h; exact ⟨ha, hn, by simpa using hB⟩
  | f + 1, c :: r, line, acc, T, B, ha, hn, hB, h => by
    simp only [List.length_cons] at hB
    unfold lexA at h
    split at h
    · exact lexA_own f _ _ _ _ _ ha hn (by omega) h
    · rename_i h10
      split at h
      · exact lexA_own f _ _ _ _ _ ha hn (by omega) h
      · rename_i hbl
        split at h
        · split at h
          · cases h; exact ⟨ha, hn, by omega⟩
          · exact lexA_own f _ _ _ _ _ ha hn (by rw [List.length_drop, List.length_cons]; omega) h
        · rename_i hp
          split at h
          · rename_i hr
            split at h
            · cases h
            · have hle := read_len hr
              refine lexA_own f _ _ _ _ _ (fun x hx => ?_) (by rw [List.length_append, List.length_singleton]; omega) ?_ h
              · rcases List.mem_append.1 hx with hx | hx
                · exact ha x hx
                · rw [List.mem_singleton] at hx
                  subst hx
                  exact own_of h10 hbl hp hr
              · have e : bytesT (acc ++ [((readL (c :: r)).1, line)]) = bytesT acc + (readL (c :: r)).1.t.length := by simp [bytesT]
                rw [e, List.length_drop, List.length_cons]
                simp only [List.length_cons] at hle
                omega
          · cases h
theorem lexL_own {l : List UInt8} {T : List (Tk × Int)} (h : lexL l = .good T) : (∀ x, x ∈ T → Own x.1) ∧ T.length ≤ 4096 ∧ bytesT T ≤ l.length :=
  lexA_own _ _ _ _ _ _ (fun x hx => by cases hx) (by simp) (by simp [bytesT]) h
theorem bytes_mem : ∀ {T : List (Tk × Int)} {x : Tk × Int}, x ∈ T → x.1.t.length ≤ bytesT T
  | y :: T, x, h => by
    rcases List.mem_cons.1 h with rfl | h
    · simp [bytesT]
    · have := bytes_mem h
      simp only [bytesT, List.map_cons, List.sum_cons] at *
      omega
def Ntx (r : List Tok) : Prop := ∀ y, y ∈ r → NmOk y.1.t
theorem Ntx.of {r : List Tok} (h : Tvs r) (hb : bytesT r ≤ 100000) : Ntx r := fun y hy => by
  have hm := bytes_mem hy
  refine ⟨?_, by omega⟩
  obtain ⟨c, t, e, -⟩ := h y hy
  rw [e]
  exact List.cons_ne_nil _ _
theorem Ntx.tail {y : Tok} {r : List Tok} (h : Ntx (y :: r)) : Ntx r := fun z hz => h z (List.mem_cons_of_mem _ hz)
def OkP {α : Type} (Q : α → Prop) (o : Out α) : Prop :=
  match o with
  | .ok a _ r => Q a ∧ Ntx r
  | .bad _ _ => True
def OkR {α : Type} (Q : α → Prop) (p : Par α) : Prop := ∀ l r, Ntx r → OkP Q (p l r)
theorem OkP.bind {α β : Type} {Q : α → Prop} {S : β → Prop} {o : Out α} {f : α → Int → List Tok → Out β} (h : OkP Q o) (hf : ∀ a l r, Q a → Ntx r → OkP S (f a l r)) : OkP S (o.bind f) := by
  cases o with
  | ok a l r => exact hf a l r h.1 h.2
  | bad e l => trivial
abbrev Tx (y : Tok) : Prop := NmOk y.1.t
theorem refuse_w {α : Type} (Q : α → Prop) (e : Int) : OkR Q (refuseO e) := by
  intro l r h
  cases r <;> trivial
theorem take_w : OkR Tx takeO := by
  intro l r h
  cases r with
  | nil => trivial
  | cons y r => exact ⟨h y (List.mem_cons_self ..), h.tail⟩
theorem want_w (s : Sh) : OkR Tx (wantO s) := by
  intro l r h
  unfold wantO
  split
  · exact take_w _ _ h
  · exact refuse_w _ _ _ _ h
theorem names_w : ∀ (r : List Tok) (l : Int) (acc : List Nm), Ntx r → Nms acc → Nms (namesO l r acc).1 ∧ Ntx (namesO l r acc).2.2
  | [], _, _, h, ha => ⟨ha, h⟩
  | x :: r, l, acc, h, ha => by
    unfold namesO
    split
    · refine names_w r x.2 _ h.tail fun n hn => ?_
      rcases List.mem_append.1 hn with hn | hn
      · exact ha n hn
      · rw [List.mem_singleton.1 hn]; exact h x (List.mem_cons_self ..)
    · exact ⟨ha, h⟩
theorem nms_nil : Nms [] := fun _ h => by cases h
abbrev wB (b : Bnd) : Prop := NmOk b.1 ∧ Nms b.2.1 ∧ wfE b.2.2
abbrev wA (a : Alt) : Prop := (a.1 = 0 ∨ a.1 = 2 → NmOk a.2.1) ∧ (Nms a.2.2.2.2.1 ∧ (a.1 ≠ 0 → a.2.2.2.2.1 = [])) ∧ wfE a.2.2.2.2.2
theorem wfBs_of : ∀ {l : List Bnd}, (∀ b, b ∈ l → wB b) → wfBs l
  | [], _ => by unfold wfBs; trivial
  | (n, ps, e) :: r, h => by
    unfold wfBs
    exact ⟨h _ (List.mem_cons_self ..), wfBs_of fun b hb => h b (List.mem_cons_of_mem _ hb)⟩
theorem wfAs_of : ∀ {l : List Alt}, (∀ b, b ∈ l → wA b) → wfAs l
  | [], _ => by unfold wfAs; trivial
  | (k, n, f, x, ns, e) :: r, h => by
    unfold wfAs
    exact ⟨h _ (List.mem_cons_self ..), wfAs_of fun b hb => h b (List.mem_cons_of_mem _ hb)⟩
theorem wfEs_of : ∀ {l : List Ex}, (∀ b, b ∈ l → wfE b) → wfEs l
  | [], _ => by unfold wfEs; trivial
  | e :: r, h => by
    unfold wfEs
    exact ⟨h _ (List.mem_cons_self ..), wfEs_of fun b hb => h b (List.mem_cons_of_mem _ hb)⟩
theorem wfE_mk {k : Int} {n : Nm} {f : Bool} {x : Int} {ps : List Nm} {ks : List Ex} {bs : List Bnd} {al : List Alt} (h1 : k = 1 → ks = []) (h2 : k ≠ 7 → al = []) (h3 : k = 1 ∨ k = 2 ∨ k = 5 → NmOk n) (h4 : Nms ps) (h5 : ∀ e, e ∈ ks → wfE e) (h6 : ∀ b, b ∈ bs → wB b) (h7 : ∀ a, a ∈ al → wA a) (h8 : k ≠ 6 → bs = []) (h9 : k ≠ 8 → ps = [] := by exact fun _ => rfl) : wfE (.mk k n f x ps ks bs al) := by
  unfold wfE
  exact ⟨h1, h2, h3, h4, wfEs_of h5, wfBs_of h6, wfAs_of h7, h8, h9⟩
theorem leaf_w {k : Int} {n : Nm} (h : NmOk n) : wfE (.leaf k n) := wfE_mk (fun _ => rfl) (fun _ => rfl) (fun _ => h) nms_nil (fun _ h => by cases h) (fun _ h => by cases h) (fun _ h => by cases h) (fun _ => rfl)
theorem one_w {e : Ex} (h : wfE e) : ∀ x, x ∈ [e] → wfE x := fun x hx => by rw [List.mem_singleton.1 hx]; exact h
theorem bindO_w {ex : Par Ex} (hx : OkR wfE ex) : OkR wB (bindO ex) := by
  intro l r h
  unfold bindO
  refine (want_w _ _ _ h).bind fun a l r e h => ?_
  have hn := names_w r l [] h nms_nil
  refine (want_w _ _ _ hn.2).bind fun b l2 r2 _ h => ?_
  refine (hx _ _ h).bind fun c l3 r3 e3 h => ?_
  exact ⟨⟨e, hn.1, e3⟩, h⟩
theorem moreO_w {α : Type} {Q : α → Prop} {item : Par α} (hx : OkR Q item) : ∀ n (acc : List α), (∀ a, a ∈ acc → Q a) → OkR (fun l => ∀ a, a ∈ l → Q a) (moreO item n acc)
  | 0, acc, ha => fun _ _ h => ⟨ha, h⟩
  | n + 1, acc, ha => by
    intro l r h
    unfold moreO
    split
    · refine (take_w _ _ h).bind fun a l r e h => ?_
      refine (hx _ _ h).bind fun c l3 r3 e3 h => ?_
      refine moreO_w hx n _ (fun b hb => ?_) _ _ h
      rcases List.mem_append.1 hb with hb | hb
      · exact ha b hb
      · rw [List.mem_singleton.1 hb]; exact e3
    · exact ⟨ha, h⟩
theorem someO_w {α : Type} {Q : α → Prop} {item : Par α} (hx : OkR Q item) : OkR (fun l => ∀ a, a ∈ l → Q a) (someO item) := by
  intro l r h
  unfold someO
  refine (hx _ _ h).bind fun c l3 r3 e3 h => ?_
  exact moreO_w hx _ _ (fun b hb => by rw [List.mem_singleton.1 hb]; exact e3) _ _ h
theorem innerO_w {ex : Par Ex} (hx : OkR wfE ex) : OkR wfE (innerO ex) := by
  intro l r h
  unfold innerO
  refine (want_w _ _ _ h).bind fun a l r e h => ?_
  refine (hx _ _ h).bind fun c l3 r3 e3 h => ?_
  refine (want_w _ _ _ h).bind fun a l r e h => ?_
  exact ⟨e3, h⟩
def AtW (r : List Tok) (a : Ex) : Prop := wfE a ∧ (shapeL r = sCon ∨ shapeL r = sBack → ∃ k n, (k = 2 ∨ k = 5) ∧ NmOk n ∧ a = .leaf k n)
theorem atomO_w {ex : Par Ex} (hx : OkR wfE ex) (l : Int) (r : List Tok) (h : Ntx r) : OkP (AtW r) (atomO ex l r) := by
  unfold atomO
  split
  · rename_i g
    exact (take_w _ _ h).bind fun a l r e h => ⟨⟨leaf_w e, fun q => by rw [g] at q; rcases q with q | q <;> cases q⟩, h⟩
  split
  · exact (take_w _ _ h).bind fun a l r e h => ⟨⟨leaf_w e, fun _ => ⟨2, _, Or.inl rfl, e, rfl⟩⟩, h⟩
  split
  · rename_i g
    exact (take_w _ _ h).bind fun a l r e h => ⟨⟨wfE_mk (fun _ => rfl) (fun _ => rfl) (fun q => by rcases q with q | q | q <;> cases q) nms_nil (fun _ h => by cases h) (fun _ h => by cases h) (fun _ h => by cases h) (fun _ => rfl), fun q => by rw [g] at q; rcases q with q | q <;> cases q⟩, h⟩
  split
  · exact (take_w _ _ h).bind fun a l r e h => ⟨⟨leaf_w e, fun _ => ⟨5, _, Or.inr rfl, e, rfl⟩⟩, h⟩
  split
  · rename_i g
    have hi := innerO_w hx l r h
    cases ho : innerO ex l r with
    | bad e l => trivial
    | ok a l2 r2 =>
      rw [ho] at hi
      exact ⟨⟨hi.1, fun q => by rw [g] at q; rcases q with q | q <;> cases q⟩, hi.2⟩
  · exact refuse_w _ _ _ _ h
theorem atomO_w' {ex : Par Ex} (hx : OkR wfE ex) : OkR wfE (atomO ex) := by
  intro l r h
  have ha := atomO_w hx l r h
  cases ho : atomO ex l r with
  | bad e l => trivial
  | ok a l2 r2 =>
    rw [ho] at ha
    exact ⟨ha.1.1, ha.2⟩
theorem atomsO_w {ex : Par Ex} (hx : OkR wfE ex) : ∀ n (acc : List Ex), (∀ a, a ∈ acc → wfE a) → OkR (fun l => ∀ a, a ∈ l → wfE a) (atomsO ex n acc)
  | 0, acc, ha => fun _ _ h => ⟨ha, h⟩
  | n + 1, acc, ha => by
    intro l r h
    unfold atomsO
    split
    · refine (atomO_w' hx _ _ h).bind fun c l3 r3 e3 h => ?_
      refine atomsO_w hx n _ (fun b hb => ?_) _ _ h
      rcases List.mem_append.1 hb with hb | hb
      · exact ha b hb
      · rw [List.mem_singleton.1 hb]; exact e3
    · exact ⟨ha, h⟩
theorem rowO_w {ex : Par Ex} (hx : OkR wfE ex) : OkR wfE (rowO ex) := by
  intro l r h
  unfold rowO
  refine (atomO_w hx _ _ h).bind fun c l3 r3 e3 h3 => ?_
  refine (atomsO_w hx _ [] (fun _ h => by cases h) _ _ h3).bind fun d l4 r4 e4 h4 => ?_
  refine ⟨?_, h4⟩
  unfold rowE
  split
  · rename_i g
    obtain ⟨k, n, hk, hn, rfl⟩ := e3.2 (of_decide_eq_true g)
    exact wfE_mk (fun q => by omega) (fun _ => rfl) (fun _ => hn) nms_nil e4 (fun _ h => by cases h) (fun _ h => by cases h) (fun _ => rfl)
  split
  · exact e3.1
  · refine wfE_mk (fun q => by cases q) (fun _ => rfl) (fun q => by rcases q with q | q | q <;> cases q) nms_nil (fun e he => ?_) (fun _ h => by cases h) (fun _ h => by cases h) (fun _ => rfl)
    rcases List.mem_cons.1 he with rfl | he
    · exact e3.1
    · exact e4 e he
theorem rowsO_w {ex : Par Ex} (hx : OkR wfE ex) : OkR wfE (rowsO ex) := by
  intro l r h
  unfold rowsO
  refine (rowO_w hx _ _ h).bind fun c l3 r3 e3 h => ?_
  split
  · refine (take_w _ _ h).bind fun a l r e h => ?_
    refine (rowO_w hx _ _ h).bind fun d l4 r4 e4 h => ?_
    refine ⟨wfE_mk (fun q => by cases q) (fun _ => rfl) (fun _ => e) nms_nil (fun x hx => ?_) (fun _ h => by cases h) (fun _ h => by cases h) (fun _ => rfl), h⟩
    simp only [List.mem_cons, List.not_mem_nil, or_false] at hx
    rcases hx with rfl | rfl
    · exact e3
    · exact e4
  · exact ⟨e3, h⟩
theorem letO_w {ex : Par Ex} (hx : OkR wfE ex) : OkR wfE (letO ex) := by
  intro l r h
  unfold letO
  refine (want_w _ _ _ h).bind fun a l r e h => ?_
  refine (someO_w (bindO_w hx) _ _ h).bind fun c l3 r3 e3 h => ?_
  refine (want_w _ _ _ h).bind fun a l r e h => ?_
  refine (hx _ _ h).bind fun d l4 r4 e4 h => ?_
  exact ⟨wfE_mk (fun q => by cases q) (fun _ => rfl) (fun q => by rcases q with q | q | q <;> cases q) nms_nil (one_w e4) e3 (fun _ h => by cases h) (fun q => absurd rfl q), h⟩
theorem altO_w {ex : Par Ex} (hx : OkR wfE ex) : OkR wA (altO ex) := by
  intro l r h
  unfold altO
  split
  · refine (take_w _ _ h).bind fun a l r e h => ?_
    have hn := names_w r l [] h nms_nil
    refine (want_w _ _ _ hn.2).bind fun b l2 r2 _ h => ?_
    refine (hx _ _ h).bind fun c l3 r3 e3 h => ?_
    exact ⟨⟨fun _ => e, ⟨hn.1, fun q => absurd rfl q⟩, e3⟩, h⟩
  split
  · refine (take_w _ _ h).bind fun a l r e h => ?_
    refine (want_w _ _ _ h).bind fun b l2 r2 _ h => ?_
    refine (hx _ _ h).bind fun c l3 r3 e3 h => ?_
    exact ⟨⟨fun q => (by rcases q with q | q <;> cases q), ⟨nms_nil, fun _ => rfl⟩, e3⟩, h⟩
  · refine (want_w _ _ _ h).bind fun a l r e h => ?_
    refine (want_w _ _ _ h).bind fun b l2 r2 _ h => ?_
    refine (hx _ _ h).bind fun c l3 r3 e3 h => ?_
    exact ⟨⟨fun _ => e, ⟨nms_nil, fun _ => rfl⟩, e3⟩, h⟩
theorem caseO_w {ex : Par Ex} (hx : OkR wfE ex) : OkR wfE (caseO ex) := by
  intro l r h
  unfold caseO
  refine (want_w _ _ _ h).bind fun a l r e h => ?_
  refine (hx _ _ h).bind fun c l3 r3 e3 h => ?_
  refine (want_w _ _ _ h).bind fun a l r e h => ?_
  refine (want_w _ _ _ h).bind fun a l r e h => ?_
  split
  · exact (want_w _ _ _ h).bind fun a l r e h => ⟨wfE_mk (fun q => by cases q) (fun q => absurd rfl q) (fun q => by rcases q with q | q | q <;> cases q) nms_nil (one_w e3) (fun _ h => by cases h) (fun _ h => by cases h) (fun _ => rfl), h⟩
  · refine (someO_w (altO_w hx) _ _ h).bind fun d l4 r4 e4 h => ?_
    exact (want_w _ _ _ h).bind fun a l r e h => ⟨wfE_mk (fun q => by cases q) (fun q => absurd rfl q) (fun q => by rcases q with q | q | q <;> cases q) nms_nil (one_w e3) (fun _ h => by cases h) e4 (fun _ => rfl), h⟩
theorem lamO_w {ex : Par Ex} (hx : OkR wfE ex) : OkR wfE (lamO ex) := by
  intro l r h
  unfold lamO
  refine (want_w _ _ _ h).bind fun a l r e h => ?_
  have hn := names_w r l [] h nms_nil
  split
  · refine (want_w _ _ _ hn.2).bind fun b l2 r2 _ h => ?_
    refine (hx _ _ h).bind fun c l3 r3 e3 h => ?_
    exact ⟨wfE_mk (fun q => by cases q) (fun _ => rfl) (fun q => by rcases q with q | q | q <;> cases q) hn.1 (one_w e3) (fun _ h => by cases h) (fun _ h => by cases h) (fun _ => rfl) (fun q => absurd rfl q), h⟩
  · exact refuse_w _ _ _ _ h
theorem exprO_w : ∀ n d, OkR wfE (exprO n d)
  | 0, _ => fun _ _ _ => trivial
  | n + 1, d => by
    have hx := exprO_w n (d + 1)
    intro l r h
    unfold exprO
    split
    · split
      · exact refuse_w _ _ _ _ h
      split
      · exact letO_w hx _ _ h
      split
      · exact caseO_w hx _ _ h
      split
      · exact lamO_w hx _ _ h
      · exact rowsO_w hx _ _ h
    · exact refuse_w _ _ _ _ h
theorem declsO_w : ∀ n (acc : List (Nm × Int)), (∀ d, d ∈ acc → NmOk d.1) → OkR (fun l => ∀ d, d ∈ l → NmOk d.1) (declsO n acc)
  | 0, acc, ha => fun _ _ h => ⟨ha, h⟩
  | n + 1, acc, ha => by
    intro l r h
    unfold declsO
    split
    · refine (take_w _ _ h).bind fun a l r e h => ?_
      split
      · have h0 := h
        refine (take_w _ _ h).bind fun b l2 r2 e2 h => ?_
        split
        · exact refuse_w _ _ _ _ h0
        · refine declsO_w n _ (fun d hd => ?_) _ _ h
          rcases List.mem_append.1 hd with hd | hd
          · exact ha d hd
          · rw [List.mem_singleton.1 hd]; exact e
      · exact refuse_w _ _ _ _ h
    · exact ⟨ha, h⟩
def wfM (m : Md) : Prop := (∀ d, d ∈ m.1 → NmOk d.1) ∧ ∀ b, b ∈ m.2 → wB b
theorem moduleO_w : ∀ n cs bs, wfM (cs, bs) → OkR wfM (moduleO n cs bs)
  | 0, _, _, hm => fun _ _ h => ⟨hm, h⟩
  | n + 1, cs, bs, hm => by
    intro l r h
    unfold moduleO
    split
    · exact ⟨hm, h⟩
    split
    · refine (take_w _ _ h).bind fun a l r e h => ?_
      refine (declsO_w _ [] (fun _ h => by cases h) _ _ h).bind fun d l2 r2 e2 h => ?_
      refine (want_w _ _ _ h).bind fun b l3 r3 _ h => ?_
      have hm2 : wfM (cs ++ d, bs) := ⟨fun x hx => by
        rcases List.mem_append.1 hx with hx | hx
        · exact hm.1 x hx
        · exact e2 x hx, hm.2⟩
      exact moduleO_w n _ _ hm2 _ _ h
    · refine (bindO_w (exprO_w _ _) _ _ h).bind fun d l2 r2 e2 h => ?_
      refine (want_w _ _ _ h).bind fun b l3 r3 _ h => ?_
      have hm2 : wfM (cs, bs ++ [d]) := ⟨hm.1, fun x hx => by
        rcases List.mem_append.1 hx with hx | hx
        · exact hm.2 x hx
        · rw [List.mem_singleton.1 hx]; exact e2⟩
      exact moduleO_w n _ _ hm2 _ _ h
theorem parse_wf {T : List Tok} (hv : Tvs T) (hb : bytesT T ≤ 100000) {m : Md} {l : Int} {r : List Tok} (h : parseO T = .ok m l r) : wfM m := by
  have h0 : wfM ([], []) := ⟨fun _ h => (by cases h), fun _ h => (by cases h)⟩
  have hw := moduleO_w (T.length + 1) [] [] h0 1 T (Ntx.of hv hb)
  rw [show moduleO (T.length + 1) [] [] 1 T = parseO T from rfl, h] at hw
  exact hw.1
theorem parse_scope {T : List Tok} (hv : Tvs T) (hb : bytesT T ≤ 100000) {m : Md} {l : Int} {r : List Tok} (h : parseO T = .ok m l r) : sdM m = scM m ∧ FoOk (scM m) := by
  obtain ⟨h1, h2⟩ := parse_wf hv hb h
  exact ⟨sdM_eq (wfBs_of h2), scM_ok (wfBs_of h2) h1⟩
end Go.Proofs.Ytdjcdecbmeickaa
