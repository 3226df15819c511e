import Derived.RegionDies
import Derived.Lib.QuietBelow
import Derived.Test.YtbnmmbjajheedaaGreatDoorMg9
namespace Go.Proofs.YtbnmmbjajheedaaGreatDoor
set_option maxHeartbeats 64000000
set_option maxRecDepth 100000
open Go.RowKit Go.Lib
theorem step_wanted {P : Program} {ops : Array Oper} {o : Oper} {a : Act} {w : World} {K : Act → World → Prop} {Q : Exit → Act → World → Prop} {E : Prop} (hg : o.guard = none) (h : Oper.wp P o a w K Q) :
  if Region.wanted o (yielded ops a.tmps) = true then Oper.wp P o a w K Q else E := by
 have hw : Region.wanted o (yielded ops a.tmps) = true := by simp [Region.wanted, hg]
 rw [if_pos hw]
 exact h
theorem boxw_o {W W' : World} {p : Nat} {c : Value} {cs : List Value} {o : Option Nat} (h : BoxW W p (c :: cs)) (hg : W.grownBy W' o) (hp : some p ≠ o) : BoxW W' p (c :: cs) :=
 ⟨fun j v hj => (World.cell?_of_block (hg.block p h.lt hp)).trans (h.1 j v hj), fun j => (World.frozen?_of_block (w := W) (hg.block p h.lt hp)).trans (h.2 j)⟩
theorem own_o {w w' : World} {base : Nat} {e : TypeId} {size : Nat} {v : Value} {n : Nat} {xs : List Value} (h : w.ownsRow base e size v n xs) {o : Option Nat} (hb : w.grownBy w' o) (hn : ∀ g, v.ownBlock = some g → some g ≠ o) : w'.ownsRow base e size v n xs := by
 obtain ⟨h0, h | ⟨g, cap, cur, rfl, h2, h3, h4⟩⟩ := h
 ·exact ⟨h0, Or.inl h⟩
 ·refine ⟨h0, Or.inr ⟨g, cap, cur, rfl, h2, ?_, h4⟩⟩
  have hg : g < w.heap.size := by
   rcases Nat.lt_or_ge g w.heap.size with h | h
   ·exact h
   ·rw [Array.getElem?_eq_none h] at h3; cases h3
  rw [hb.block g hg (hn g rfl)]
  exact h3
theorem bind_strict {ex : Par Ex} (hx : Shrinks ex) {last : Int} {rest : List Tok} {x : Bnd} {l : Int} {r : List Tok} (h : bindO ex last rest = .ok x l r) : r.length < rest.length := by
 unfold bindO at h
 exact want_strict (fun t l r => Less.mono ((want_shrinks _ _ _).then fun _ l2 r2 => (hx l2 r2).then fun b l3 r3 => less_ok _ _ _) (names_less r l [])) h
def Sf {α : Type} (o : Out α) (rest : List Tok) : Prop :=
 match o with
 | .ok _ _ r => ∀ y, y ∈ r → y ∈ rest
 | .bad _ _ => True
theorem Sf.bind {α β : Type} {o : Out α} {f : α → Int → List Tok → Out β} {rest : List Tok} (h : Sf o rest) (hf : ∀ a l r, Sf (f a l r) r) : Sf (o.bind f) rest := by
 cases o with
 | bad e l => trivial
 | ok a l r =>
  have h2 := hf a l r
  show Sf (f a l r) rest
  cases hq : f a l r with
  | bad e l => trivial
  | ok b l2 r2 => rw [hq] at h2; exact fun y hy => h y (h2 y hy)
def Suf {α : Type} (p : Par α) : Prop := ∀ l r, Sf (p l r) r
theorem sf_ok {α : Type} (a : α) (l : Int) (r : List Tok) : Sf (.ok a l r) r := fun _ h => h
theorem sf_refuse {α : Type} (e l : Int) (r : List Tok) (q : List Tok) : Sf (refuseO e l r : Out α) q := by rw [refuseO_eq]; trivial
theorem take_suf : Suf takeO := fun l r => by
 cases r with
 | nil => trivial
 | cons y r => exact fun z hz => List.mem_cons_of_mem _ hz
theorem want_suf (s : Sh) : Suf (wantO s) := fun l r => by
 unfold wantO
 split
 ·exact take_suf l r
 ·exact sf_refuse _ _ _ _
theorem names_suf : ∀ (r : List Tok) (l : Int) (acc : List Nm), ∀ y, y ∈ (namesO l r acc).2.2 → y ∈ r
 | [], l, acc => fun y hy => hy
 | z :: r, l, acc => by
  unfold namesO
  split
  ·exact fun y hy => List.mem_cons_of_mem _ (names_suf r _ _ y hy)
  ·exact fun y hy => hy
theorem Sf.mono {α : Type} {o : Out α} {r q : List Tok} (h : Sf o r) (hm : ∀ y, y ∈ r → y ∈ q) : Sf o q := by
 cases o with
 | ok a l r => exact fun y hy => hm y (h y hy)
 | bad e l => trivial
theorem bind_suf {ex : Par Ex} (h : Suf ex) : Suf (bindO ex) := fun l r =>
 (want_suf _ l r).bind fun _ l r => Sf.mono ((want_suf _ _ _).bind fun _ l2 r2 => (h l2 r2).bind fun _ _ _ => sf_ok _ _ _) (names_suf r l [])
theorem more_suf {α : Type} {item : Par α} (h : Suf item) : ∀ (n : Nat) (acc : List α), Suf (moreO item n acc)
 | 0, acc => fun l r => sf_ok _ _ _
 | n + 1, acc => fun l r => by
  unfold moreO
  split
  ·exact (take_suf l r).bind fun _ l r => (h l r).bind fun a l2 r2 => more_suf h n _ l2 r2
  ·exact sf_ok _ _ _
theorem some_suf {α : Type} {item : Par α} (h : Suf item) : Suf (someO item) := fun l r => (h l r).bind fun _ l r => more_suf h _ _ l r
theorem atom_suf {ex : Par Ex} (h : Suf ex) : Suf (atomO ex) := fun l r => by
 unfold atomO
 split
 ·exact (take_suf l r).bind fun t l r => sf_ok _ _ _
 split
 ·exact (take_suf l r).bind fun t l r => sf_ok _ _ _
 split
 ·exact (take_suf l r).bind fun t l r => sf_ok _ _ _
 split
 ·exact (take_suf l r).bind fun t l r => sf_ok _ _ _
 split
 ·exact (want_suf _ l r).bind fun _ l r => (h l r).bind fun x l2 r2 => (want_suf _ l2 r2).bind fun _ l3 r3 => sf_ok _ _ _
 ·exact sf_refuse _ _ _ _
theorem atoms_suf {ex : Par Ex} (h : Suf ex) : ∀ (n : Nat) (acc : List Ex), Suf (atomsO ex n acc)
 | 0, acc => fun l r => sf_ok _ _ _
 | n + 1, acc => fun l r => by
  unfold atomsO
  split
  ·exact (atom_suf h l r).bind fun a l r => atoms_suf h n _ l r
  ·exact sf_ok _ _ _
theorem row_suf {ex : Par Ex} (h : Suf ex) : Suf (rowO ex) := fun l r =>
 (atom_suf h l r).bind fun _ l r => (atoms_suf h _ _ l r).bind fun _ _ _ => sf_ok _ _ _
theorem rows_suf {ex : Par Ex} (h : Suf ex) : Suf (rowsO ex) := fun l r =>
 (row_suf h l r).bind fun a l r => by
  split
  ·exact (take_suf l r).bind fun t l2 r2 => (row_suf h l2 r2).bind fun b l3 r3 => sf_ok _ _ _
  ·exact sf_ok _ _ _
theorem let_suf {ex : Par Ex} (h : Suf ex) : Suf (letO ex) := fun l r =>
 (want_suf _ l r).bind fun _ l r => (some_suf (bind_suf h) l r).bind fun _ l2 r2 => (want_suf _ l2 r2).bind fun _ l3 r3 => (h l3 r3).bind fun _ _ _ => sf_ok _ _ _
theorem alt_suf {ex : Par Ex} (h : Suf ex) : Suf (altO ex) := fun l r => by
 unfold altO
 split
 ·exact (take_suf l r).bind fun t l r => Sf.mono ((want_suf _ _ _).bind fun _ l2 r2 => (h l2 r2).bind fun x l3 r3 => sf_ok _ _ _) (names_suf r l [])
 split
 ·exact (take_suf l r).bind fun t l r => (want_suf _ l r).bind fun _ l2 r2 => (h l2 r2).bind fun x l3 r3 => sf_ok _ _ _
 ·exact (want_suf _ l r).bind fun t l r => (want_suf _ l r).bind fun _ l2 r2 => (h l2 r2).bind fun x l3 r3 => sf_ok _ _ _
theorem case_suf {ex : Par Ex} (h : Suf ex) : Suf (caseO ex) := fun l r =>
 (want_suf _ l r).bind fun _ l r => (h l r).bind fun x l2 r2 => (want_suf _ l2 r2).bind fun _ l3 r3 => (want_suf _ l3 r3).bind fun _ l4 r4 => by
  split
  ·exact (want_suf _ l4 r4).bind fun _ l5 r5 => sf_ok _ _ _
  ·exact (some_suf (alt_suf h) l4 r4).bind fun xs l5 r5 => (want_suf _ l5 r5).bind fun _ l6 r6 => sf_ok _ _ _
theorem lam_suf {ex : Par Ex} (h : Suf ex) : Suf (lamO ex) := fun l r =>
 (want_suf _ l r).bind fun _ l r => by
  split
  ·exact Sf.mono ((want_suf _ _ _).bind fun _ l2 r2 => (h l2 r2).bind fun x l3 r3 => sf_ok _ _ _) (names_suf r l [])
  ·exact sf_refuse _ _ _ _
theorem expr_suf : ∀ (n d : Nat), Suf (exprO n d)
 | 0, d => fun l r => trivial
 | n + 1, d => fun l r => by
  unfold exprO
  have h := expr_suf n (d + 1)
  split
  ·split
   ·exact sf_refuse _ _ _ _
   split
   ·exact let_suf h l r
   split
   ·exact case_suf h l r
   split
   ·exact lam_suf h l r
   ·exact rows_suf h l r
  ·exact sf_refuse _ _ _ _
theorem decls_suf : ∀ (n : Nat) (acc : List (Nm × Int)) (last : Int) (rest : List Tok) (xs : List (Nm × Int)) (l : Int) (r : List Tok), declsO n acc last rest = .ok xs l r → ∀ y, y ∈ r → y ∈ rest
 | 0, acc, last, rest, xs, l, r, h => by cases h; exact fun y hy => hy
 | n + 1, acc, last, rest, xs, l, r, h => by
  by_cases g : shapeL rest = sCon
  ·obtain ⟨y, q, rfl⟩ := take_of g (by decide)
   rw [declsO_succ n acc last y q g] at h
   cases ho : arityO y.2 q with
   | bad e ln => rw [ho] at h; cases h
   | ok x l2 r2 =>
    rw [ho] at h
    have h1 := decls_suf n _ _ _ _ _ _ h
    have h2 := arity_suf ho
    exact fun z hz => List.mem_cons_of_mem _ (h2 z (h1 z hz))
  ·unfold declsO at h
   rw [if_neg g] at h
   cases h
   exact fun y hy => hy
def MdV (lo : Nat) (md : Md) (e : Ending) (w : World) : Prop :=
 ∃ vc vb xb, e = .returned (.agg #[vc, vb]) ∧ w.ownsRow lo 67 2 vc md.1.length (declV md.1) ∧ w.ownsRow lo 51 10 vb md.2.length xb ∧ BndsAt w (fun g => lo ≤ g) md.2 xb
structure MdI (w : World) (b me ma : Nat) (N : Nat) (wr : World) (l : Int) (r : List Tok) (cs : List (Nm × Int)) (bs : List Bnd) (vc vb : Value) (xb : List Value) : Prop where
 R : Rdr wr b me ma l r 0
 g : w.grownBy wr (some b)
 n : cs.length + bs.length + r.length ≤ N
 x : ∀ y, y ∈ r → 0 ≤ y.1.x
 p : BoxW wr w.heap.size [.slice none 0 0, .slice none 0 0]
 q : BoxW wr (w.heap.size + 1) [vc, vb]
 oc : wr.ownsRow (w.heap.size + 2) 67 2 vc cs.length (declV cs)
 ob : wr.ownsRow (w.heap.size + 2) 51 10 vb bs.length xb
 bt : BndsAt wr (fun g => w.heap.size + 2 ≤ g ∧ some g ≠ vc.ownBlock ∧ some g ≠ vb.ownBlock) bs xb
 ne : ∀ g, vc.ownBlock = some g → vb.ownBlock ≠ some g
theorem MdI.grown {w wr w' : World} {b me ma N : Nat} {l l' : Int} {r r' : List Tok} {cs : List (Nm × Int)} {bs : List Bnd} {vc vb : Value} {xb : List Value} (h : MdI w b me ma N wr l r cs bs vc vb xb) (hb : b < w.heap.size) (hg : wr.grownBy w' (some b)) (hR : Rdr w' b me ma l' r' 0) (hl : r'.length ≤ r.length) (hx : ∀ y, y ∈ r' → y ∈ r) : MdI w b me ma N w' l' r' cs bs vc vb xb :=
 ⟨hR, Gt h.g hg, by have := h.n; omega, fun y hy => h.x y (hx y hy), boxw_grown h.p hg (by omega), boxw_grown h.q hg (by omega),
  own_o h.oc hg (fun g e e2 => by have := (h.oc.lt g e).1; have := Oi e2; omega), own_o h.ob hg (fun g e e2 => by have := (h.ob.lt g e).1; have := Oi e2; omega),
  h.bt.move (fun g hk lt => ⟨hk, hg.block g lt (by have := hk.1; simp; omega)⟩), h.ne⟩
theorem MdI.decls {w w5 w9 : World} {b me ma N : Nat} {l : Int} {r : List Tok} {cs ds : List (Nm × Int)} {bs : List Bnd} {vc vb : Value} {xb : List Value} {ao : Option Addr} {cap : Nat} (h : MdI w b me ma N w5 l r cs bs vc vb xb) (hb : b < w.heap.size) (h9 : Onto w5 (w.heap.size + 2) 67 2 vc (cs.length + ds.length) (declV cs ++ declV ds) ao cap w9) (hn : cs.length + ds.length + bs.length + r.length ≤ N) :
  MdI w b me ma N (w9.setCell ⟨w.heap.size + 1, 0, none⟩ (.slice ao (cs.length + ds.length) cap)) l r (cs ++ ds) bs (.slice ao (cs.length + ds.length) cap) vb xb := by
 obtain ⟨h1, h2, h3⟩ := h9
 have hq5 := h.q.lt
 have lo : ∀ g, vc.ownBlock = some g → w.heap.size + 2 ≤ g := fun g e => (h.oc.lt g e).1
 have lb : ∀ g, vb.ownBlock = some g → w.heap.size + 2 ≤ g ∧ g < w5.heap.size := fun g e => h.ob.lt g e
 have lx : ∀ g, (Value.slice ao (cs.length + ds.length) cap).ownBlock = some g → w.heap.size + 2 ≤ g := fun g e => (h1.lt g e).1
 have hgs := set_grown w9 (w.heap.size + 1) 0 (.slice ao (cs.length + ds.length) cap)
 obtain ⟨q, hq, hg⟩ := grown_some (b := b) h2 (fun g e => by have := lo g e; omega)
 refine ⟨(h.R.past hg hq).over (by omega) _, grown_new (grown_past h.g h2 (fun g e => by have := lo g e; omega)) (by omega) _, by simp; omega, h.x, ?_, ?_, ?_, ?_, ?_, ?_⟩
 ·exact boxw_o (boxw_o h.p h2 (fun e => by have := lo _ e.symm; omega)) hgs (fun e => by have := Oi e; omega)
 ·exact (boxw_o h.q h2 (fun e => by have := lo _ e.symm; omega)).set 0 (show 0 < 2 by decide) _
 ·rw [declV_app, List.length_append]
  exact own_o h1 hgs (fun g e e2 => by have := lx g e; have := Oi e2; omega)
 ·exact own_o (own_o h.ob h2 (fun g e e2 => h.ne g e2.symm e)) hgs (fun g e e2 => by have := (lb g e).1; have := Oi e2; omega)
 ·have hno : ∀ g, g < w5.heap.size → some g ≠ vc.ownBlock → some g ≠ (Value.slice ao (cs.length + ds.length) cap).ownBlock := by
   intro g lt hk
   rcases h3 with h3 | h3
   ·rw [h3]; exact hk
   ·rw [h3]; intro e; have := Oi e; omega
  exact h.bt.move (fun g hk lt => ⟨⟨hk.1, hno g lt hk.2.1, hk.2.2⟩, (hgs.block g (Nat.lt_of_lt_of_le lt h2.size) (fun e => by have := hk.1; have := Oi e; omega)).trans (h2.block g lt hk.2.1)⟩)
 ·intro g e e2
  rcases h3 with h3 | h3
  ·exact h.ne g (h3.symm.trans e) e2
  ·have := Oi (h3.symm.trans e)
   have := (lb g e2).2
   omega
theorem MdI.bind {w w5 w9 : World} {b me ma N : Nat} {l : Int} {r : List Tok} {cs : List (Nm × Int)} {bs : List Bnd} {vc vb : Value} {xb ya : List Value} {a : Bnd} {ao : Option Addr} {cap lo2 : Nat} (h : MdI w b me ma N w5 l r cs bs vc vb xb) (hb : b < w.heap.size) (h9 : Onto w5 (w.heap.size + 2) 51 10 vb (bs.length + 1) (xb ++ ya) ao cap w9) (hn : cs.length + bs.length + 1 + r.length ≤ N)
  (hlo : w.heap.size + 2 ≤ lo2) (ha : BndsAt w5 (fun g => lo2 ≤ g) [a] ya) (hvc : ∀ g, vc.ownBlock = some g → g < lo2) (hvb : ∀ g, vb.ownBlock = some g → g < lo2) :
  MdI w b me ma N (w9.setCell ⟨w.heap.size + 1, 1, none⟩ (.slice ao (bs.length + 1) cap)) l r cs (bs ++ [a]) vc (.slice ao (bs.length + 1) cap) (xb ++ ya) := by
 obtain ⟨h1, h2, h3⟩ := h9
 have hq5 := h.q.lt
 have lo : ∀ g, vb.ownBlock = some g → w.heap.size + 2 ≤ g := fun g e => (h.ob.lt g e).1
 have lb : ∀ g, vc.ownBlock = some g → w.heap.size + 2 ≤ g ∧ g < w5.heap.size := fun g e => h.oc.lt g e
 have lx : ∀ g, (Value.slice ao (bs.length + 1) cap).ownBlock = some g → w.heap.size + 2 ≤ g := fun g e => (h1.lt g e).1
 have hgs := set_grown w9 (w.heap.size + 1) 1 (.slice ao (bs.length + 1) cap)
 obtain ⟨q, hq, hg⟩ := grown_some (b := b) h2 (fun g e => by have := lo g e; omega)
 refine ⟨(h.R.past hg hq).over (by omega) _, grown_new (grown_past h.g h2 (fun g e => by have := lo g e; omega)) (by omega) _, by simp; omega, h.x, ?_, ?_, ?_, ?_, ?_, ?_⟩
 ·exact boxw_o (boxw_o h.p h2 (fun e => by have := lo _ e.symm; omega)) hgs (fun e => by have := Oi e; omega)
 ·exact (boxw_o h.q h2 (fun e => by have := lo _ e.symm; omega)).set 1 (show 1 < 2 by decide) _
 ·exact own_o (own_o h.oc h2 (fun g e e2 => h.ne g e e2.symm)) hgs (fun g e e2 => by have := (lb g e).1; have := Oi e2; omega)
 ·rw [List.length_append]
  exact own_o h1 hgs (fun g e e2 => by have := lx g e; have := Oi e2; omega)
 ·have far : ∀ g, w.heap.size + 2 ≤ g → g < w5.heap.size → some g ≠ vc.ownBlock → some g ≠ vb.ownBlock → (w.heap.size + 2 ≤ g ∧ some g ≠ vc.ownBlock ∧ some g ≠ (Value.slice ao (bs.length + 1) cap).ownBlock) ∧ (w9.setCell ⟨w.heap.size + 1, 1, none⟩ (.slice ao (bs.length + 1) cap)).heap[g]? = w5.heap[g]? := by
   intro g k1 lt k2 k3
   refine ⟨⟨k1, k2, ?_⟩, (hgs.block g (Nat.lt_of_lt_of_le lt h2.size) (fun e => by have := Oi e; omega)).trans (h2.block g lt k3)⟩
   rcases h3 with h3 | h3
   ·rw [h3]; exact k3
   ·rw [h3]; intro e; have := Oi e; omega
  have hold := h.bt.move (K' := fun g => w.heap.size + 2 ≤ g ∧ some g ≠ vc.ownBlock ∧ some g ≠ (Value.slice ao (bs.length + 1) cap).ownBlock) (fun g hk lt => far g hk.1 lt hk.2.1 hk.2.2)
  have hnew := ha.move (K' := fun g => w.heap.size + 2 ≤ g ∧ some g ≠ vc.ownBlock ∧ some g ≠ (Value.slice ao (bs.length + 1) cap).ownBlock) (fun g hk lt => far g (by omega) lt (fun e => by have := hvc g e.symm; omega) (fun e => by have := hvb g e.symm; omega))
  cases hnew with
  | cons n ps e _ v0 c0 x0 hp he tl =>
   cases tl
   rw [List.append_nil]
   exact hold.snoc (x := (n, ps, e)) hp he
 ·intro g e e2
  rcases h3 with h3 | h3
  ·exact h.ne g e (h3.symm.trans e2)
  ·have := Oi (h3.symm.trans e2)
   have := (lb g e).2
   omega
theorem module_any (b me ma : Nat) (B : Bx) (last : Int) (rest : List Tok) (hX : ∀ y, y ∈ rest → 0 ≤ y.1.x) (hL : rest.length ≤ 4096) (w : World) (hC : Ctx w b me ma B) (hR : Rdr w b me ma last rest 0) : Calls Tryz.prog 26 #[.pointer (some ⟨b, 0, none⟩)] w (OutSaid b me ma 0 (MdV w.heap.size) (moduleO (rest.length + 1) [] [] last rest) w) := by
 have hlt : b < w.heap.size := Bl hR.c1
 have hx1 := (Below.refl w.heap.size w).alloc Nr (.cells #[.slice none 0 0, .slice none 0 0] 26)
 have hx2 := (Below.refl (w.alloc (.cells #[.slice none 0 0, .slice none 0 0] 26)).heap.size (w.alloc (.cells #[.slice none 0 0, .slice none 0 0] 26))).alloc Nr (.cells #[.slice none 0 0, .slice none 0 0] 26)
 have hB1 := BoxW.alloc w #[.slice none 0 0, .slice none 0 0] 26
 have hB2 := BoxW.alloc (w.alloc (.cells #[.slice none 0 0, .slice none 0 0] 26)) #[.slice none 0 0, .slice none 0 0] 26
 have hs1 : (w.alloc (.cells #[.slice none 0 0, .slice none 0 0] 26)).heap.size = w.heap.size + 1 := by simp
 rw [hs1] at hB2
 have hx := onB' hx1 hx2
 have HI := Hd (MdI.mk (N := rest.length) (cs := []) (bs := []) (xb := []) (hR.later hx) (grown_of hx) (by simp) hX (hB1.below hx2) hB2 (World.ownsRow_nil _ _ _ _) (World.ownsRow_nil _ _ _ _) .nil (fun g e => by cases e))
 have HC := Hd hC
 clear hx hx1 hx2 hB1 hB2 hs1 hX hR hC
 go_enter Tryz.func26, Tryz.ntmps26
 go_wp2_with fail
 go_loopw [] (fun wr => ∃ (l : Int) (r : List Tok) (cs : List (Nm × Int)) (bs : List Bnd) (vc vb : Value) (xb : List Value) (fu : Nat), r.length < fu ∧ moduleO fu cs bs l r = moduleO (rest.length + 1) [] [] last rest ∧ MdI w b me ma rest.length wr l r cs bs vc vb xb) (fun wr => lenOf ((wr.cell? ⟨b, 0, none⟩).getD .nilFunc))
 case atStart => exact ⟨last, rest, [], [], _, _, [], _, Nat.lt_succ_self _, rfl, HI.out⟩
 case round =>
  obtain ⟨l, r, cs, bs, vc, vb, xb, fu, hfu, hN, hI⟩ := hrel
  obtain ⟨v, hv, av, cv, rfl, hcv, hmv, -⟩ := hI.R.c0
  obtain ⟨av2, cc2, rfl, -⟩ := own_shape hI.oc
  obtain ⟨av3, cc3, rfl, -⟩ := own_shape hI.ob
  obtain ⟨fu', rfl⟩ : ∃ q, fu = q + 1 := ⟨fu - 1, by omega⟩
  have hme : lenOf ((wr.cell? ⟨b, 0, none⟩).getD .nilFunc) = r.length := by rw [hv]; rfl
  have HQ := Hd (Ai hN (Ai hI hme))
  have HS := Hd (skip_any b me ma l r 0 sData (by decide) wr hI.R)
  have hCw := HC.out.later hI.g
  have c0 := hCw.env.data.1.1
  have c1 := hCw.env.data.1.2
  have hn := hI.n
  clear hN hI hCw hme
  cases r with
  | nil =>
   have q0 := HQ.out.2.1.q.1 0 _ rfl
   have q1 := HQ.out.2.1.q.1 1 _ rfl
   have d0 := HQ.out.2.1.p.1 0 _ rfl
   have d1 := HQ.out.2.1.p.1 1 _ rfl
   have z0 := HQ.out.2.1.p.2 0
   have z1 := HQ.out.2.1.p.2 1
   simp only [List.length_nil] at hv
   clear HS c0 c1
   go_wp2_with fail
   have hF := (HQ.out.2.1.p.set 0 (show 0 < 2 by decide) (.slice av2 cs.length cc2)).set 1 (show 1 < 2 by decide) (.slice av3 bs.length cc3)
   have v0 := hF.1 0 _ rfl
   have v1 := hF.1 1 _ rfl
   refine bodyPost_ret (v := .agg #[.slice av2 cs.length cc2, .slice av3 bs.length cc3]) (by simp [results, Tryz.results26, go_sem, v0, v1]) rfl ?_
   have hp : moduleO (rest.length + 1) [] [] last rest = .ok (cs, bs) l [] := by
    rw [← HQ.out.1]
    conv => lhs; unfold moduleO
    exact if_pos rfl
   rw [hp]
   refine ⟨⟨_, _, xb, rfl, ?_, ?_, ?_⟩, (HQ.out.2.1.R.over hlt _).over hlt _, grown_new (grown_new HQ.out.2.1.g Nr _) Nr _⟩
   ·exact own_base (own_o (own_o HQ.out.2.1.oc (set_grown _ w.heap.size 0 _) (fun g e e2 => by have := (HQ.out.2.1.oc.lt g e).1; have := Oi e2; omega)) (set_grown _ w.heap.size 1 _) (fun g e e2 => by have := (HQ.out.2.1.oc.lt g e).1; have := Oi e2; omega)) (by omega)
   ·exact own_base (own_o (own_o HQ.out.2.1.ob (set_grown _ w.heap.size 0 _) (fun g e e2 => by have := (HQ.out.2.1.ob.lt g e).1; have := Oi e2; omega)) (set_grown _ w.heap.size 1 _) (fun g e e2 => by have := (HQ.out.2.1.ob.lt g e).1; have := Oi e2; omega)) (by omega)
   ·refine HQ.out.2.1.bt.move (fun g hk lt => ⟨by have := hk.1; omega, ?_⟩)
    exact (((Kp.set (lo := w.heap.size + 2) (hi := g + 1) _ w.heap.size 0 (.slice av2 cs.length cc2) (Or.inl (by omega))).trans (Kp.set _ w.heap.size 1 (.slice av3 bs.length cc3) (Or.inl (by omega)))) g (by have := hk.1; omega) (by omega))
  | cons y r =>
   simp only [List.length_cons] at hv hn hfu hcv
   have hne : ¬ (y :: r = []) := by simp
   have f0 : decide ((0 : Int) < (r.length : Int) + 1) = true := decide_eq_true (by omega)
   go_wp2_with fail
   refine HS.out.mono ?_
   rintro e w2 (⟨gs, rfl, y', r', er, hR, hg⟩ | ⟨gs, rfl, hb⟩)
   ·cases er
    have hp := HQ.out.1
    have hun : moduleO (fu' + 1) cs bs l (y :: r) = (declsO (r.length + 1) [] y.2 r).bind fun ds l2 r2 => (wantO sSemi l2 r2).bind fun _ l3 r3 => moduleO fu' (cs ++ ds) bs l3 r3 := by
     conv => lhs; unfold moduleO
     rw [if_neg hne, if_pos gs]
     rfl
    rw [hun] at hp
    have HP := Hd hp
    have hI2 := HQ.out.2.1.grown hlt hg hR (by simp) (fun z hz => List.mem_cons_of_mem _ hz)
    have H2 := Hd hI2
    have hdr : Below w2.heap.size w2 w2.drew := (Below.refl w2.heap.size w2).drew
    have HD := Hd (decls_any b me ma y.2 r 0 H2.out.x (by omega) w2.drew ((HC.out.later H2.out.g).later (grown_of hdr)).env (H2.out.R.later hdr))
    have hdd := Hd hdr
    have q0 := H2.out.q.1 0 _ rfl
    have q1 := H2.out.q.1 1 _ rfl
    clear hp hun hI2 hR hg HS c0 c1 hv f0 hdr gs
    go_upto_region 4 with fail
    cases ho : declsO (r.length + 1) [] y.2 r with
    | bad er ln =>
     have hp := HP.out
     rw [ho, bind_bad] at hp
     have HP2 := Hd hp
     rw [ho] at HD
     clear hp ho HP
     go_region_dies
     all_goals
      (go_at_call 60; refine HD.out.mono ?_; rintro e w7 ⟨hbr, hg7⟩; unfold Broken at hbr; subst hbr; go_wp2_with fail; exact ⟨rfl, by rw [← HP2.out]; exact ⟨rfl, Gt (Gt H2.out.g (grown_of (b := b) hdd.out)) hg7⟩⟩)
    | ok ds l2 r2 =>
     have hp := HP.out
     rw [ho, bind_ok] at hp
     have HP2 := Hd hp
     have hln := decls_len _ _ _ _ _ _ _ ho
     have hsuf := decls_suf _ _ _ _ _ _ _ ho
     simp only [List.length_nil, Nat.zero_add] at hln
     rw [ho] at HD
     clear hp ho HP
     have HP := HP2
     clear HP2
     go_region_law
      (first
       | (refine step_onto_decl rfl _ _ rfl w5 (w.heap.size + 2) cs.length (.slice av2 cs.length cc2) (declV cs) rfl HO5.out _ ds.length (declV ds) _ rfl H5.out.2.2.1 (declV_one ds) (by omega) (by have := H5.out.2.1.size; have := H2.out.q.lt; omega) ?_; intro ao cap w9 hon; have hBq := HK9.out w9 hon.2.1; have q0 := hBq.1 0 _ rfl; have z0 := hBq.2 0; have H9 := Hd (Ai hon hBq); clear hon hBq)
       | (refine step_wanted rfl ?_; go_simp; go_at_call 60; refine HD.out.mono ?_; rintro e w5 ⟨⟨vd, rfl, hod⟩, hR5, hg5'⟩; have hg5 : w2.grownBy w5 (some b) := Gt (grown_of hdd.out) hg5'; have hI5 := H2.out.grown hlt hg5 hR5 (by omega) hsuf; have q0 := hI5.q.1 0 _ rfl; have q1 := hI5.q.1 1 _ rfl; have HO5 := Hd hI5.oc; have HK9 := Hd (fun (w9 : World) (hg : w5.grownBy w9 (Value.slice av2 cs.length cc2).ownBlock) => boxw_o hI5.q hg (fun e => by have := (hI5.oc.lt _ e.symm).1; omega)); have H5 := Hd (Ai hI5 (Ai hg5 (Ai hod hg5'))); clear hR5 hg5 hod hI5 hg5'))
     all_goals
      have hI10 := H5.out.1.decls hlt H9.out.1 (by omega)
      have HME := Hd (show r2.length + 1 ≤ r.length + 1 by omega)
      generalize (w9.setCell ⟨w.heap.size + 1, 0, none⟩ (.slice ao (cs.length + ds.length) cap)) = W10 at *
      have HC10 := HC.out.later hI10.g
      have c0 := HC10.env.semi.1.1
      have c1 := HC10.env.semi.1.2
      have HW := Hd (want_any b me ma l2 r2 0 sSemi (by decide) W10 hI10.R)
      have HI10 := Hd hI10
      clear hI10 HC10
      go_wp2_with fail
      refine HW.out.mono ?_
      rintro e w11 h
      cases hw : wantO sSemi l2 r2 with
      | bad er ln =>
       rw [hw] at h
       obtain ⟨hbr, hg⟩ := h
       have hp := HP.out
       rw [hw, bind_bad] at hp
       have HB := Hd (Ai hp.symm (Gt HI10.out.g hg))
       unfold Broken at hbr
       subst hbr
       clear hg hw hp HW c0 c1
       go_wp2_with fail
       refine ⟨rfl, ?_⟩
       rw [HB.out.1]
       exact ⟨rfl, HB.out.2⟩
      | ok y3 l3 r3 =>
       rw [hw] at h
       obtain ⟨rfl, hR, hg⟩ := h
       have hp := HP.out
       rw [hw, bind_ok] at hp
       have hsf := wantO_suf hw (by decide)
       have hl3 := congrArg List.length (wantO_less (by decide) hw)
       simp only [List.length_cons] at hl3
       have hI := HI10.out.grown hlt hg hR (by omega) hsf
       have HF := Hd (Ai hp hI)
       obtain ⟨v3, hv3, a3, c3, rfl, -, -, -⟩ := hR.c0
       have HV := Hd hv3
       clear hg hw hp HW c0 c1 hR hsf hI hv3
       go_wp2_with fail
       refine ⟨⟨l3, r3, cs ++ ds, bs, _, _, xb, fu', by omega, HF.out.1, HF.out.2⟩, ?_⟩
       rw [HQ.out.2.2, HV.out]
       simp only [Option.getD_some, lenOf, List.length_cons]
       omega
   ·have hp := HQ.out.1
    have hun : moduleO (fu' + 1) cs bs l (y :: r) = (bindO (exprO ((y :: r).length + 201) 0) l (y :: r)).bind fun b l2 r2 => (wantO sSemi l2 r2).bind fun _ l3 r3 => moduleO fu' cs (bs ++ [b]) l3 r3 := by
     conv => lhs; unfold moduleO
     rw [if_neg hne, if_neg gs]
    rw [hun] at hp
    have HP := Hd hp
    have hI2 := HQ.out.2.1.grown hlt (grown_of hb) (HQ.out.2.1.R.later hb) Nr (fun z hz => hz)
    have H2 := Hd hI2
    have hdr : Below w2.heap.size w2 w2.drew := (Below.refl w2.heap.size w2).drew
    have HD := Hd (bind_any b me ma B ((y :: r).length + 201) 0 (expr_all b me ma B _ 0 (by omega)) l (y :: r) (by omega) (by simp only [List.length_cons]; omega) w2.drew ((HC.out.later H2.out.g).later (grown_of hdr)) (H2.out.R.later hdr))
    have hdd := Hd hdr
    have q0 := H2.out.q.1 0 _ rfl
    have q1 := H2.out.q.1 1 _ rfl
    clear hp hun hI2 hb HS c0 c1 hv f0 hdr gs
    go_upto_region 5 with fail
    cases ho : bindO (exprO ((y :: r).length + 201) 0) l (y :: r) with
    | bad er ln =>
     have hp := HP.out
     rw [ho, bind_bad] at hp
     have HP2 := Hd hp
     rw [ho] at HD
     clear hp ho HP
     go_region_dies
     all_goals
      (go_at_call 61; refine HD.out.mono ?_; rintro e w7 ⟨hbr, hg7⟩; unfold Broken at hbr; subst hbr; go_wp2_with fail; exact ⟨rfl, by rw [← HP2.out]; exact ⟨rfl, Gt (Gt H2.out.g (grown_of (b := b) hdd.out)) hg7⟩⟩)
    | ok a l2 r2 =>
     have hp := HP.out
     rw [ho, bind_ok] at hp
     have HP2 := Hd hp
     have hlr := bind_strict (expr_shrinks _ _) ho
     have hsuf := bind_suf (expr_suf ((y :: r).length + 201) 0) l (y :: r)
     rw [ho] at hsuf
     simp only [List.length_cons] at hlr
     rw [ho] at HD
     clear hp ho HP
     have HP := HP2
     clear HP2
     go_region_law
      (first
       | (refine step_onto_bind rfl _ _ rfl (w5.alloc (.cells #[.string (tx a.1), .slice ap np cp, .int .i64 k, .string nm, .bool f, .int .u64 u, .slice ap1 np1 cp1, .slice ak nk ck, .slice ab nb cb, .slice aa na ca] 51)) (w.heap.size + 2) bs.length (.slice av3 bs.length cc3) xb rfl HO5.out w5.heap.size 1 [.string (tx a.1), .slice ap np cp, .int .i64 k, .string nm, .bool f, .int .u64 u, .slice ap1 np1 cp1, .slice ak nk ck, .slice ab nb cb, .slice aa na ca] _ rfl (own_built (cs := #[.string (tx a.1), .slice ap np cp, .int .i64 k, .string nm, .bool f, .int .u64 u, .slice ap1 np1 cp1, .slice ak nk ck, .slice ab nb cb, .slice aa na ca]) (heap_alloc_new _ _) Nr rfl (by decide)) HO1.out (by omega) (by have := HS5.out; simp; omega) ?_; intro ao cap w9 hon; have hBq := HK9.out w9 hon.2.1; have q1 := hBq.1 1 _ rfl; have z1 := hBq.2 1; have H9 := Hd (Ai hon hBq); clear hon hBq)
       | (refine step_wanted rfl ?_; go_simp; go_at_call 61; refine HD.out.mono ?_; rintro e w5 ⟨⟨vp, k, nm, f, u, vq, vk, vb', va, rfl, hrow, hat⟩, hR5, hg5'⟩; obtain ⟨ap, np, cp, rfl⟩ := hrow.slice; obtain ⟨⟨ap1, np1, cp1, rfl⟩, ⟨ak, nk, ck, rfl⟩, ⟨ab, nb, cb, rfl⟩, ⟨aa, na, ca, rfl⟩⟩ := hat.slices; have hg5 : w2.grownBy w5 (some b) := Gt (grown_of hdd.out) hg5'; have hI5 := H2.out.grown hlt hg5 hR5 (by simp; omega) hsuf; have hy5 := (Below.refl w5.heap.size w5).alloc Nr (.cells #[.string (tx a.1), .slice ap np cp, .int .i64 k, .string nm, .bool f, .int .u64 u, .slice ap1 np1 cp1, .slice ak nk ck, .slice ab nb cb, .slice aa na ca] 51); have hI6 := hI5.grown hlt (grown_of hy5) (hI5.R.later hy5) Nr (fun z hz => hz); have q0 := hI5.q.1 0 _ rfl; have q1 := hI5.q.1 1 _ rfl; have qb1 := hI6.q.1 1 _ rfl; have HO5 := Hd hI6.ob; have HS5 := Hd hI5.q.lt; have HO1 := Hd (show ∀ zz ∈ ([.string (tx a.1), .slice ap np cp, .int .i64 k, .string nm, .bool f, .int .u64 u, .slice ap1 np1 cp1, .slice ak nk ck, .slice ab nb cb, .slice aa na ca] : List Value), zz.oneCell' = true by intro z hz; simp at hz; rcases hz with rfl | rfl | rfl | rfl | rfl | rfl | rfl | rfl | rfl | rfl <;> rfl); have HK9 := Hd (fun (w9 : World) (hg : (w5.alloc (.cells #[.string (tx a.1), .slice ap np cp, .int .i64 k, .string nm, .bool f, .int .u64 u, .slice ap1 np1 cp1, .slice ak nk ck, .slice ab nb cb, .slice aa na ca] 51)).grownBy w9 (Value.slice av3 bs.length cc3).ownBlock) => boxw_o hI6.q hg (fun e => by have := (hI6.ob.lt _ e.symm).1; omega)); have hsz2 := H2.out.q.lt; have hszd : w2.drew.heap.size = w2.heap.size := rfl; have H6 := Hd (Ai hI6 (Ai (show w.heap.size + 2 ≤ w2.drew.heap.size by omega) (Ai ((BndsAt.cons a.1 a.2.1 a.2.2 [] (.slice ap np cp) _ [] (hrow.move fun g hg lt => ⟨hg, hy5.block g lt⟩) (hat.move fun g hg lt => ⟨hg, hy5.block g lt⟩) .nil : BndsAt (w5.alloc (.cells #[.string (tx a.1), .slice ap np cp, .int .i64 k, .string nm, .bool f, .int .u64 u, .slice ap1 np1 cp1, .slice ak nk ck, .slice ab nb cb, .slice aa na ca] 51)) (fun g => w2.drew.heap.size ≤ g) [a] [.string (tx a.1), .slice ap np cp, .int .i64 k, .string nm, .bool f, .int .u64 u, .slice ap1 np1 cp1, .slice ak nk ck, .slice ab nb cb, .slice aa na ca])) (Ai (fun g e => (H2.out.oc.lt g e).2) (fun g e => (H2.out.ob.lt g e).2))))); clear hR5 hg5 hI5 hI6 hg5' hrow hat hy5 hsz2 hszd))
     all_goals
      have hI10 := H6.out.1.bind hlt H9.out.1 (by have := hlr; omega) H6.out.2.1 H6.out.2.2.1 H6.out.2.2.2.1 H6.out.2.2.2.2
      have HME := Hd (show r2.length + 1 ≤ r.length + 1 by omega)
      generalize (w9.setCell ⟨w.heap.size + 1, 1, none⟩ (.slice ao (bs.length + 1) cap)) = W10 at *
      have HC10 := HC.out.later hI10.g
      have c0 := HC10.env.semi.1.1
      have c1 := HC10.env.semi.1.2
      have HW := Hd (want_any b me ma l2 r2 0 sSemi (by decide) W10 hI10.R)
      have HI10 := Hd hI10
      clear hI10 HC10
      go_wp2_with fail
      refine HW.out.mono ?_
      rintro e w11 h
      cases hw : wantO sSemi l2 r2 with
      | bad er ln =>
       rw [hw] at h
       obtain ⟨hbr, hg⟩ := h
       have hp := HP.out
       rw [hw, bind_bad] at hp
       have HB := Hd (Ai hp.symm (Gt HI10.out.g hg))
       unfold Broken at hbr
       subst hbr
       clear hg hw hp HW c0 c1
       go_wp2_with fail
       refine ⟨rfl, ?_⟩
       rw [HB.out.1]
       exact ⟨rfl, HB.out.2⟩
      | ok y3 l3 r3 =>
       rw [hw] at h
       obtain ⟨rfl, hR, hg⟩ := h
       have hp := HP.out
       rw [hw, bind_ok] at hp
       have hsf := wantO_suf hw (by decide)
       have hl3 := congrArg List.length (wantO_less (by decide) hw)
       simp only [List.length_cons] at hl3
       have hI := HI10.out.grown hlt hg hR (by omega) hsf
       have HF := Hd (Ai hp hI)
       obtain ⟨v3, hv3, a3, c3, rfl, -, -, -⟩ := hR.c0
       have HV := Hd hv3
       clear hg hw hp HW c0 c1 hR hsf hI hv3
       go_wp2_with fail
       refine ⟨⟨l3, r3, cs, bs ++ [a], _, _, xb ++ [.string (tx a.1), .slice ap np cp, .int .i64 k, .string nm, .bool f, .int .u64 u, .slice ap1 np1 cp1, .slice ak nk ck, .slice ab nb cb, .slice aa na ca], fu', by omega, HF.out.1, HF.out.2⟩, ?_⟩
       rw [HQ.out.2.2, HV.out]
       simp only [Option.getD_some, lenOf, List.length_cons]
       omega
theorem sdrewN {B : Nat} {w W : World} (h : Below B w W) (n : Nat) : Below B w (W.drewN n) := ⟨h.os, h.tape, h.output, h.size, h.block⟩
theorem own_at {w : World} {base : Nat} {e : TypeId} {size : Nat} {a : Option Addr} {n c : Nat} {xs : List Value} (h : w.ownsRow base e size (.slice a n c) n xs) (hn : 0 < n) : ∃ g, a = some ⟨g, 0, none⟩ ∧ n ≤ c ∧ ∀ j u, xs[j]? = some u → w.cell? ⟨g, j, none⟩ = some u := by
 rcases id h.2 with ⟨e, e2⟩ | ⟨g, cap, cur, e, hg, hb, h1, h2, -⟩
 ·omega
 ·cases e
  refine ⟨g, rfl, h1, fun j u hj => ?_⟩
  have hadd : (⟨g, 0, none⟩ : Addr).add j = ⟨g, j, none⟩ := by unfold Addr.add; split <;> simp_all
  rw [← hadd]
  exact own_news h j u hj
theorem own_cap {w : World} {base : Nat} {e : TypeId} {size : Nat} {a : Option Addr} {n c : Nat} {xs : List Value} (h : w.ownsRow base e size (.slice a n c) n xs) : n ≤ maxLen := by
 rcases id h.2 with ⟨e, e2⟩ | ⟨g, cap, cur, e, hg, hb, h1, h2, -⟩
 ·omega
 ·omega
theorem namesV_at {l : List Nm} {j : Nat} (hj : j < l.length) : (namesV l)[j]? = some (.string (tx l[j])) := by simp [namesV, hj]
theorem texts_any (l : List Nm) (a1 a2 : Option Addr) (c1 c2 : Nat) (K1 K2 : Nat → Prop) (w : World) (h1 : RowAt w K1 9 1 (.slice a1 l.length c1) l.length (namesV l)) (h2 : RowAt w K2 9 1 (.slice a2 l.length c2) l.length (namesV l)) :
  Calls Tryz.prog 65 #[.slice a1 l.length c1, .slice a2 l.length c2] w fun e w' => e = .returned (.bool true) ∧ Below w.heap.size w w' := by
 have HO := Hd (Ai h1 h2)
 have hmx := h1.cap
 unfold maxLen at hmx
 clear h1 h2
 go_enter Tryz.func65, Tryz.ntmps65
 have u1 : ((l.length : Int) != (l.length : Int)) = false := by simp
 go_wp2_with fail
 clear u1
 go_loopw [5] (fun s5 wr => ∃ j : Nat, j ≤ l.length ∧ s5 = .int .i64 j ∧ Below w.heap.size w wr) (fun s5 _ => l.length - (RowKit.intOf s5).toNat)
 case atStart => exact ⟨0, Nat.zero_le _, rfl, Below.refl _ _⟩
 case round =>
  obtain ⟨j, hj, rfl, hbr⟩ := hrel
  have HBR := Hd hbr
  clear hbr
  by_cases gj : j < l.length
  ·have gj' : (j : Int) < (l.length : Int) := by omega
   obtain ⟨g1, o1, ea1, k1, m1', -, ht1⟩ := HO.out.1.at (by omega)
   obtain ⟨g2, o2, ea2, k2, m2', -, ht2⟩ := HO.out.2.at (by omega)
   subst ea1
   subst ea2
   have p0 := later' HBR.out (ht1 j _ (namesV_at gj))
   have q0 := later' HBR.out (ht2 j _ (namesV_at gj))
   generalize l[j] = tk at *
   have he : (tx tk).toList == (tx tk).toList := by simp
   have ej : IntKind.i64.wrap ((j : Int) + 1) = (j : Int) + 1 := by rw [IntKind.wrap_i64]; omega
   have b0 : (0 : Int) ≤ (j : Int) := by omega
   clear ht1 ht2
   go_wp2_with fail
   go_quiet (fail)
   have HE := Hd (sdrewN HBR.out nq)
   go_wp2_with fail
   exact ⟨⟨j + 1, by omega, by go_num, HE.out⟩, by simp [RowKit.intOf]; omega⟩
  ·obtain rfl : j = l.length := by omega
   go_wp2_with fail
   go_ret
   exact ⟨rfl, HBR.out⟩
theorem shift_at (n i j : Nat) (c x : List Value) (hc : c.length = n) : (c ++ x)[(j + 1) * n + i]? = x[j * n + i]? := by
 have h : (j + 1) * n = j * n + n := Nat.succ_mul j n
 rw [List.getElem?_append_right (by omega), hc, h]
 congr 1
 omega
theorem ExsAt.at {W : World} {K : Nat → Prop} : ∀ {bs : List Ex} {xs : List Value}, ExsAt W K bs xs → ∀ j (hj : j < bs.length), ∃ k nm f u vp vk vb va, ExAt W K bs[j] [.int .i64 k, .string nm, .bool f, .int .u64 u, vp, vk, vb, va] ∧ xs[j * 8 + 0]? = some (.int .i64 k) ∧ xs[j * 8 + 1]? = some (.string nm) ∧ xs[j * 8 + 2]? = some (.bool f) ∧ xs[j * 8 + 3]? = some (.int .u64 u) ∧ xs[j * 8 + 4]? = some vp ∧ xs[j * 8 + 5]? = some vk ∧ xs[j * 8 + 6]? = some vb ∧ xs[j * 8 + 7]? = some va
 | _ :: _, _, .cons e es cs xs h t, 0, _ => by
  cases h with
  | mk k n f x ps ks bs al vp vk vb va xk xb xa hp hk hb ha tk tb ta => exact ⟨k, _, f, x, vp, vk, vb, va, .mk k n f x ps ks bs al vp vk vb va xk xb xa hp hk hb ha tk tb ta, rfl, rfl, rfl, rfl, rfl, rfl, rfl, rfl⟩
 | _ :: es, _, .cons e _ cs xs h t, j + 1, hj => by
  have hc : cs.length = 8 := by cases h; rfl
  obtain ⟨k, nm, f, u, vp, vk, vb, va, h1, q0, q1, q2, q3, q4, q5, q6, q7⟩ := t.at j (by simpa using hj)
  exact ⟨k, nm, f, u, vp, vk, vb, va, h1, (shift_at 8 0 j cs xs hc).trans q0, (shift_at 8 1 j cs xs hc).trans q1, (shift_at 8 2 j cs xs hc).trans q2, (shift_at 8 3 j cs xs hc).trans q3, (shift_at 8 4 j cs xs hc).trans q4, (shift_at 8 5 j cs xs hc).trans q5, (shift_at 8 6 j cs xs hc).trans q6, (shift_at 8 7 j cs xs hc).trans q7⟩
theorem BndsAt.at {W : World} {K : Nat → Prop} : ∀ {bs : List Bnd} {xs : List Value}, BndsAt W K bs xs → ∀ j (hj : j < bs.length), ∃ vq k nm f u vp vk vb va, RowAt W K 9 1 vq bs[j].2.1.length (namesV bs[j].2.1) ∧ ExAt W K bs[j].2.2 [.int .i64 k, .string nm, .bool f, .int .u64 u, vp, vk, vb, va] ∧ xs[j * 10 + 0]? = some (.string (tx bs[j].1)) ∧ xs[j * 10 + 1]? = some vq ∧ xs[j * 10 + 2]? = some (.int .i64 k) ∧ xs[j * 10 + 3]? = some (.string nm) ∧ xs[j * 10 + 4]? = some (.bool f) ∧ xs[j * 10 + 5]? = some (.int .u64 u) ∧ xs[j * 10 + 6]? = some vp ∧ xs[j * 10 + 7]? = some vk ∧ xs[j * 10 + 8]? = some vb ∧ xs[j * 10 + 9]? = some va
 | _ :: _, _, .cons n0 p0 e es vq cs xs hr h t, 0, _ => by
  cases h with
  | mk k n f x ps ks bs al vp vk vb va xk xb xa hp hk hb ha tk tb ta => exact ⟨vq, k, _, f, x, vp, vk, vb, va, hr, .mk k n f x ps ks bs al vp vk vb va xk xb xa hp hk hb ha tk tb ta, rfl, rfl, rfl, rfl, rfl, rfl, rfl, rfl, rfl, rfl⟩
 | _ :: es, _, .cons n0 p0 e _ vq cs xs hr h t, j + 1, hj => by
  have hc : (.string (tx n0) :: vq :: cs).length = 10 := by cases h; rfl
  obtain ⟨vq', k, nm, f, u, vp, vk, vb, va, h0, h1, q0, q1, q2, q3, q4, q5, q6, q7, q8, q9⟩ := t.at j (by simpa using hj)
  have s := fun i => shift_at 10 i j (.string (tx n0) :: vq :: cs) xs hc
  exact ⟨vq', k, nm, f, u, vp, vk, vb, va, h0, h1, (s 0).trans q0, (s 1).trans q1, (s 2).trans q2, (s 3).trans q3, (s 4).trans q4, (s 5).trans q5, (s 6).trans q6, (s 7).trans q7, (s 8).trans q8, (s 9).trans q9⟩
theorem AltsAt.at {W : World} {K : Nat → Prop} : ∀ {bs : List Alt} {xs : List Value}, AltsAt W K bs xs → ∀ j (hj : j < bs.length), ∃ vq k nm f u vp vk vb va, RowAt W K 9 1 vq bs[j].2.2.2.2.1.length (namesV bs[j].2.2.2.2.1) ∧ ExAt W K bs[j].2.2.2.2.2 [.int .i64 k, .string nm, .bool f, .int .u64 u, vp, vk, vb, va] ∧ xs[j * 13 + 0]? = some (.int .i64 bs[j].1) ∧ xs[j * 13 + 1]? = some (.string (tx bs[j].2.1)) ∧ xs[j * 13 + 2]? = some (.bool bs[j].2.2.1) ∧ xs[j * 13 + 3]? = some (.int .u64 bs[j].2.2.2.1) ∧ xs[j * 13 + 4]? = some vq ∧ xs[j * 13 + 5]? = some (.int .i64 k) ∧ xs[j * 13 + 6]? = some (.string nm) ∧ xs[j * 13 + 7]? = some (.bool f) ∧ xs[j * 13 + 8]? = some (.int .u64 u) ∧ xs[j * 13 + 9]? = some vp ∧ xs[j * 13 + 10]? = some vk ∧ xs[j * 13 + 11]? = some vb ∧ xs[j * 13 + 12]? = some va
 | _ :: _, _, .cons k0 n0 f0 x0 p0 e es vq cs xs hr h t, 0, _ => by
  cases h with
  | mk k n f x ps ks bs al vp vk vb va xk xb xa hp hk hb ha tk tb ta => exact ⟨vq, k, _, f, x, vp, vk, vb, va, hr, .mk k n f x ps ks bs al vp vk vb va xk xb xa hp hk hb ha tk tb ta, rfl, rfl, rfl, rfl, rfl, rfl, rfl, rfl, rfl, rfl, rfl, rfl, rfl⟩
 | _ :: es, _, .cons k0 n0 f0 x0 p0 e _ vq cs xs hr h t, j + 1, hj => by
  have hc : (.int .i64 k0 :: .string (tx n0) :: .bool f0 :: .int .u64 x0 :: vq :: cs).length = 13 := by cases h; rfl
  obtain ⟨vq', k, nm, f, u, vp, vk, vb, va, h0, h1, q0, q1, q2, q3, q4, q5, q6, q7, q8, q9, q10, q11, q12⟩ := t.at j (by simpa using hj)
  have s := fun i => shift_at 13 i j (.int .i64 k0 :: .string (tx n0) :: .bool f0 :: .int .u64 x0 :: vq :: cs) xs hc
  exact ⟨vq', k, nm, f, u, vp, vk, vb, va, h0, h1, (s 0).trans q0, (s 1).trans q1, (s 2).trans q2, (s 3).trans q3, (s 4).trans q4, (s 5).trans q5, (s 6).trans q6, (s 7).trans q7, (s 8).trans q8, (s 9).trans q9, (s 10).trans q10, (s 11).trans q11, (s 12).trans q12⟩
def SX (n : Nat) : Prop := ∀ (x : Ex) (K1 K2 : Nat → Prop) (w : World) (k1 k2 : Int) (n1 n2 : ByteArray) (f1 f2 : Bool) (u1 u2 : Int) (p1 q1 r1 s1 p2 q2 r2 s2 : Value), SizeOf.sizeOf x ≤ n →
 ExAt w K1 x [.int .i64 k1, .string n1, .bool f1, .int .u64 u1, p1, q1, r1, s1] → ExAt w K2 x [.int .i64 k2, .string n2, .bool f2, .int .u64 u2, p2, q2, r2, s2] →
 Calls Tryz.prog 66 #[.agg #[.int .i64 k1, .string n1, .bool f1, .int .u64 u1, p1, q1, r1, s1], .agg #[.int .i64 k2, .string n2, .bool f2, .int .u64 u2, p2, q2, r2, s2]] w fun e w' => e = .returned (.bool true) ∧ Below w.heap.size w w'
theorem RowAt.below {W W' : World} {K : Nat → Prop} {e : TypeId} {size : Nat} {v : Value} {n : Nat} {xs : List Value} (h : RowAt W K e size v n xs) (hb : Below W.heap.size W W') : RowAt W' K e size v n xs := h.move fun g hk lt => ⟨hk, hb.block g lt⟩
theorem ExAt.low {W W' : World} {K : Nat → Prop} {x : Ex} {cs : List Value} (h : ExAt W K x cs) (hb : Below W.heap.size W W') : ExAt W' K x cs := h.move fun g hk lt => ⟨hk, hb.block g lt⟩
theorem texts_row {l : List Nm} {a1 a2 : Option Addr} {c1 c2 : Nat} {w : World} {K1 K2 : Nat → Prop} (h1 : RowAt w K1 9 1 (.slice a1 l.length c1) l.length (namesV l)) (h2 : RowAt w K2 9 1 (.slice a2 l.length c2) l.length (namesV l)) :
  Calls Tryz.prog 65 #[.slice a1 l.length c1, .slice a2 l.length c2] w fun e w' => e = .returned (.bool true) ∧ Below w.heap.size w w' := by
 exact texts_any l a1 a2 c1 c2 K1 K2 w h1 h2
theorem samebinds_any (n : Nat) (hX : SX n) (bs : List Bnd) (hn : ∀ x, x ∈ bs → SizeOf.sizeOf x.2.2 ≤ n) (a1 a2 : Option Addr) (c1 c2 : Nat) (x1 x2 : List Value) (J1 J2 K1 K2 : Nat → Prop) (w : World) (h1 : RowAt w J1 51 10 (.slice a1 bs.length c1) bs.length x1) (h2 : RowAt w J2 51 10 (.slice a2 bs.length c2) bs.length x2) (t1 : BndsAt w K1 bs x1) (t2 : BndsAt w K2 bs x2) :
  Calls Tryz.prog 28 #[.slice a1 bs.length c1, .slice a2 bs.length c2] w fun e w' => e = .returned (.bool true) ∧ Below w.heap.size w w' := by
 have HO := Hd (Ai h1 (Ai h2 (Ai t1 t2)))
 have hmx := h1.cap
 unfold maxLen at hmx
 clear h1 h2 t1 t2
 go_enter Tryz.func28, Tryz.ntmps28
 have u1 : ((bs.length : Int) != (bs.length : Int)) = false := by simp
 go_wp2_with fail
 clear u1
 go_loopw [5] (fun s5 wr => ∃ j : Nat, j ≤ bs.length ∧ s5 = .int .i64 j ∧ Below w.heap.size w wr) (fun s5 _ => bs.length - (RowKit.intOf s5).toNat)
 case atStart => exact ⟨0, Nat.zero_le _, rfl, Below.refl _ _⟩
 case round =>
  obtain ⟨j, hj, rfl, hbr⟩ := hrel
  have HBR := Hd hbr
  clear hbr
  by_cases gj : j < bs.length
  ·have gj' : (j : Int) < (bs.length : Int) := by omega
   obtain ⟨g1, o1, ea1, k1, m1', -, ht1⟩ := HO.out.1.at (by omega)
   obtain ⟨g2, o2, ea2, k2, m2', -, ht2⟩ := HO.out.2.1.at (by omega)
   subst ea1
   subst ea2
   obtain ⟨v1, m1, s1, f1, y1, vp1, vk1, vb1, va1, r1, e1, p0, p1, p2, p3, p4, p5, p6, p7, p8, p9⟩ := HO.out.2.2.1.at j gj
   obtain ⟨v2, m2, s2, f2, y2, vp2, vk2, vb2, va2, r2, e2, q0, q1, q2, q3, q4, q5, q6, q7, q8, q9⟩ := HO.out.2.2.2.at j gj
   obtain ⟨a3, c3, rfl⟩ := r1.sl
   obtain ⟨a4, c4, rfl⟩ := r2.sl
   have hsz := hn bs[j] (List.getElem_mem gj)
   replace p0 := later' HBR.out (ht1 _ _ p0)
   rw [← Nat.add_assoc] at p0
   replace p1 := later' HBR.out (ht1 _ _ p1)
   rw [← Nat.add_assoc] at p1
   replace p2 := later' HBR.out (ht1 _ _ p2)
   rw [← Nat.add_assoc] at p2
   replace p3 := later' HBR.out (ht1 _ _ p3)
   rw [← Nat.add_assoc] at p3
   replace p4 := later' HBR.out (ht1 _ _ p4)
   rw [← Nat.add_assoc] at p4
   replace p5 := later' HBR.out (ht1 _ _ p5)
   rw [← Nat.add_assoc] at p5
   replace p6 := later' HBR.out (ht1 _ _ p6)
   rw [← Nat.add_assoc] at p6
   replace p7 := later' HBR.out (ht1 _ _ p7)
   rw [← Nat.add_assoc] at p7
   replace p8 := later' HBR.out (ht1 _ _ p8)
   rw [← Nat.add_assoc] at p8
   replace p9 := later' HBR.out (ht1 _ _ p9)
   rw [← Nat.add_assoc] at p9
   replace q0 := later' HBR.out (ht2 _ _ q0)
   rw [← Nat.add_assoc] at q0
   replace q1 := later' HBR.out (ht2 _ _ q1)
   rw [← Nat.add_assoc] at q1
   replace q2 := later' HBR.out (ht2 _ _ q2)
   rw [← Nat.add_assoc] at q2
   replace q3 := later' HBR.out (ht2 _ _ q3)
   rw [← Nat.add_assoc] at q3
   replace q4 := later' HBR.out (ht2 _ _ q4)
   rw [← Nat.add_assoc] at q4
   replace q5 := later' HBR.out (ht2 _ _ q5)
   rw [← Nat.add_assoc] at q5
   replace q6 := later' HBR.out (ht2 _ _ q6)
   rw [← Nat.add_assoc] at q6
   replace q7 := later' HBR.out (ht2 _ _ q7)
   rw [← Nat.add_assoc] at q7
   replace q8 := later' HBR.out (ht2 _ _ q8)
   rw [← Nat.add_assoc] at q8
   replace q9 := later' HBR.out (ht2 _ _ q9)
   rw [← Nat.add_assoc] at q9
   rw [Nat.add_zero] at p0 q0
   have HT := Hd (fun (W' : World) (hb : Below wr.heap.size wr W') => texts_row ((r1.below HBR.out).below hb) ((r2.below HBR.out).below hb))
   have HXx := Hd (fun (W' : World) (hb : Below wr.heap.size wr W') => hX bs[j].2.2 K1 K2 W' _ _ _ _ _ _ _ _ _ _ _ _ _ _ _ _ hsz ((e1.low HBR.out).low hb) ((e2.low HBR.out).low hb))
   clear r1 r2 e1 e2 ht1 ht2 hsz
   generalize bs[j] = tk at *
   have ej : IntKind.i64.wrap ((j : Int) + 1) = (j : Int) + 1 := by rw [IntKind.wrap_i64]; omega
   have b0 : (0 : Int) ≤ (j : Int) := by omega
   go_wp2_with fail
   have k0 := cell_regrown p0
   have k1' := cell_regrown p1
   have k2' := cell_regrown p2
   have k3 := cell_regrown p3
   have k4 := cell_regrown p4
   have k5 := cell_regrown p5
   have k6 := cell_regrown p6
   have k7 := cell_regrown p7
   have k8 := cell_regrown p8
   have k9 := cell_regrown p9
   have l0 := cell_regrown q0
   have l1 := cell_regrown q1
   have l2 := cell_regrown q2
   have l3 := cell_regrown q3
   have l4 := cell_regrown q4
   have l5 := cell_regrown q5
   have l6 := cell_regrown q6
   have l7 := cell_regrown q7
   have l8 := cell_regrown q8
   have l9 := cell_regrown q9
   clear p0 p1 p2 p3 p4 p5 p6 p7 p8 p9 q0 q1 q2 q3 q4 q5 q6 q7 q8 q9
   refine wp_region_quiet_below (by kernel_rfl) (by kernel_rfl) ?_
   repeat (first | go_big_quiet_skip | (quiet_step (first | exact Calls.regrown_of (HT.out _ (below_regrown _ _ _)) | exact Calls.regrown_of (HXx.out _ (below_regrown _ _ _)))))
   refine wpQuiet_nil ?_
   intro _ hw'
   obtain ⟨⟨dq, osq⟩, hw''⟩ := hw'
   subst hw''
   have HE := Hd (onB' HBR.out (below_regrown wr dq osq))
   clear k0 k1' k2' k3 k4 k5 k6 k7 k8 k9 l0 l1 l2 l3 l4 l5 l6 l7 l8 l9
   go_wp2_with fail
   exact ⟨⟨j + 1, by omega, by go_num, HE.out⟩, by simp [RowKit.intOf]; omega⟩
  ·obtain rfl : j = bs.length := by omega
   go_wp2_with fail
   go_ret
   exact ⟨rfl, HBR.out⟩
end Go.Proofs.YtbnmmbjajheedaaGreatDoor
