import Derived.Maps.OwnSet
import Derived.Maps.OwnOps
import Derived.Maps.Views
import Derived.Deep.QuietTactic
import Derived.Lib.QuietBelow
import Derived.BigQuiet
import Derived.Test.YthliahaopelooaaMg6
/- A heap of small objects, in numbers: what they are, their words; what each call leaves. -/
namespace Go.Proofs.Ythliahaopelooaa
open Go.RowKit
theorem HInv.samew {x : HSpot} {D D' : Nat → Int} {R : Nat → Rows} {top : Int} {L : List (Int × Int)} (h : HInv x D R top L) (hD : ∀ a, a ∈ (R x.k).all → Ce.sb (D' a.toNat) = Ce.sb (D a.toNat)) : HInv x D' R top L := by
  have hw : ∀ i, i ≤ x.k → ∀ a, a ∈ (R i).all → wid x D' i a = wid x D i a := fun i hi a ha => by
    unfold wid
    by_cases g : i < x.k
    · rw [if_pos g, if_pos g]
    · obtain rfl : i = x.k := by omega
      rw [if_neg g, if_neg g, hD a ha]
  exact ⟨h.t0, h.t1, h.ln, h.n6, h.sz, h.one, h.cell, fun a ha => by rw [hw _ (Nat.le_refl _) a ha]; exact h.big a ha, fun i hi j hj a ha b hb e => by rw [hw i hi a ha, hw j hj b hb]; exact h.apart i hi j hj a ha b hb e, h.len⟩
theorem HInv.rowsw {x : HSpot} {D : Nat → Int} {R R' : Nat → Rows} {top : Int} {L : List (Int × Int)} (h : HInv x D R top L) (hm : ∀ i, i ≤ x.k → ∀ a, a ∈ (R' i).all ↔ a ∈ (R i).all) (hl : ∀ i, i ≤ x.k → (R' i).all.length = (R i).all.length) : HInv x D R' top L :=
  ⟨h.t0, h.t1, h.ln, h.n6, h.sz, fun i hi a ha => h.one i hi a ((hm i hi a).1 ha), fun i hi a ha => h.cell i hi a ((hm i (Nat.le_of_lt hi) a).1 ha), fun a ha => h.big a ((hm _ (Nat.le_refl _) a).1 ha),
    fun i hi j hj a ha b hb => h.apart i hi j hj a ((hm i hi a).1 ha) b ((hm j hj b).1 hb), fun i hi => by rw [hl i hi]; exact h.len i hi⟩
theorem shadew_mem {R : Rows} {c b : Int} (hc : c ∈ R.frm) : b ∈ (R.shade c).all ↔ b ∈ R.all := by
  refine ⟨shade_all hc, fun h => ?_⟩
  unfold Rows.all Rows.shade at *
  simp only [List.mem_append, List.mem_singleton] at *
  rcases h with h | h | h | h
  · exact Or.inl h
  · by_cases e : b = c
    · exact Or.inr (Or.inr (Or.inl (Or.inr e)))
    · exact Or.inr (Or.inl ((List.mem_erase_of_ne e).2 h))
  · exact Or.inr (Or.inr (Or.inl (Or.inl h)))
  · exact Or.inr (Or.inr (Or.inr h))
theorem shadew_len {R : Rows} {c : Int} (hc : c ∈ R.frm) : (R.shade c).all.length = R.all.length := by
  unfold Rows.all Rows.shade
  have := List.length_erase_of_mem hc
  have h2 := List.length_pos_of_mem hc
  simp only [List.length_append, List.length_cons, List.length_nil]
  omega
/-- An object: where it is, its kind, size, number, mark. -/
structure Ob where
  p : Int
  k : Int
  s : Int
  a : Int
  m : Int
/-- Objects in cells of one and of four words; none is large; V: their words. -/
structure Hp (x : HSpot) (D : Nat → Int) (R : Nat → Rows) (top par : Int) (L : List (Int × Int)) (cy : Bool) (O : List Ob) (V : Int → Int → Int) : Prop where
  inv : HInv x D R top L
  hd : ∀ o, o ∈ O → Head D o.p o.k o.s o.a o.m
  mem : ∀ o, o ∈ O → ∃ i, i < x.k ∧ Cls x.sz x.k o.s i ∧ o.p ∈ (R i).all
  frm : ∀ o, o ∈ O → o.m ≠ par → ∃ i, Cls x.sz x.k o.s i ∧ o.p ∈ (R i).frm
  nd : (O.map Ob.p).Nodup
  white : ∀ j, j ≤ x.k → (R j).white = []
  calm : cy = false → ∀ j, j ≤ x.k → (R j).frm = [] ∧ (R j).grey = []
  big : (R x.k).all = []
  len : ∀ j, j ≤ x.k → (R j).all.length ≤ O.length
  par : par = 0 ∨ par = 1
  tp : top ≤ 1 + 7 * O.length
  k2 : x.k = 2
  z0 : x.sz 0 = 1
  z1 : x.sz 1 = 4
  lim : x.lim = 3000
  n : x.n = 3000
  wd : ∀ o, o ∈ O → ∀ j, 0 ≤ j → j < o.s → D (o.p + 3 + j).toNat = V o.p j
/-- One word is set. -/
def vset (V : Int → Int → Int) (p j v : Int) : Int → Int → Int := fun q i => if q = p ∧ i = j then v else V q i
/-- The words of a new object. -/
def vnew (V : Int → Int → Int) (p : Int) : Int → Int → Int := fun q i => if q = p then 0 else V q i
theorem vset_same (V : Int → Int → Int) (p j v : Int) : vset V p j v p j = v := if_pos ⟨rfl, rfl⟩
theorem vset_other {V : Int → Int → Int} {p j v q i : Int} (h : q ≠ p ∨ i ≠ j) : vset V p j v q i = V q i := if_neg (by omega)
theorem vnew_other {V : Int → Int → Int} {p q i : Int} (h : q ≠ p) : vnew V p q i = V q i := if_neg h
theorem vnew_same (V : Int → Int → Int) (p i : Int) : vnew V p p i = 0 := if_pos rfl
section
variable {x : HSpot} {D : Nat → Int} {R : Nat → Rows} {top par : Int} {L : List (Int × Int)} {cy : Bool} {O : List Ob} {V : Int → Int → Int}
theorem Hp.none (inv : HInv x (fun _ => 0) (fun _ => none4) 1 L) (k2 : x.k = 2) (z0 : x.sz 0 = 1) (z1 : x.sz 1 = 4) (lim : x.lim = 3000) (n : x.n = 3000) : Hp x (fun _ => 0) (fun _ => none4) 1 0 L false [] V :=
  ⟨inv, fun _ h => (by cases h), fun _ h => (by cases h), fun _ h => (by cases h), List.nodup_nil, fun _ _ => rfl, fun _ _ _ => ⟨rfl, rfl⟩, rfl, fun _ _ => Nat.le_refl _, Or.inl rfl, by simp, k2, z0, z1, lim, n, fun _ h => (by cases h)⟩
theorem Hp.obj (h : Hp x D R top par L cy O V) {o : Ob} (ho : o ∈ O) : ∃ i, i < x.k ∧ Cls x.sz x.k o.s i ∧ o.p ∈ (R i).all ∧ o.s + 3 ≤ wid x D i o.p ∧ Obj1 x R o.p o.s := by
  obtain ⟨i, hi, hC, hm⟩ := h.mem o ho
  have hw := hC.wid (c := o.p) (D := D) (fun e => by omega)
  exact ⟨i, hi, hC, hm, hw, h.inv.obj hC.le hm hw⟩
theorem Hp.obj1 (h : Hp x D R top par L cy O V) {o : Ob} (ho : o ∈ O) : Obj1 x R o.p o.s := by
  obtain ⟨i, -, -, -, -, h1⟩ := h.obj ho
  exact h1
theorem Hp.apart (h : Hp x D R top par L cy O V) {o o' : Ob} (ho : o ∈ O) (ho' : o' ∈ O) (hne : o.p ≠ o'.p) : o.p + o.s + 3 ≤ o'.p ∨ o'.p + o'.s + 3 ≤ o.p := by
  obtain ⟨i, hi, hC, hm, hw, -⟩ := h.obj ho
  obtain ⟨i', hi', hC', hm', hw', -⟩ := h.obj ho'
  have := h.inv.apart i (by omega) i' (by omega) o.p hm o'.p hm' (fun _ => hne)
  omega
theorem Hp.same (h : Hp x D R top par L cy O V) {o o' : Ob} (ho : o ∈ O) (ho' : o' ∈ O) (he : o.p = o'.p) : o = o' := by
  obtain ⟨i, hi, rfl⟩ := List.getElem_of_mem ho
  obtain ⟨j, hj, rfl⟩ := List.getElem_of_mem ho'
  have hi' : i < (O.map Ob.p).length := by simpa using hi
  have hj' : j < (O.map Ob.p).length := by simpa using hj
  have hnd := List.pairwise_iff_getElem.1 h.nd
  rcases Nat.lt_trichotomy i j with e | e | e
  · exact absurd (by simpa using he) (hnd i j hi' hj' e)
  · subst e; rfl
  · exact absurd (by simpa using he.symm) (hnd j i hj' hi' e)
/-- What turns no head, and no word of an object. -/
theorem Hp.words (h : Hp x D R top par L cy O V) {D' : Nat → Int} {V' : Int → Int → Int} (h1 : ∀ o, o ∈ O → D' o.p.toNat = D o.p.toNat) (h2 : ∀ o, o ∈ O → ∀ j, 0 ≤ j → j < o.s → D' (o.p + 3 + j).toNat = V' o.p j) : Hp x D' R top par L cy O V' :=
  ⟨h.inv.samew fun a ha => (by rw [h.big] at ha; cases ha), fun o ho => ⟨(h.hd o ho).fit, (h1 o ho).trans (h.hd o ho).word⟩, h.mem, h.frm, h.nd, h.white, h.calm, h.big, h.len, h.par, h.tp, h.k2, h.z0, h.z1, h.lim, h.n, h2⟩
theorem Hp.set (h : Hp x D R top par L cy O V) {o : Ob} (ho : o ∈ O) {j : Int} (j0 : 0 ≤ j) (j1 : j < o.s) (v : Int) : Hp x (putW D (o.p + 3 + j) v) R top par L cy O (vset V o.p j v) := by
  have o1 := (h.obj1 ho).one
  refine h.words (fun o' ho' => ?_) (fun o' ho' i i0 i1 => ?_)
  · have o2 := (h.obj1 ho').one
    refine putW_other ?_
    by_cases e : o'.p = o.p
    · omega
    · have := h.apart ho' ho e
      have := (h.hd o' ho').fit.2.1
      omega
  · have o2 := (h.obj1 ho').one
    by_cases e : o'.p = o.p ∧ i = j
    · obtain ⟨e1, e2⟩ := e
      rw [e1, e2, putW_same, vset_same]
    · rw [vset_other (by omega), ← h.wd o' ho' i i0 i1]
      refine putW_other ?_
      by_cases e1 : o'.p = o.p
      · omega
      · have := h.apart ho' ho e1
        omega
end
/-- An object turns. -/
def turnO (O : List Ob) (p : Int) (f : Ob → Ob) : List Ob := O.map fun o => if o.p = p then f o else o
theorem turnO_mem {O : List Ob} {p : Int} {f : Ob → Ob} {o : Ob} (h : o ∈ turnO O p f) : (∃ o', o' ∈ O ∧ o'.p = p ∧ o = f o') ∨ (o ∈ O ∧ o.p ≠ p) := by
  obtain ⟨o', h1, h2⟩ := List.mem_map.1 h
  by_cases e : o'.p = p
  · rw [if_pos e] at h2
    exact Or.inl ⟨o', h1, e, h2.symm⟩
  · rw [if_neg e] at h2
    subst h2
    exact Or.inr ⟨h1, e⟩
theorem turnO_in {O : List Ob} {p : Int} {f : Ob → Ob} {o : Ob} (h : o ∈ O) (hp : o.p = p) : f o ∈ turnO O p f := List.mem_map.2 ⟨o, h, if_pos hp⟩
theorem turnO_out {O : List Ob} {p : Int} {f : Ob → Ob} {o : Ob} (h : o ∈ O) (hp : o.p ≠ p) : o ∈ turnO O p f := List.mem_map.2 ⟨o, h, if_neg hp⟩
theorem turnO_places {O : List Ob} {p : Int} {f : Ob → Ob} (hf : ∀ o, (f o).p = o.p) : (turnO O p f).map Ob.p = O.map Ob.p := by
  unfold turnO
  rw [List.map_map]
  refine List.map_congr_left fun o _ => ?_
  simp only [Function.comp]
  split
  · exact hf o
  · rfl
theorem turnO_length {O : List Ob} {p : Int} {f : Ob → Ob} : (turnO O p f).length = O.length := by unfold turnO; simp
section
variable {x : HSpot} {D : Nat → Int} {R : Nat → Rows} {top par : Int} {L : List (Int × Int)} {cy : Bool} {O : List Ob} {V : Int → Int → Int}
/-- One becomes another kind. -/
theorem Hp.become (h : Hp x D R top par L cy O V) {o : Ob} (ho : o ∈ O) {k a : Int} (hf : Ce.Fit k o.s a o.m) : Hp x (putW D o.p (Ce.pw k o.s a o.m)) R top par L cy (turnO O o.p fun q => { q with k := k, a := a }) V := by
  have o1 := (h.obj1 ho).one
  refine ⟨h.inv.samew fun a ha => (by rw [h.big] at ha; cases ha), fun o' ho' => ?_, fun o' ho' => ?_, fun o' ho' hm => ?_, by rw [turnO_places (O := O) (p := o.p) (f := fun q => { q with k := k, a := a }) (fun _ => rfl)]; exact h.nd, h.white, h.calm, h.big, by rw [turnO_length]; exact h.len, h.par, by rw [turnO_length]; exact h.tp, h.k2, h.z0, h.z1, h.lim, h.n, fun o' ho' j j0 j1 => ?_⟩
  · rcases turnO_mem ho' with ⟨q, hq, e, rfl⟩ | ⟨hq, e⟩
    · obtain rfl := h.same hq ho e
      exact ⟨hf, putW_same.trans (Ce.pw_ok hf)⟩
    · have o2 := (h.obj1 hq).one
      exact (h.hd o' hq).other (by omega)
  · rcases turnO_mem ho' with ⟨q, hq, e, rfl⟩ | ⟨hq, e⟩
    · exact h.mem q hq
    · exact h.mem o' hq
  · rcases turnO_mem ho' with ⟨q, hq, e, rfl⟩ | ⟨hq, e⟩
    · exact h.frm q hq hm
    · exact h.frm o' hq hm
  · have key : ∀ q, q ∈ O → 0 ≤ j → j < q.s → putW D o.p (Ce.pw k o.s a o.m) (q.p + 3 + j).toNat = V q.p j := fun q hq j0 j1 => by
      have o2 := (h.obj1 hq).one
      rw [← h.wd q hq j j0 j1]
      refine putW_other ?_
      by_cases e1 : q.p = o.p
      · omega
      · have := h.apart hq ho e1
        have := (h.hd o ho).fit.2.1
        omega
    rcases turnO_mem ho' with ⟨q, hq, e, rfl⟩ | ⟨hq, e⟩
    · exact key q hq j0 j1
    · exact key o' hq j0 j1
/-- One is shaded. -/
theorem Hp.shade (h : Hp x D R top par L cy O V) {o : Ob} (ho : o ∈ O) {i : Nat} (hC : Cls x.sz x.k o.s i) (hf : o.p ∈ (R i).frm) {D' : Nat → Int} (hS : SameBut (R i) D D') :
    Hp x (putW D' o.p (Ce.pw o.k o.s o.a par)) (fun j => if j = i then (R i).shade o.p else R j) top par L true (turnO O o.p fun q => { q with m := par }) V := by
  have o1 := (h.obj1 ho).one
  have hi : i < x.k := by
    obtain ⟨j, hj, hC2, -⟩ := h.mem o ho
    rw [hC.unique hC2]
    exact hj
  have fit : Ce.Fit o.k o.s o.a par := ⟨(h.hd o ho).fit.1, (h.hd o ho).fit.2.1, (h.hd o ho).fit.2.2.1, by have := h.par; omega⟩
  have hk : ∀ m : Nat, ((m : Int) ≠ o.p) → ¬ Links (R i) m → putW D' o.p (Ce.pw o.k o.s o.a par) m = D m := fun m h1 h2 => by
    rw [putW_other (by omega)]
    exact hS m h2
  have hdr : ∀ q, q ∈ O → q.p ≠ o.p → putW D' o.p (Ce.pw o.k o.s o.a par) q.p.toNat = D q.p.toNat := fun q hq hne => by
    have o2 := (h.obj1 hq).one
    refine hk _ (by omega) fun hl => ?_
    have := (h.obj1 hq).word (h.hd q hq).fit.2.1.1 i (by omega) _ hl
    omega
  have hm : ∀ j, j ≤ x.k → ∀ a, a ∈ (if j = i then (R i).shade o.p else R j).all ↔ a ∈ (R j).all := fun j _ a => by
    by_cases e : j = i
    · subst e
      rw [if_pos rfl]
      exact shadew_mem hf
    · rw [if_neg e]
  have hl : ∀ j, j ≤ x.k → (if j = i then (R i).shade o.p else R j).all.length = (R j).all.length := fun j _ => by
    by_cases e : j = i
    · subst e
      rw [if_pos rfl]
      exact shadew_len hf
    · rw [if_neg e]
  have eb : (if x.k = i then (R i).shade o.p else R x.k) = R x.k := if_neg (by omega)
  refine ⟨(h.inv.rowsw hm hl).samew fun a ha => absurd ((hm x.k (Nat.le_refl _) a).1 ha) (by rw [h.big]; simp), fun o' ho' => ?_, fun o' ho' => ?_, fun o' ho' hmk => ?_, by rw [turnO_places (O := O) (p := o.p) (f := fun q => { q with m := par }) (fun _ => rfl)]; exact h.nd, fun j hj => ?_, fun e => (by cases e), by rw [eb]; exact h.big, fun j hj => by rw [turnO_length, hl j hj]; exact h.len j hj, h.par, by rw [turnO_length]; exact h.tp, h.k2, h.z0, h.z1, h.lim, h.n, fun o' ho' j j0 j1 => ?_⟩
  · rcases turnO_mem ho' with ⟨q, hq, e, rfl⟩ | ⟨hq, e⟩
    · obtain rfl := h.same hq ho e
      exact ⟨fit, putW_same.trans (Ce.pw_ok fit)⟩
    · exact ⟨(h.hd o' hq).fit, (hdr o' hq e).trans (h.hd o' hq).word⟩
  · have key : ∀ q, q ∈ O → ∃ j, j < x.k ∧ Cls x.sz x.k q.s j ∧ q.p ∈ (if j = i then (R i).shade o.p else R j).all := fun q hq => by
      obtain ⟨j, hj, hCj, hmj⟩ := h.mem q hq
      exact ⟨j, hj, hCj, (hm j (by omega) _).2 hmj⟩
    rcases turnO_mem ho' with ⟨q, hq, e, rfl⟩ | ⟨hq, e⟩
    · exact key q hq
    · exact key o' hq
  · rcases turnO_mem ho' with ⟨q, hq, e, rfl⟩ | ⟨hq, e⟩
    · exact absurd rfl hmk
    · obtain ⟨j, hCj, hfj⟩ := h.frm o' hq hmk
      refine ⟨j, hCj, ?_⟩
      by_cases e2 : j = i
      · subst e2
        simp only [if_pos]
        exact (List.mem_erase_of_ne e).2 hfj
      · simp only [if_neg e2]
        exact hfj
  · by_cases e2 : j = i
    · subst e2
      simp only [if_pos]
      exact h.white j hj
    · simp only [if_neg e2]
      exact h.white j hj
  · have key : ∀ q, q ∈ O → 0 ≤ j → j < q.s → putW D' o.p (Ce.pw o.k o.s o.a par) (q.p + 3 + j).toNat = V q.p j := fun q hq j0 j1 => by
      have o2 := (h.obj1 hq).one
      rw [← h.wd q hq j j0 j1]
      refine hk _ ?_ fun hl => ?_
      · by_cases e1 : q.p = o.p
        · omega
        · have := h.apart hq ho e1
          have := (h.hd o ho).fit.2.1
          omega
      · have := (h.obj1 hq).words ⟨j0, j1⟩ i (by omega) _ hl
        omega
    rcases turnO_mem ho' with ⟨q, hq, e, rfl⟩ | ⟨hq, e⟩
    · exact key q hq j0 j1
    · exact key o' hq j0 j1
/-- A cycle begins. -/
theorem Hp.begun (h : Hp x D R top par L false O V) : (∀ o, o ∈ O → o.m = par) ∧ Hp x D (mix Rows.begin R (x.k + 1)) top (1 - par) L true O V := by
  have hm : ∀ o, o ∈ O → o.m = par := fun o ho => by
    by_cases e : o.m = par
    · exact e
    · obtain ⟨i, hC, hf⟩ := h.frm o ho e
      rw [(h.calm rfl i hC.le).1] at hf
      cases hf
  have hall : ∀ j, j ≤ x.k → (mix Rows.begin R (x.k + 1) j).all = (R j).all := fun j hj => by
    obtain ⟨h2, h3⟩ := h.calm rfl j hj
    unfold mix
    rw [if_pos (by omega)]
    simp [Rows.all, Rows.begin, h2, h3]
  refine ⟨hm, h.inv.rowsw (fun j hj a => by rw [hall j hj]) (fun j hj => by rw [hall j hj]), h.hd, fun o ho => ?_, fun o ho _ => ?_, h.nd, fun j hj => ?_, fun e => (by cases e), by rw [hall _ (Nat.le_refl _)]; exact h.big, fun j hj => by rw [hall j hj]; exact h.len j hj, by have := h.par; omega, h.tp, h.k2, h.z0, h.z1, h.lim, h.n, h.wd⟩
  · obtain ⟨i, hi, hC, hmm⟩ := h.mem o ho
    exact ⟨i, hi, hC, by rw [hall i (by omega)]; exact hmm⟩
  · obtain ⟨i, hi, hC, hmm⟩ := h.mem o ho
    obtain ⟨h2, h3⟩ := h.calm rfl i (by omega)
    refine ⟨i, hC, ?_⟩
    unfold mix
    rw [if_pos (by omega)]
    simpa [Rows.all, Rows.begin, h.white i (by omega), h2, h3] using hmm
  · unfold mix
    rw [if_pos (by omega)]
    exact h.white j hj
set_option maxHeartbeats 2000000 in
/-- One more object. -/
theorem Hp.more (h : Hp x D R top par L cy O V) {size at' kd aux top' : Int} {M : List (Int × Int)} {R' : Nat → Rows} {D' : Nat → Int} (hG : Ex.Good x.lim (x.lim + (x.n - x.lim : Int)) L) (hA : AllocP x R top L size at' R' top' M) (hp : Ce.pe kd size aux par = 0) (hW : Wrote x R' D D' at' size (Ce.pw kd size aux par))
    (hnd : ∀ j, j ≤ x.k → (R j).all.Nodup) (hq : O.length < 900) : Hp x D' R' top' par M cy (O ++ [⟨at', kd, size, aux, par⟩]) (vnew V at') ∧ (∀ o, o ∈ O → o.p ≠ at') ∧ 1 ≤ at' ∧ at' ≤ 3000 ∧ size ≤ 4 := by
  have fit := (Ce.pe_fit _ _ _ _).1 hp
  have s0 := fit.2.1.1
  have k2 := h.k2
  have inv' := alloc_inv h.inv hG hA hW s0 (sb_pw hp) (fun j hj => by have := h.len j hj; omega)
  obtain ⟨r1, r2, hcl⟩ := hA.room h.inv hG s0
  have hlim := h.lim
  have hn := h.n
  have head : Head D' at' kd size aux par := ⟨fit, hW.hd.trans (Ce.pw_ok fit)⟩
  have new : ∀ o, o ∈ O → o.p ≠ at' := fun o ho => by
    obtain ⟨j, hj, hC, hm⟩ := h.mem o ho
    exact hA.ne h.inv hG s0 hC.le (hnd j hC.le) hm (by rw [h.white j hC.le]; simp)
  cases hA with
  | white i hC hi l hw hR ht hM =>
    rw [h.white i (by omega)] at hw
    cases hw
  | big hC he ha hR ht hM =>
    obtain ⟨s1, s2, s3⟩ := spot_cov hG (by omega) he
    omega
  | fresh i hC hi hw hr ha hR ht hM =>
    have eR : R' i = ((R i).grow at').alloc := by rw [hR]; exact if_pos rfl
    have eO : ∀ j, j ≠ i → R' j = R j := fun j hj => by rw [hR]; exact if_neg hj
    have hmem : ∀ a, a ∈ (R' i).all ↔ a = at' ∨ a ∈ (R i).all := fun a => by rw [eR, grown_mem]
    have up : ∀ j, ∀ a, a ∈ (R j).all → a ∈ (R' j).all := fun j a ha => by
      by_cases e : j = i
      · subst e
        exact (hmem a).2 (Or.inr ha)
      · rw [eO j e]
        exact ha
    have old : ∀ j, ∀ a, a ∈ (R' j).all → (j = i ∧ a = at') ∨ a ∈ (R j).all := fun j a ha => by
      by_cases e : j = i
      · subst e
        rcases (hmem a).1 ha with h | h
        · exact Or.inl ⟨rfl, h⟩
        · exact Or.inr h
      · rw [eO j e] at ha
        exact Or.inr ha
    have hz : x.sz i ≤ 4 := by
      obtain rfl | rfl : i = 0 ∨ i = 1 := by omega
      · rw [h.z0]; omega
      · rw [h.z1]; omega
    have keep : ∀ o, o ∈ O → ∀ q : Int, o.p ≤ q → q < o.p + o.s + 3 → q ≠ o.p + 1 → q ≠ o.p + 2 → D' q.toNat = D q.toNat := fun o ho q q1 q2 q3 q4 => by
      obtain ⟨j, hj, hCj, hm, hwt, ho1⟩ := h.obj ho
      have h1 := ho1.one
      have h5 : wid x D j o.p = x.sz j + 3 := by unfold wid; rw [if_pos hj]
      have h6 := h.inv.cell j hj o.p hm
      refine hW.keep q.toNat (by omega) fun m hm' => ?_
      rintro ⟨c, hc, hl⟩
      rcases old m c hc with ⟨_, e⟩ | hc'
      · omega
      · have := ho1.links m hm' q.toNat ⟨c, hc', hl⟩
        omega
    have hle := hC.fits hi
    refine ⟨⟨inv', fun o ho => ?_, fun o ho => ?_, fun o ho hm => ?_, ?_, fun j hj => ?_, fun e j hj => ?_, ?_, fun j hj => ?_, h.par, ?_, h.k2, h.z0, h.z1, h.lim, h.n, fun o ho j j0 j1 => ?_⟩, new, r1, by omega, by omega⟩
    · rcases List.mem_append.1 ho with ho | ho
      · have h1 := h.hd o ho
        have h4 := h1.fit.2.1
        exact ⟨h1.fit, (keep o ho o.p (by omega) (by omega) (by omega) (by omega)).trans h1.word⟩
      · rw [List.mem_singleton] at ho
        subst ho
        exact head
    · rcases List.mem_append.1 ho with ho | ho
      · obtain ⟨j, hj, hCj, hm⟩ := h.mem o ho
        exact ⟨j, hj, hCj, up j _ hm⟩
      · rw [List.mem_singleton] at ho
        subst ho
        exact ⟨i, hi, hC, (hmem at').2 (Or.inl rfl)⟩
    · rcases List.mem_append.1 ho with ho | ho
      · obtain ⟨j, hCj, hf⟩ := h.frm o ho hm
        refine ⟨j, hCj, ?_⟩
        by_cases e : j = i
        · subst e
          rw [eR]
          exact hf
        · rw [eO j e]
          exact hf
      · rw [List.mem_singleton] at ho
        subst ho
        exact absurd rfl hm
    · rw [List.map_append, List.nodup_append]
      refine ⟨h.nd, by simp, fun a ha b hb => ?_⟩
      obtain ⟨t, ht, rfl⟩ := List.mem_map.1 ha
      simp only [List.map_cons, List.map_nil, List.mem_singleton] at hb
      subst hb
      exact new t ht
    · by_cases e : j = i
      · subst e
        rw [eR]
        simp [Rows.grow, Rows.alloc, h.white j hj]
      · rw [eO j e]
        exact h.white j hj
    · by_cases e2 : j = i
      · subst e2
        rw [eR]
        exact h.calm e j hj
      · rw [eO j e2]
        exact h.calm e j hj
    · rw [eO x.k (by omega)]
      exact h.big
    · rw [List.length_append]
      by_cases e : j = i
      · subst e
        rw [eR, grown_len]
        have := h.len j hj
        simp
        omega
      · rw [eO j e]
        exact Nat.le_add_right_of_le (h.len j hj)
    · have := h.tp
      rw [List.length_append]
      simp
      omega
    · rcases List.mem_append.1 ho with ho | ho
      · rw [vnew_other (new o ho), ← h.wd o ho j j0 j1]
        exact keep o ho _ (by omega) (by omega) (by omega) (by omega)
      · rw [List.mem_singleton] at ho
        subst ho
        rw [vnew_same]
        exact hW.zero j j0 j1
end
end Go.Proofs.Ythliahaopelooaa
/- A map from numbers to numbers that the call itself has made. -/
namespace Go.Proofs.Ythliahaopelooaa
open Go.RowKit
/-- A MAP OF ints: what stands at each key, which keys are there. -/
def CMap (w : World) (b n : Nat) (f : Int → Int) (dom : List Int) : Prop :=
  ∃ D : DataW Unit, w.ownsMap Try.prog 3 (plainElem Try.prog 3) b n D ∧ (∀ x, D.atKey (.int .i64 x) (.lit (.int .i64 0)) = .lit (.int .i64 (f x))) ∧ (∀ x, Maps.has D (.int .i64 x) = decide (x ∈ dom)) ∧ Maps.size D = dom.length
theorem cmap_made (w : World) : CMap (w.alloc (.map #[] 0)) w.heap.size 0 (fun _ => 0) [] := by
  refine ⟨_, World.ownsMap_made w _ _ _, fun x => ?_, fun x => ?_, rfl⟩
  · rfl
  · simp [Maps.has]
theorem CMap.kept {w w' : World} {b n : Nat} {f : Int → Int} {dom : List Int} {row : Option Nat} (h : CMap w b n f dom) (hg : w.grownBy w' row) (hne : some b ≠ row) : CMap w' b n f dom := by
  obtain ⟨D, h1, h2⟩ := h
  exact ⟨D, h1.kept hg hne, h2⟩
theorem CMap.same {w w' : World} {b n : Nat} {f : Int → Int} {dom : List Int} (h : CMap w b n f dom) (hk : w'.heap[b]? = w.heap[b]?) : CMap w' b n f dom := by
  obtain ⟨D, ⟨es, c, hb, r⟩, h2⟩ := h
  exact ⟨D, ⟨es, c, hk.trans hb, r⟩, h2⟩
theorem CMap.mono {w : World} {b n : Nat} {f : Int → Int} {dom : List Int} (h : CMap w b n f dom) : CMap w b (n + 1) f dom := by
  obtain ⟨D, h1, h2⟩ := h
  exact ⟨D, h1.mono (Nat.le_succ _), h2⟩
theorem CMap.lt {w : World} {b n : Nat} {f : Int → Int} {dom : List Int} (h : CMap w b n f dom) : b < w.heap.size := by
  obtain ⟨D, h1, h2⟩ := h
  exact h1.lt
theorem CMap.later {w w' : World} {b n : Nat} {f : Int → Int} {dom : List Int} (h : CMap w b n f dom) (hb : Below w.heap.size w w') : CMap w' b n f dom := h.same (hb.block b h.lt)
set_option maxRecDepth 100000 in
theorem zero_int (w : World) : (zeroValue 3).run Try.prog w = .ok (.int .i64 0) w := rfl
set_option maxRecDepth 100000 in
theorem CMap.look {w : World} {b n : Nat} {f : Int → Int} {dom : List Int} (h : CMap w b n f dom) (x : Int) (hx : (Lit.int .i64 x).wf = true) :
    (Instr.lookup 85 (.map (some b)) (.int .i64 x) false).run Try.prog w = .ok (.int .i64 (f x)) w := by
  obtain ⟨D, h1, h2, -, -⟩ := h
  obtain ⟨c, hr, hat, _⟩ := h1.lookup_int (Maps.int_keyed Try.underlying3) Try.underlying85 Try.underlying3 (zero_int _) (Maps.keyOf_int_mk Try.underlying3 hx)
  rw [h2] at hat
  injection hat with hat
  injection hat with _ hat
  rw [hat]
  exact hr
theorem CMap.len {w : World} {b n : Nat} {f : Int → Int} {dom : List Int} (h : CMap w b n f dom) (ty : TypeId) : (Builtin.len_ #[85] ty #[.map (some b)]).run Try.prog w = .ok (.int .i64 dom.length) w := by
  obtain ⟨D, h1, -, -, h4⟩ := h
  rw [← h4]
  exact h1.len Try.underlying85 ty
def fput (f : Int → Int) (k u : Int) : Int → Int := fun x => if x = k then u else f x
def dput (dom : List Int) (k : Int) : List Int := if k ∈ dom then dom else k :: dom
theorem CMap.of_put {w : World} {b n : Nat} {f : Int → Int} {dom : List Int} {D : DataW Unit} {k u : Int} (hk : WideAt.IsKeyLit (.int .i64 k)) (hT : Maps.Tidy D)
    (h1 : w.ownsMap Try.prog 3 (plainElem Try.prog 3) b n (D.put (.int .i64 k) (.lit (.int .i64 u)))) (h2 : ∀ x, D.atKey (.int .i64 x) (.lit (.int .i64 0)) = .lit (.int .i64 (f x))) (h3 : ∀ x, Maps.has D (.int .i64 x) = decide (x ∈ dom)) (h4 : Maps.size D = dom.length) : CMap w b n (fput f k u) (dput dom k) := by
  refine ⟨_, h1, fun x => ?_, fun x => ?_, ?_⟩
  · unfold fput
    by_cases e : x = k
    · subst e
      rw [if_pos rfl, Maps.atKey_put_same hT.isMap hk]
    · rw [if_neg e, Maps.atKey_put_other (by simpa using e)]
      exact h2 x
  · unfold dput
    by_cases e : x = k
    · subst e
      rw [Maps.has_put_same hT.isMap hk]
      by_cases m : x ∈ dom <;> simp [m]
    · rw [Maps.has_put_other (by simpa using e), h3]
      by_cases m : k ∈ dom <;> simp [m, e]
  · rw [Maps.size_put hT, h4]
    unfold dput
    rw [h3]
    by_cases m : k ∈ dom <;> simp [m]
theorem wp_cput {ops : Array Oper} {rest : List Oper} {o : Oper} {a : Act} {Q : Exit → Act → World → Prop} (w : World) (hg : o.guard = none) (m x v : Operand) (hop : o.op = Op.mapUpdate 85 m x v)
    (b n : Nat) (f : Int → Int) (dom : List Int) (hm : a.eval m = .map (some b)) (h : CMap w b n f dom) (hn : n < 100000) (k u : Int) (hx : a.eval x = .int .i64 k) (hv : a.eval v = .int .i64 u) (hk : (Lit.int .i64 k).wf = true) (hu : (Lit.int .i64 u).wf = true)
    (hK : ∀ w', CMap w' b (n + 1) (fput f k u) (dput dom k) → w.grownBy w' (some b) → wpList Try.prog ops Q rest (a.put o.dst undef) w') : wpList Try.prog ops Q (o :: rest) a w := by
  obtain ⟨D, h1, h2, h3, h4⟩ := h
  refine wpList_mapUpdate_own w hg m x v _ hop 3 3 (Maps.int_keyed Try.underlying3) Try.underlying85 _ b n D hm h1 (by unfold maxLen; omega) _ _ (.int .i64 k) hx hv (Maps.keyOf_int_mk Try.underlying3 hk) (.lit (.int .i64 u)) [] (plainElem_int Try.underlying3 hu) ?_
  intro w' h1' hg'
  exact hK w' (CMap.of_put (by trivial) (h1.tidy (Maps.int_keyed Try.underlying3)) h1' h2 h3 h4) hg'
set_option maxRecDepth 100000 in
theorem CMap.look_ok {w : World} {b n : Nat} {f : Int → Int} {dom : List Int} (h : CMap w b n f dom) (x : Int) (hx : (Lit.int .i64 x).wf = true) :
    (Instr.lookup 85 (.map (some b)) (.int .i64 x) true).run Try.prog w = .ok (.tuple #[.int .i64 (f x), .bool (decide (x ∈ dom))]) w := by
  obtain ⟨D, h1, h2, h3, -⟩ := h
  obtain ⟨v, ps, hr, hv⟩ := h1.look_ok (Maps.int_keyed Try.underlying3) Try.underlying85 (zero_int _) (plainElem_int Try.underlying3 (by decide)) (Maps.keyOf_int_mk Try.underlying3 hx)
  rw [h2] at hv
  obtain ⟨c, rfl, hc, hwc⟩ := plainElem_int_inv Try.underlying3 hv
  simp only [Prod.mk.injEq, DataW.lit.injEq, Lit.int.injEq, true_and] at hc
  rw [h3] at hr
  rw [hc.1]
  exact hr
/-- The bound is what it holds. -/
theorem CMap.norm {w : World} {b n : Nat} {f : Int → Int} {dom : List Int} (h : CMap w b n f dom) : CMap w b dom.length f dom := by
  obtain ⟨D, ⟨es, clock, hb, F, hs, hD⟩, h2, h3, h4⟩ := h
  refine ⟨D, ⟨es, clock, hb, F, ?_, hD⟩, h2, h3, h4⟩
  rw [← h4]
  subst hD
  rw [Maps.size_eq, length_sorted]
  simp
theorem wp_cdel {ops : Array Oper} {rest : List Oper} {o : Oper} {a : Act} {Q : Exit → Act → World → Prop} (w : World) (hg : o.guard = none) (m x : Operand) (hop : o.op = Op.call { callee := Callee.builtin Builtin.delete, args := #[m, x], argTypes := #[85, 3] })
    (b n : Nat) (f : Int → Int) (dom : List Int) (hm : a.eval m = .map (some b)) (h : CMap w b n f dom) (hnd : dom.Nodup) (k : Int) (hx : a.eval x = .int .i64 k) (hk : (Lit.int .i64 k).wf = true)
    (hK : ∀ w', CMap w' b n (fput f k 0) (dom.erase k) → w.grownBy w' (some b) → wpList Try.prog ops Q rest (a.put o.dst (.tuple #[])) w') : wpList Try.prog ops Q (o :: rest) a w := by
  obtain ⟨D, h1, h2, h3, h4⟩ := h
  refine wpList_delete_own w hg m x _ _ hop 3 (Maps.int_keyed Try.underlying3) Try.underlying85 _ b n D hm h1 _ _ hx (Maps.keyOf_int_mk Try.underlying3 hk) ?_
  intro w' h1' hg'
  refine hK w' ⟨_, h1', fun y => ?_, fun y => ?_, ?_⟩ hg'.grown
  · unfold fput
    by_cases e : y = k
    · subst e
      rw [if_pos rfl, Maps.atKey_del_same]
    · rw [if_neg e, Maps.atKey_del_other (by simpa using e)]
      exact h2 y
  · by_cases e : y = k
    · subst e
      rw [Maps.has_del_same]
      simp [hnd.not_mem_erase]
    · rw [Maps.has_del_other (by simpa using e), h3]
      simp only [List.mem_erase_of_ne e]
  · have := Maps.size_del (k := .int .i64 k) (h1.tidy (Maps.int_keyed Try.underlying3))
    rw [h3, h4] at this
    rw [List.length_erase]
    by_cases m : k ∈ dom
    · simp only [m, decide_true, if_true] at this ⊢
      omega
    · simp only [m, decide_false] at this ⊢
      simpa using this
end Go.Proofs.Ythliahaopelooaa
/- The world of the laws of layer 17, as it lies: a heap, a table, lists that grow, the document's table. -/
namespace Go.Proofs.Ythliahaopelooaa
open Go.RowKit
/-- What is kept: all blocks of a kind. -/
structure Kp (Kx : Nat → Prop) (w w' : World) : Prop where
  os : w'.os = w.os
  tape : w'.tape = w.tape
  output : w'.output = w.output
  size : w.heap.size ≤ w'.heap.size
  block : ∀ b, Kx b → w'.heap[b]? = w.heap[b]?
theorem Kp.refl (Kx : Nat → Prop) (w : World) : Kp Kx w w := ⟨rfl, rfl, rfl, Nat.le_refl _, fun _ _ => rfl⟩
theorem Kp.trans {Kx : Nat → Prop} {a b c : World} (h : Kp Kx a b) (k : Kp Kx b c) : Kp Kx a c := ⟨k.os.trans h.os, k.tape.trans h.tape, k.output.trans h.output, Nat.le_trans h.size k.size, fun i hi => (k.block i hi).trans (h.block i hi)⟩
theorem Kp.of_below {Kx : Nat → Prop} {B : Nat} {a b : World} (h : Below B a b) (k : ∀ i, Kx i → i < B) : Kp Kx a b := ⟨h.os, h.tape, h.output, h.size, fun i hi => h.block i (k i hi)⟩
theorem Kp.below {B : Nat} {a b : World} (h : Kp (fun i => i < B) a b) : Below B a b := ⟨h.os, h.tape, h.output, h.size, fun i hi => h.block i hi⟩
theorem Kp.mono {K1 K2 : Nat → Prop} {a b : World} (h : Kp K1 a b) (k : ∀ i, K2 i → K1 i) : Kp K2 a b := ⟨h.os, h.tape, h.output, h.size, fun i hi => h.block i (k i hi)⟩
theorem Kp.cell {Kx : Nat → Prop} {a b : World} (h : Kp Kx a b) {q j : Nat} {v : Value} (hq : Kx q) (hc : a.cell? ⟨q, j, none⟩ = some v) : b.cell? ⟨q, j, none⟩ = some v := (World.cell?_of_block (w := a) (h.block q hq)).trans hc
theorem Kp.frozen {Kx : Nat → Prop} {a b : World} (h : Kp Kx a b) {q j : Nat} {v : Bool} (hq : Kx q) (hc : a.frozen? ⟨q, j, none⟩ = v) : b.frozen? ⟨q, j, none⟩ = v := (World.frozen?_of_block (w := a) (h.block q hq)).trans hc
/-- Where it lies: the heap; the law's struct; what its closure has captured; the table; its map; the document's table. -/
structure LSp where
  hb : Nat
  wb : Nat
  cb : Nat
  tb : Nat
  ab : Nat
  mb : Nat
/-- What it holds. -/
structure LM where
  par : Int
  cy : Bool
  O : List Ob
  V : Int → Int → Int
  first : Int
  nx : Int
  qu : Int
  la : Int
  cn : Int
  f : Int → Int
  dom : List Int
  keys : List Int
  weaks : List Int
  marked : List Int
  shaded : List Int
  dr : List (Int × Int)
  dq : List (Int × Int)
  dw : List (Int × Int)
def flat3 : List (Int × Int) → List Value
  | [] => []
  | y :: l => [.int .i64 y.1, .int .i64 y.2, .bool false] ++ flat3 l
theorem flat3_append (a b : List (Int × Int)) : flat3 (a ++ b) = flat3 a ++ flat3 b := by
  induction a with
  | nil => rfl
  | cons y a ih => simp only [List.cons_append, flat3, ih, List.append_assoc]
theorem flat3_len (l : List (Int × Int)) : (flat3 l).length = l.length * 3 := by
  induction l with
  | nil => rfl
  | cons y l ih => simp only [flat3, List.length_append, ih, List.length_cons, List.length_nil]; omega
theorem flat3_get {l : List (Int × Int)} : ∀ {i : Nat} {y : Int × Int}, l[i]? = some y → (flat3 l)[i * 3]? = some (.int .i64 y.1) ∧ (flat3 l)[i * 3 + 1]? = some (.int .i64 y.2) ∧ (flat3 l)[i * 3 + 2]? = some (.bool false) := by
  induction l with
  | nil => intro i y h; cases h
  | cons z l ih =>
    intro i y h
    cases i with
    | zero => cases h; exact ⟨rfl, rfl, rfl⟩
    | succ i =>
      obtain ⟨h1, h2, h3⟩ := ih (i := i) (by simpa using h)
      refine ⟨?_, ?_, ?_⟩
      · rw [show (i + 1) * 3 = i * 3 + 1 + 1 + 1 by omega]; simpa [flat3] using h1
      · rw [show (i + 1) * 3 + 1 = i * 3 + 1 + 1 + 1 + 1 by omega]; simpa [flat3] using h2
      · rw [show (i + 1) * 3 + 2 = i * 3 + 2 + 1 + 1 + 1 by omega]; simpa [flat3] using h3
theorem flat3_one {l : List (Int × Int)} : ∀ u, u ∈ flat3 l → u.oneCell' = true := by
  induction l with
  | nil => intro u h; cases h
  | cons y l ih =>
    intro u h
    simp only [flat3, List.cons_append, List.nil_append, List.mem_cons] at h
    rcases h with rfl | rfl | rfl | h
    · rfl
    · rfl
    · rfl
    · exact ih u h
/-- A list of the document's weak pointers, as it lies; its block is tagged. -/
def DR (G : Nat → Nat) (W : World) (v : Value) (l : List (Int × Int)) : Prop :=
  ∃ ao cap, v = .slice ao l.length cap ∧ l.length ≤ cap ∧ (0 < l.length → ∃ g off, ao = some ⟨g, off, none⟩ ∧ G g = 10 ∧ ∀ j u, (flat3 l)[j]? = some u → W.cell? ⟨g, off + j, none⟩ = some u)
structure A1 (S : LSp) (vk vw vm vs : Value) (W : World) : Prop where
  h : W.cell? ⟨S.wb, 0, none⟩ = some (.pointer (some ⟨S.hb, 0, none⟩))
  t : W.cell? ⟨S.wb, 1, none⟩ = some (.pointer (some ⟨S.tb, 0, none⟩))
  m : W.cell? ⟨S.wb, 2, none⟩ = some (.pointer (some ⟨S.mb, 0, none⟩))
  k : W.cell? ⟨S.wb, 3, none⟩ = some vk
  w : W.cell? ⟨S.wb, 4, none⟩ = some vw
  d : W.cell? ⟨S.wb, 5, none⟩ = some vm
  s : W.cell? ⟨S.wb, 6, none⟩ = some vs
  fz : ∀ j, W.frozen? ⟨S.wb, j, none⟩ = false
structure A3 (S : LSp) (m : LM) (W : World) : Prop where
  h : W.cell? ⟨S.tb, 0, none⟩ = some (.pointer (some ⟨S.hb, 0, none⟩))
  s : W.cell? ⟨S.tb, 1, none⟩ = some (.func (.func 31) #[] #[.pointer (some ⟨S.cb, 0, none⟩)])
  fi : W.cell? ⟨S.tb, 2, none⟩ = some (.int .i64 m.first)
  a : W.cell? ⟨S.tb, 3, none⟩ = some (.map (some S.ab))
  nx : W.cell? ⟨S.tb, 4, none⟩ = some (.int .i64 m.nx)
  qu : W.cell? ⟨S.tb, 5, none⟩ = some (.int .i64 m.qu)
  la : W.cell? ⟨S.tb, 6, none⟩ = some (.int .i64 m.la)
  cn : W.cell? ⟨S.tb, 7, none⟩ = some (.int .i64 m.cn)
  fz : ∀ j, W.frozen? ⟨S.tb, j, none⟩ = false
structure A5 (S : LSp) (G : Nat → Nat) (dr dq dw : List (Int × Int)) (W : World) : Prop where
  r : ∃ v, W.cell? ⟨S.mb, 0, none⟩ = some v ∧ DR G W v dr
  q : ∃ v, W.cell? ⟨S.mb, 1, none⟩ = some v ∧ DR G W v dq
  w : ∃ v, W.cell? ⟨S.mb, 2, none⟩ = some v ∧ DR G W v dw
  fz : ∀ j, W.frozen? ⟨S.mb, j, none⟩ = false
def Rw (base : Nat) (W : World) (v : Value) (l : List Int) : Prop := W.ownsRow base 3 1 v l.length (l.map (.int .i64))
def Rw8 (base : Nat) (W : World) (v : Value) (l : List Int) : Prop := W.ownsRow base 2 1 v l.length (l.map (.int .i64))
/-- The law's blocks, each with its tag. -/
structure LL (S : LSp) (m : LM) (G : Nat → Nat) (vk vw vm vs : Value) (W : World) : Prop where
  g1 : G S.wb = 1
  g2 : G S.cb = 2
  g3 : G S.tb = 3
  g4 : G S.ab = 4
  g5 : G S.mb = 5
  a1 : A1 S vk vw vm vs W
  a2 : W.cell? ⟨S.cb, 0, none⟩ = some (.pointer (some ⟨S.wb, 0, none⟩))
  a3 : A3 S m W
  a4 : CMap W S.ab m.dom.length m.f m.dom
  a5 : A5 S G m.dr m.dq m.dw W
  k : Rw 0 W vk m.keys
  w : Rw 0 W vw m.weaks
  d : Rw 0 W vm m.marked
  s : Rw8 0 W vs m.shaded
  gk : ∀ g, vk.ownBlock = some g → G g = 6
  gw : ∀ g, vw.ownBlock = some g → G g = 7
  gd : ∀ g, vm.ownBlock = some g → G g = 8
  gs : ∀ g, vs.ownBlock = some g → G g = 9
structure Lx (Kx : Nat → Prop) (S : LSp) (m : LM) (u : Int) (x : HSpot) (T : Nat → Nat) (D : Nat → Int) (R : Nat → Rows) (top : Int) (L : List (Int × Int)) (G : Nat → Nat) (vk vw vm vs : Value) (W : World) : Prop where
  xh : x.h = S.hb
  ha : HA x T D R top m.par L u W
  hp : Hp x D R top m.par L m.cy m.O m.V
  ll : LL S m G vk vw vm vs W
  bs : ∀ b, Kx b → b < W.heap.size
  hi : ∀ b, W.heap.size ≤ b → T b = 1000
  lo : ∀ b, Kx b → T b = 1000
  gt : ∀ b, G b ≠ 0 → ¬ Kx b ∧ b < W.heap.size ∧ T b = 1000
/-- THE LAW'S WORLD AS IT LIES. -/
def Lm (Kx : Nat → Prop) (S : LSp) (m : LM) (u : Int) (W : World) : Prop := ∃ x T D R top L G vk vw vm vs, Lx Kx S m u x T D R top L G vk vw vm vs W
end Go.Proofs.Ythliahaopelooaa
/- The law's world stays as it is, but for what a call turns. -/
namespace Go.Proofs.Ythliahaopelooaa
open Go.RowKit
theorem own_samew {base : Nat} {e : TypeId} {size : Nat} {v : Value} {n : Nat} {xs : List Value} {W W' : World} (h : W.ownsRow base e size v n xs) (hk : ∀ g, v.ownBlock = some g → W'.heap[g]? = W.heap[g]?) : W'.ownsRow base e size v n xs := by
  refine ⟨h.1, ?_⟩
  rcases h.2 with e | ⟨g, cap, cur, rfl, hg, hb, hr⟩
  · exact Or.inl e
  · exact Or.inr ⟨g, cap, cur, rfl, hg, (hk g rfl).trans hb, hr⟩
theorem HLies.butw {x : HSpot} {T : Nat → Nat} {D : Nat → Int} {R : Nat → Rows} {top par : Int} {L : List (Int × Int)} {w w' : World} (h : HLies x T D R top par L w) (hk : ∀ b, b < w.heap.size → T b ≠ 1000 → w'.heap[b]? = w.heap[b]?) (hs : w.heap.size ≤ w'.heap.size) : HLies x T D R top par L w' := by
  obtain ⟨u, hu⟩ := h.at
  obtain ⟨cb, cap, g, ht, -⟩ := h.rest
  exact h.anew hs (fun b hl hb => hk b hl (by have := h.k6; omega)) ⟨u, hu.move (hk _ hu.lp (by rw [ht.p]; omega)) (hk _ hu.ld (by rw [ht.d]; omega)) hs⟩ (fun _ _ _ _ => rfl)
section
variable {S : LSp} {m : LM} {G : Nat → Nat} {vk vw vm vs : Value} {W W' : World}
theorem A1.same (h : A1 S vk vw vm vs W) (hk : W'.heap[S.wb]? = W.heap[S.wb]?) : A1 S vk vw vm vs W' := by
  have o : ∀ (j : Nat) (v : Value), W.cell? ⟨S.wb, j, none⟩ = some v → W'.cell? ⟨S.wb, j, none⟩ = some v := fun j v hv => (World.cell?_of_block (w := W) hk).trans hv
  exact ⟨o _ _ h.h, o _ _ h.t, o _ _ h.m, o _ _ h.k, o _ _ h.w, o _ _ h.d, o _ _ h.s, fun j => (World.frozen?_of_block (w := W) hk).trans (h.fz j)⟩
theorem A3.same (h : A3 S m W) (hk : W'.heap[S.tb]? = W.heap[S.tb]?) : A3 S m W' := by
  have o : ∀ (j : Nat) (v : Value), W.cell? ⟨S.tb, j, none⟩ = some v → W'.cell? ⟨S.tb, j, none⟩ = some v := fun j v hv => (World.cell?_of_block (w := W) hk).trans hv
  exact ⟨o _ _ h.h, o _ _ h.s, o _ _ h.fi, o _ _ h.a, o _ _ h.nx, o _ _ h.qu, o _ _ h.la, o _ _ h.cn, fun j => (World.frozen?_of_block (w := W) hk).trans (h.fz j)⟩
theorem DR.same {v : Value} {l : List (Int × Int)} (h : DR G W v l) (hk : ∀ b, G b = 10 → W'.heap[b]? = W.heap[b]?) : DR G W' v l := by
  obtain ⟨ao, cap, e, hc, h⟩ := h
  refine ⟨ao, cap, e, hc, fun h0 => ?_⟩
  obtain ⟨g, off, e1, hg, h1⟩ := h h0
  exact ⟨g, off, e1, hg, fun j u hj => (World.cell?_of_block (w := W) (a := ⟨g, _, none⟩) (hk g hg)).trans (h1 j u hj)⟩
theorem A5.same {dr dq dw : List (Int × Int)} (h : A5 S G dr dq dw W) (hk : ∀ b, b = S.mb ∨ G b = 10 → W'.heap[b]? = W.heap[b]?) : A5 S G dr dq dw W' := by
  have o : ∀ (j : Nat) (v : Value), W.cell? ⟨S.mb, j, none⟩ = some v → W'.cell? ⟨S.mb, j, none⟩ = some v := fun j v hv => (World.cell?_of_block (w := W) (hk _ (Or.inl rfl))).trans hv
  obtain ⟨⟨v1, c1, d1⟩, ⟨v2, c2, d2⟩, ⟨v3, c3, d3⟩, fz⟩ := h
  exact ⟨⟨v1, o _ _ c1, d1.same fun b hb => hk b (Or.inr hb)⟩, ⟨v2, o _ _ c2, d2.same fun b hb => hk b (Or.inr hb)⟩, ⟨v3, o _ _ c3, d3.same fun b hb => hk b (Or.inr hb)⟩, fun j => (World.frozen?_of_block (w := W) (hk _ (Or.inl rfl))).trans (fz j)⟩
theorem Rw.same {base : Nat} {v : Value} {l : List Int} (h : Rw base W v l) (hk : ∀ g, v.ownBlock = some g → W'.heap[g]? = W.heap[g]?)   : Rw base W' v l := own_samew h hk
theorem Rw8.same {base : Nat} {v : Value} {l : List Int} (h : Rw8 base W v l) (hk : ∀ g, v.ownBlock = some g → W'.heap[g]? = W.heap[g]?)   : Rw8 base W' v l := own_samew h hk
/-- The table's own cells have turned, or nothing; the map is told anew. -/
theorem LL.anew {m' : LM} (h : LL S m G vk vw vm vs W) (hk : ∀ b, G b ≠ 0 → G b ≠ 3 → G b ≠ 4 → W'.heap[b]? = W.heap[b]?) (h3 : A3 S m' W') (h4 : CMap W' S.ab m'.dom.length m'.f m'.dom)
    (e : m'.keys = m.keys ∧ m'.weaks = m.weaks ∧ m'.marked = m.marked ∧ m'.shaded = m.shaded ∧ m'.dr = m.dr ∧ m'.dq = m.dq ∧ m'.dw = m.dw) : LL S m' G vk vw vm vs W' := by
  obtain ⟨e1, e2, e3, e4, e5, e6, e7⟩ := e
  have k : ∀ b t, G b = t → t ≠ 0 → t ≠ 3 → t ≠ 4 → W'.heap[b]? = W.heap[b]? := fun b t hb h0 h3 h4 => hk b (by omega) (by omega) (by omega)
  refine ⟨h.g1, h.g2, h.g3, h.g4, h.g5, h.a1.same (k _ 1 h.g1 (by decide) (by decide) (by decide)), (World.cell?_of_block (w := W) (k _ 2 h.g2 (by decide) (by decide) (by decide))).trans h.a2, h3, h4, ?_, ?_, ?_, ?_, ?_, h.gk, h.gw, h.gd, h.gs⟩
  · rw [e5, e6, e7]
    refine h.a5.same fun b hb => ?_
    rcases hb with rfl | hb
    · exact k _ 5 h.g5 (by decide) (by decide) (by decide)
    · exact k _ 10 hb (by decide) (by decide) (by decide)
  · rw [e1]
    exact h.k.same fun g hg => k _ 6 (h.gk g hg) (by decide) (by decide) (by decide)
  · rw [e2]
    exact h.w.same fun g hg => k _ 7 (h.gw g hg) (by decide) (by decide) (by decide)
  · rw [e3]
    exact h.d.same fun g hg => k _ 8 (h.gd g hg) (by decide) (by decide) (by decide)
  · rw [e4]
    exact h.s.same fun g hg => k _ 9 (h.gs g hg) (by decide) (by decide) (by decide)
theorem LL.same {m' : LM} (h : LL S m G vk vw vm vs W) (hk : ∀ b, G b ≠ 0 → W'.heap[b]? = W.heap[b]?)
    (e : m'.keys = m.keys ∧ m'.weaks = m.weaks ∧ m'.marked = m.marked ∧ m'.shaded = m.shaded ∧ m'.dr = m.dr ∧ m'.dq = m.dq ∧ m'.dw = m.dw) (e3 : m'.first = m.first ∧ m'.nx = m.nx ∧ m'.qu = m.qu ∧ m'.la = m.la ∧ m'.cn = m.cn) (e4 : m'.f = m.f ∧ m'.dom = m.dom) : LL S m' G vk vw vm vs W' := by
  obtain ⟨f1, f2, f3, f4, f5⟩ := e3
  have h3 := h.a3.same (W' := W') (hk _ (by rw [h.g3]; decide))
  refine h.anew (fun b hb _ _ => hk b hb) ⟨h3.h, h3.s, ?_, h3.a, ?_, ?_, ?_, ?_, h3.fz⟩ ?_ e
  · rw [f1]; exact h3.fi
  · rw [f2]; exact h3.nx
  · rw [f3]; exact h3.qu
  · rw [f4]; exact h3.la
  · rw [f5]; exact h3.cn
  · rw [e4.1, e4.2]
    exact h.a4.same (hk _ (by rw [h.g4]; decide))
end
section
variable {Kx : Nat → Prop} {S : LSp} {m : LM} {u : Int} {x : HSpot} {T : Nat → Nat} {D : Nat → Int} {R : Nat → Rows} {top : Int} {L : List (Int × Int)} {G : Nat → Nat} {vk vw vm vs : Value} {W W' : World}
/-- The heap was asked. -/
theorem Lx.heap (h : Lx Kx S m u x T D R top L G vk vw vm vs W) {m' : LM} {T' : Nat → Nat} {D' : Nat → Int} {R' : Nat → Rows} {top' u' : Int} {L' : List (Int × Int)} (ha : HA x T' D' R' top' m'.par L' u' W') (ht : HTurn T T' W W') (hp : Hp x D' R' top' m'.par L' m'.cy m'.O m'.V)
    (e : m'.keys = m.keys ∧ m'.weaks = m.weaks ∧ m'.marked = m.marked ∧ m'.shaded = m.shaded ∧ m'.dr = m.dr ∧ m'.dq = m.dq ∧ m'.dw = m.dw) (e3 : m'.first = m.first ∧ m'.nx = m.nx ∧ m'.qu = m.qu ∧ m'.la = m.la ∧ m'.cn = m.cn) (e4 : m'.f = m.f ∧ m'.dom = m.dom) :
    (∃ T2, Lx Kx S m' u' x T2 D' R' top' L' G vk vw vm vs W') ∧ Kp Kx W W' := by
  obtain ⟨hr, hr2⟩ := ha.1.retag
  refine ⟨⟨_, h.xh, ⟨hr, ha.2⟩, hp, h.ll.same (fun b hb => (ht.block b (h.gt b hb).2.1 (h.gt b hb).2.2).2) e e3 e4, fun b hb => Nat.lt_of_lt_of_le (h.bs b hb) ht.size, fun b hb => if_neg (by omega), fun b hb => ?_, fun b hb => ?_⟩, ht.os, ht.tape, ht.output, ht.size, fun b hb => (ht.block b (h.bs b hb) (h.lo b hb)).2⟩
  · have h1 := (ht.block b (h.bs b hb) (h.lo b hb)).1
    exact (hr2.block b (Nat.lt_of_lt_of_le (h.bs b hb) ht.size) h1).1
  · obtain ⟨g1, g2, g3⟩ := h.gt b hb
    have h1 := (ht.block b g2 g3).1
    exact ⟨g1, Nat.lt_of_lt_of_le g2 ht.size, (hr2.block b (Nat.lt_of_lt_of_le g2 ht.size) h1).1⟩
/-- Nothing but the table's cells, or the map, has turned. -/
theorem Lx.table (h : Lx Kx S m u x T D R top L G vk vw vm vs W) {m' : LM} (hk : ∀ b, b < W.heap.size → G b ≠ 3 → G b ≠ 4 → W'.heap[b]? = W.heap[b]?) (hos : W'.os = W.os) (htp : W'.tape = W.tape) (hou : W'.output = W.output) (hs : W.heap.size ≤ W'.heap.size) (h3 : A3 S m' W') (h4 : CMap W' S.ab m'.dom.length m'.f m'.dom)
    (e : m'.keys = m.keys ∧ m'.weaks = m.weaks ∧ m'.marked = m.marked ∧ m'.shaded = m.shaded ∧ m'.dr = m.dr ∧ m'.dq = m.dq ∧ m'.dw = m.dw) (e2 : m'.par = m.par ∧ m'.cy = m.cy ∧ m'.O = m.O ∧ m'.V = m.V) :
    Lx Kx S m' u x T D R top L G vk vw vm vs W' ∧ Kp Kx W W' := by
  obtain ⟨e21, e22, e23, e24⟩ := e2
  have nb : ∀ b, T b ≠ 1000 → G b ≠ 3 ∧ G b ≠ 4 := fun b hb => ⟨fun e => hb ((h.gt b (by omega)).2.2), fun e => hb ((h.gt b (by omega)).2.2)⟩
  have hl : HLies x T D R top m.par L W' := h.ha.1.butw (fun b hb ht => hk b hb (nb b ht).1 (nb b ht).2) hs
  obtain ⟨cb, cap, g, htg, -⟩ := h.ha.1.rest
  have hA : At W' x.p x.d x.n D u := h.ha.2.move (hk _ h.ha.2.lp (nb _ (by rw [htg.p]; omega)).1 (nb _ (by rw [htg.p]; omega)).2) (hk _ h.ha.2.ld (nb _ (by rw [htg.d]; omega)).1 (nb _ (by rw [htg.d]; omega)).2) hs
  refine ⟨⟨h.xh, by rw [e21]; exact ⟨hl, hA⟩, by rw [e21, e22, e23, e24]; exact h.hp, h.ll.anew (fun b hb h3 h4 => hk b (h.gt b hb).2.1 h3 h4) h3 h4 e, fun b hb => Nat.lt_of_lt_of_le (h.bs b hb) hs, fun b hb => h.hi b (Nat.le_trans hs hb), h.lo, fun b hb => ⟨(h.gt b hb).1, Nat.lt_of_lt_of_le (h.gt b hb).2.1 hs, (h.gt b hb).2.2⟩⟩, hos, htp, hou, hs, fun b hb => ?_⟩
  exact hk b (h.bs b hb) (fun e => (h.gt b (by omega)).1 hb) (fun e => (h.gt b (by omega)).1 hb)
theorem Lx.later (h : Lx Kx S m u x T D R top L G vk vw vm vs W) (hb : Below W.heap.size W W') : Lx Kx S m u x T D R top L G vk vw vm vs W' ∧ Kp Kx W W' := by
  have hk : ∀ b, b < W.heap.size → W'.heap[b]? = W.heap[b]? := hb.block
  exact h.table (fun b hl _ _ => hk b hl) hb.os hb.tape hb.output hb.size (h.ll.a3.same (hk _ (h.gt _ (by rw [h.ll.g3]; decide)).2.1)) (h.ll.a4.same (hk _ (h.gt _ (by rw [h.ll.g4]; decide)).2.1)) ⟨rfl, rfl, rfl, rfl, rfl, rfl, rfl⟩ ⟨rfl, rfl, rfl, rfl⟩
end
section
variable {Kx : Nat → Prop} {S : LSp} {m : LM} {u : Int} {W W' : World}
theorem Lm.later (h : Lm Kx S m u W) (hb : Below W.heap.size W W') : Lm Kx S m u W' ∧ Kp Kx W W' := by
  obtain ⟨x, T, D, R, top, L, G, vk, vw, vm, vs, h⟩ := h
  obtain ⟨h1, h2⟩ := h.later hb
  exact ⟨⟨x, T, D, R, top, L, G, vk, vw, vm, vs, h1⟩, h2⟩
theorem Lm.bs (h : Lm Kx S m u W) : ∀ b, Kx b → b < W.heap.size := by
  obtain ⟨x, T, D, R, top, L, G, vk, vw, vm, vs, h⟩ := h
  exact h.bs
theorem Lm.a3 (h : Lm Kx S m u W) : A3 S m W ∧ ¬ Kx S.tb ∧ S.tb < W.heap.size := by
  obtain ⟨x, T, D, R, top, L, G, vk, vw, vm, vs, h⟩ := h
  have := h.gt S.tb (by rw [h.ll.g3]; decide)
  exact ⟨h.ll.a3, this.1, this.2.1⟩
theorem Lm.map (h : Lm Kx S m u W) : CMap W S.ab m.dom.length m.f m.dom := by
  obtain ⟨x, T, D, R, top, L, G, vk, vw, vm, vs, h⟩ := h
  exact h.ll.a4
/-- A block of the call's own is kept besides. -/
theorem Lm.own (h : Lm Kx S m u W) (hb : Below W.heap.size W W') {q : Nat} (h1 : W.heap.size ≤ q) (h2 : q < W'.heap.size) : Lm (fun b => Kx b ∨ b = q) S m u W' := by
  obtain ⟨x, T, D, R, top, L, G, vk, vw, vm, vs, h⟩ := h
  obtain ⟨k, -⟩ := h.later hb
  refine ⟨x, T, D, R, top, L, G, vk, vw, vm, vs, k.xh, k.ha, k.hp, k.ll, fun b hb => ?_, k.hi, fun b hb => ?_, fun b hb => ⟨fun e => ?_, (k.gt b hb).2⟩⟩
  · rcases hb with hb | rfl
    · exact k.bs b hb
    · exact h2
  · rcases hb with hb | rfl
    · exact k.lo b hb
    · exact h.hi b h1
  · rcases e with e | rfl
    · exact (k.gt b hb).1 e
    · have := (h.gt b hb).2.1
      omega
theorem Lm.less {K2 : Nat → Prop} (h : Lm Kx S m u W) (k : ∀ b, K2 b → Kx b) : Lm K2 S m u W := by
  obtain ⟨x, T, D, R, top, L, G, vk, vw, vm, vs, h⟩ := h
  exact ⟨x, T, D, R, top, L, G, vk, vw, vm, vs, h.xh, h.ha, h.hp, h.ll, fun b hb => h.bs b (k b hb), h.hi, fun b hb => h.lo b (k b hb), fun b hb => ⟨fun e => (h.gt b hb).1 (k b e), (h.gt b hb).2⟩⟩
/-- One cell of the table is set. -/
theorem Lm.cell (h : Lm Kx S m u W) {m' : LM} (j : Nat) (v : Value) (h3 : A3 S m' (W.setCell ⟨S.tb, j, none⟩ v)) (e : m' = { m with first := m'.first, nx := m'.nx, qu := m'.qu, la := m'.la, cn := m'.cn }) : Lm Kx S m' u (W.setCell ⟨S.tb, j, none⟩ v) ∧ Kp Kx W (W.setCell ⟨S.tb, j, none⟩ v) := by
  obtain ⟨x, T, D, R, top, L, G, vk, vw, vm, vs, h⟩ := h
  have hk : ∀ b, b ≠ S.tb → (W.setCell ⟨S.tb, j, none⟩ v).heap[b]? = W.heap[b]? := fun b hb => Below.heap_setCell _ _ _ _ hb
  have hab : S.ab ≠ S.tb := fun e => by
    have h1 := h.ll.g3
    have h2 := h.ll.g4
    rw [e] at h2
    omega
  have h4 := h.ll.a4.same (hk _ hab)
  obtain ⟨h1, h2⟩ := h.table (m' := m') (fun b hb h3' _ => hk b (fun e => h3' (by rw [e]; exact h.ll.g3))) rfl rfl rfl (by simp [World.setCell]) h3 (by rw [e]; exact h4) (by rw [e]; exact ⟨rfl, rfl, rfl, rfl, rfl, rfl, rfl⟩) (by rw [e]; exact ⟨rfl, rfl, rfl, rfl⟩)
  exact ⟨⟨x, T, D, R, top, L, G, vk, vw, vm, vs, h1⟩, h2⟩
theorem Lm.first (h : Lm Kx S m u W) (v : Int) : Lm Kx S { m with first := v } u (W.setCell ⟨S.tb, 2, none⟩ (.int .i64 v)) ∧ Kp Kx W (W.setCell ⟨S.tb, 2, none⟩ (.int .i64 v)) := by
  have a := h.a3.1
  have o : ∀ (j : Nat) (v' : Value), j ≠ 2 → W.cell? ⟨S.tb, j, none⟩ = some v' → (W.setCell ⟨S.tb, 2, none⟩ (.int .i64 v)).cell? ⟨S.tb, j, none⟩ = some v' := fun j v' hj hv => (World.cell?_setCell_other _ _ _ _ (fun e => hj (by cases e; rfl))).trans hv
  exact h.cell 2 _ ⟨o 0 _ (by decide) a.h, o 1 _ (by decide) a.s, World.cell?_setCell_same _ _ _ a.fi, o 3 _ (by decide) a.a, o 4 _ (by decide) a.nx, o 5 _ (by decide) a.qu, o 6 _ (by decide) a.la, o 7 _ (by decide) a.cn, fun j => (World.frozen?_setCell _ _ _ _).trans (a.fz j)⟩ rfl
theorem Lm.nx (h : Lm Kx S m u W) (v : Int) : Lm Kx S { m with nx := v } u (W.setCell ⟨S.tb, 4, none⟩ (.int .i64 v)) ∧ Kp Kx W (W.setCell ⟨S.tb, 4, none⟩ (.int .i64 v)) := by
  have a := h.a3.1
  have o : ∀ (j : Nat) (v' : Value), j ≠ 4 → W.cell? ⟨S.tb, j, none⟩ = some v' → (W.setCell ⟨S.tb, 4, none⟩ (.int .i64 v)).cell? ⟨S.tb, j, none⟩ = some v' := fun j v' hj hv => (World.cell?_setCell_other _ _ _ _ (fun e => hj (by cases e; rfl))).trans hv
  exact h.cell 4 _ ⟨o 0 _ (by decide) a.h, o 1 _ (by decide) a.s, o 2 _ (by decide) a.fi, o 3 _ (by decide) a.a, World.cell?_setCell_same _ _ _ a.nx, o 5 _ (by decide) a.qu, o 6 _ (by decide) a.la, o 7 _ (by decide) a.cn, fun j => (World.frozen?_setCell _ _ _ _).trans (a.fz j)⟩ rfl
theorem Lm.qu (h : Lm Kx S m u W) (v : Int) : Lm Kx S { m with qu := v } u (W.setCell ⟨S.tb, 5, none⟩ (.int .i64 v)) ∧ Kp Kx W (W.setCell ⟨S.tb, 5, none⟩ (.int .i64 v)) := by
  have a := h.a3.1
  have o : ∀ (j : Nat) (v' : Value), j ≠ 5 → W.cell? ⟨S.tb, j, none⟩ = some v' → (W.setCell ⟨S.tb, 5, none⟩ (.int .i64 v)).cell? ⟨S.tb, j, none⟩ = some v' := fun j v' hj hv => (World.cell?_setCell_other _ _ _ _ (fun e => hj (by cases e; rfl))).trans hv
  exact h.cell 5 _ ⟨o 0 _ (by decide) a.h, o 1 _ (by decide) a.s, o 2 _ (by decide) a.fi, o 3 _ (by decide) a.a, o 4 _ (by decide) a.nx, World.cell?_setCell_same _ _ _ a.qu, o 6 _ (by decide) a.la, o 7 _ (by decide) a.cn, fun j => (World.frozen?_setCell _ _ _ _).trans (a.fz j)⟩ rfl
theorem Lm.la (h : Lm Kx S m u W) (v : Int) : Lm Kx S { m with la := v } u (W.setCell ⟨S.tb, 6, none⟩ (.int .i64 v)) ∧ Kp Kx W (W.setCell ⟨S.tb, 6, none⟩ (.int .i64 v)) := by
  have a := h.a3.1
  have o : ∀ (j : Nat) (v' : Value), j ≠ 6 → W.cell? ⟨S.tb, j, none⟩ = some v' → (W.setCell ⟨S.tb, 6, none⟩ (.int .i64 v)).cell? ⟨S.tb, j, none⟩ = some v' := fun j v' hj hv => (World.cell?_setCell_other _ _ _ _ (fun e => hj (by cases e; rfl))).trans hv
  exact h.cell 6 _ ⟨o 0 _ (by decide) a.h, o 1 _ (by decide) a.s, o 2 _ (by decide) a.fi, o 3 _ (by decide) a.a, o 4 _ (by decide) a.nx, o 5 _ (by decide) a.qu, World.cell?_setCell_same _ _ _ a.la, o 7 _ (by decide) a.cn, fun j => (World.frozen?_setCell _ _ _ _).trans (a.fz j)⟩ rfl
theorem Lm.cn (h : Lm Kx S m u W) (v : Int) : Lm Kx S { m with cn := v } u (W.setCell ⟨S.tb, 7, none⟩ (.int .i64 v)) ∧ Kp Kx W (W.setCell ⟨S.tb, 7, none⟩ (.int .i64 v)) := by
  have a := h.a3.1
  have o : ∀ (j : Nat) (v' : Value), j ≠ 7 → W.cell? ⟨S.tb, j, none⟩ = some v' → (W.setCell ⟨S.tb, 7, none⟩ (.int .i64 v)).cell? ⟨S.tb, j, none⟩ = some v' := fun j v' hj hv => (World.cell?_setCell_other _ _ _ _ (fun e => hj (by cases e; rfl))).trans hv
  exact h.cell 7 _ ⟨o 0 _ (by decide) a.h, o 1 _ (by decide) a.s, o 2 _ (by decide) a.fi, o 3 _ (by decide) a.a, o 4 _ (by decide) a.nx, o 5 _ (by decide) a.qu, o 6 _ (by decide) a.la, World.cell?_setCell_same _ _ _ a.cn, fun j => (World.frozen?_setCell _ _ _ _).trans (a.fz j)⟩ rfl
/-- The map has turned. -/
theorem Lm.mapped (h : Lm Kx S m u W) {f : Int → Int} {dom : List Int} {n : Nat} (hg : W.grownBy W' (some S.ab)) (hm : CMap W' S.ab n f dom) : Lm Kx S { m with f := f, dom := dom } u W' ∧ Kp Kx W W' := by
  obtain ⟨x, T, D, R, top, L, G, vk, vw, vm, vs, h⟩ := h
  have hk : ∀ b, b < W.heap.size → b ≠ S.ab → W'.heap[b]? = W.heap[b]? := fun b hl hb => hg.block b hl (fun e => hb (Option.some.inj e))
  have htb : S.tb ≠ S.ab := fun e => by
    have h1 := h.ll.g3
    have h2 := h.ll.g4
    rw [e] at h1
    omega
  have h3 := h.ll.a3.same (W' := W') (hk _ (h.gt _ (by rw [h.ll.g3]; decide)).2.1 htb)
  obtain ⟨h1, h2⟩ := h.table (m' := { m with f := f, dom := dom }) (fun b hb _ h4' => hk b hb (fun e => h4' (by rw [e]; exact h.ll.g4))) hg.os hg.tape hg.output hg.size ⟨h3.h, h3.s, h3.fi, h3.a, h3.nx, h3.qu, h3.la, h3.cn, h3.fz⟩ hm.norm ⟨rfl, rfl, rfl, rfl, rfl, rfl, rfl⟩ ⟨rfl, rfl, rfl, rfl⟩
  exact ⟨⟨x, T, D, R, top, L, G, vk, vw, vm, vs, h1⟩, h2⟩
end
end Go.Proofs.Ythliahaopelooaa
/- What a call of the heap leaves of the law's world. -/
namespace Go.Proofs.Ythliahaopelooaa
open Go.RowKit
/-- A call has told this; the world is so, so many uses later. -/
def Aft (Kx : Nat → Prop) (S : LSp) (m : LM) (u : Int) (n : Nat) (v : Value) (w : World) (e : Ending) (w' : World) : Prop := e = .returned v ∧ ∃ u', Lm Kx S m u' w' ∧ Kp Kx w w' ∧ Us n u u'
/-- A call has told this; the world is so. -/
def Aff (Kx : Nat → Prop) (S : LSp) (m : LM) (v : Value) (w : World) (e : Ending) (w' : World) : Prop := e = .returned v ∧ (∃ u', Lm Kx S m u' w') ∧ Kp Kx w w'
section
variable {Kx : Nat → Prop} {S : LSp} {m : LM} {u : Int} {W : World}
theorem lm_cell (h : Lm Kx S m u W) {o : Ob} (ho : o ∈ m.O) : Calls Try.prog 20 #[.pointer (some ⟨S.hb, 0, none⟩), .int .i64 o.p] W (Aft Kx S m u 1 (.tuple #[.agg #[.int .i64 o.k, .int .i64 o.s, .int .i64 o.a, .int .i64 o.m], .int .i64 0]) W) := by
  obtain ⟨x, T, D, R, top, L, G, vk, vw, vm, vs, h⟩ := h
  have o1 := h.hp.obj1 ho
  have hd := h.hp.hd o ho
  have hc := cell_u x T D R top m.par L u W h.ha o.p o.k o.s o.a o.m o1.one (by have := o1.le; have := hd.fit.2.1; omega) hd
  rw [h.xh] at hc
  refine hc.mono ?_
  rintro e w' ⟨rfl, u', ha', ht, hu⟩
  obtain ⟨⟨T2, h2⟩, hb⟩ := h.heap (m' := m) ha' ht h.hp ⟨rfl, rfl, rfl, rfl, rfl, rfl, rfl⟩ ⟨rfl, rfl, rfl, rfl, rfl⟩ ⟨rfl, rfl⟩
  exact ⟨rfl, u', ⟨x, T2, D, R, top, L, G, vk, vw, vm, vs, h2⟩, hb, hu⟩
theorem lm_get (h : Lm Kx S m u W) {o : Ob} (ho : o ∈ m.O) {j : Int} (j0 : 0 ≤ j) (j1 : j < o.s) : Calls Try.prog 21 #[.pointer (some ⟨S.hb, 0, none⟩), .int .i64 o.p, .int .i64 j] W (Aft Kx S m u 2 (.tuple #[.int .i64 (m.V o.p j), .int .i64 0]) W) := by
  obtain ⟨x, T, D, R, top, L, G, vk, vw, vm, vs, h⟩ := h
  have o1 := h.hp.obj1 ho
  have hd := h.hp.hd o ho
  have hc := get_u x T D R top m.par L u W h.ha o.p o.k o.s o.a o.m o1.one o1.le h.hp.inv.n6 hd j ⟨j0, j1⟩
  rw [h.xh, h.hp.wd o ho j j0 j1] at hc
  refine hc.mono ?_
  rintro e w' ⟨rfl, u', ha', ht, hu⟩
  obtain ⟨⟨T2, h2⟩, hb⟩ := h.heap (m' := m) ha' ht h.hp ⟨rfl, rfl, rfl, rfl, rfl, rfl, rfl⟩ ⟨rfl, rfl, rfl, rfl, rfl⟩ ⟨rfl, rfl⟩
  exact ⟨rfl, u', ⟨x, T2, D, R, top, L, G, vk, vw, vm, vs, h2⟩, hb, hu⟩
theorem lm_set (h : Lm Kx S m u W) {o : Ob} (ho : o ∈ m.O) {j : Int} (j0 : 0 ≤ j) (j1 : j < o.s) (v : Int) : Calls Try.prog 32 #[.pointer (some ⟨S.hb, 0, none⟩), .int .i64 o.p, .int .i64 j, .int .i64 v] W (Aft Kx S { m with V := vset m.V o.p j v } u 2 (.int .i64 0) W) := by
  obtain ⟨x, T, D, R, top, L, G, vk, vw, vm, vs, h⟩ := h
  have o1 := h.hp.obj1 ho
  have hd := h.hp.hd o ho
  have hc := set_u x T D R top m.par L u W h.ha o.p o.k o.s o.a o.m o1.one o1.le h.hp.inv.n6 hd j v ⟨j0, j1⟩ (o1.words ⟨j0, j1⟩)
  rw [h.xh] at hc
  refine hc.mono ?_
  rintro e w' ⟨rfl, u', ha', ht, hu⟩
  obtain ⟨⟨T2, h2⟩, hb⟩ := h.heap (m' := { m with V := vset m.V o.p j v }) ha' ht (h.hp.set ho j0 j1 v) ⟨rfl, rfl, rfl, rfl, rfl, rfl, rfl⟩ ⟨rfl, rfl, rfl, rfl, rfl⟩ ⟨rfl, rfl⟩
  exact ⟨rfl, u', ⟨x, T2, _, R, top, L, G, vk, vw, vm, vs, h2⟩, hb, hu⟩
theorem lm_become (h : Lm Kx S m u W) {o : Ob} (ho : o ∈ m.O) {k a : Int} (hk : 0 ≤ k ∧ k ≤ 10) (ha : 0 ≤ a ∧ a ≤ 16777215) : Calls Try.prog 68 #[.pointer (some ⟨S.hb, 0, none⟩), .int .i64 o.p, .int .i64 k, .int .i64 a] W (Aft Kx S { m with O := turnO m.O o.p fun q => { q with k := k, a := a } } u 2 (.int .i64 0) W) := by
  obtain ⟨x, T, D, R, top, L, G, vk, vw, vm, vs, h⟩ := h
  have o1 := h.hp.obj1 ho
  have hd := h.hp.hd o ho
  have hf : Ce.Fit k o.s a o.m := ⟨hk, hd.fit.2.1, ha, hd.fit.2.2.2⟩
  have hc := become_u x T D R top m.par L u W h.ha o.p o.k o.s o.a o.m o1.one (by have := o1.le; have := hd.fit.2.1; omega) hd k a (Ce.pe_ok hf) (o1.word hd.fit.2.1.1)
  rw [h.xh] at hc
  refine hc.mono ?_
  rintro e w' ⟨rfl, u', ha', ht, hu⟩
  obtain ⟨⟨T2, h2⟩, hb⟩ := h.heap (m' := { m with O := turnO m.O o.p fun q => { q with k := k, a := a } }) ha' ht (h.hp.become ho hf) ⟨rfl, rfl, rfl, rfl, rfl, rfl, rfl⟩ ⟨rfl, rfl, rfl, rfl, rfl⟩ ⟨rfl, rfl⟩
  exact ⟨rfl, u', ⟨x, T2, _, R, top, L, G, vk, vw, vm, vs, h2⟩, hb, hu⟩
theorem lm_shade (h : Lm Kx S m u W) {o : Ob} (ho : o ∈ m.O) (hm : o.m ≠ m.par) : Calls Try.prog 27 #[.pointer (some ⟨S.hb, 0, none⟩), .int .i64 o.p] W (Aff Kx S { m with cy := true, O := turnO m.O o.p fun q => { q with m := m.par } } (.tuple #[.bool true, .int .i64 0]) W) := by
  obtain ⟨x, T, D, R, top, L, G, vk, vw, vm, vs, h⟩ := h
  have hd := h.hp.hd o ho
  obtain ⟨i, hC, hf⟩ := h.hp.frm o ho hm
  have hc := hshade_any x T D R top m.par L W h.ha.1 h.hp.inv i o.p o.k o.s o.a o.m hC hf hd hm h.hp.par
  rw [h.xh] at hc
  refine hc.mono ?_
  rintro e w' ⟨rfl, T', D', hS, hl', ht⟩
  obtain ⟨u', ha'⟩ := hl'.ha
  obtain ⟨⟨T2, h2⟩, hb⟩ := h.heap (m' := { m with cy := true, O := turnO m.O o.p fun q => { q with m := m.par } }) ha' ht (h.hp.shade ho hC hf hS) ⟨rfl, rfl, rfl, rfl, rfl, rfl, rfl⟩ ⟨rfl, rfl, rfl, rfl, rfl⟩ ⟨rfl, rfl⟩
  exact ⟨rfl, ⟨u', x, T2, _, _, top, L, G, vk, vw, vm, vs, h2⟩, hb⟩
theorem lm_shade_not (h : Lm Kx S m u W) {o : Ob} (ho : o ∈ m.O) (hm : o.m = m.par) : Calls Try.prog 27 #[.pointer (some ⟨S.hb, 0, none⟩), .int .i64 o.p] W (Aff Kx S m (.tuple #[.bool false, .int .i64 0]) W) := by
  obtain ⟨x, T, D, R, top, L, G, vk, vw, vm, vs, h⟩ := h
  have o1 := h.hp.obj1 ho
  have hd := h.hp.hd o ho
  rw [hm] at hd
  have hc := hshade_not x T D R top m.par L W h.ha.1 o.p o.k o.s o.a o1.one (by have := o1.le; have := hd.fit.2.1; omega) hd
  rw [h.xh] at hc
  refine hc.mono ?_
  rintro e w' ⟨rfl, hl', ht⟩
  obtain ⟨u', ha'⟩ := hl'.ha
  obtain ⟨⟨T2, h2⟩, hb⟩ := h.heap (m' := m) ha' ht h.hp ⟨rfl, rfl, rfl, rfl, rfl, rfl, rfl⟩ ⟨rfl, rfl, rfl, rfl, rfl⟩ ⟨rfl, rfl⟩
  exact ⟨rfl, ⟨u', x, T2, _, _, top, L, G, vk, vw, vm, vs, h2⟩, hb⟩
theorem lm_begin (h : Lm Kx S m u W) (hy : m.cy = false) : Calls Try.prog 12 #[.pointer (some ⟨S.hb, 0, none⟩)] W (Aff Kx S { m with cy := true, par := 1 - m.par } (.int .i64 0) W) := by
  obtain ⟨x, T, D, R, top, L, G, vk, vw, vm, vs, h⟩ := h
  have hp := h.hp
  rw [hy] at hp
  have hc := hbegin_any x T D R top m.par L W h.ha.1 (by have := hp.n; omega) hp.par (fun i hi => (hp.calm rfl i hi).1) (fun i hi => (hp.calm rfl i hi).2)
  rw [h.xh] at hc
  refine hc.mono ?_
  rintro e w' ⟨rfl, T', hl', ht⟩
  obtain ⟨u', ha'⟩ := hl'.ha
  obtain ⟨⟨T2, h2⟩, hb⟩ := h.heap (m' := { m with cy := true, par := 1 - m.par }) ha' ht hp.begun.2 ⟨rfl, rfl, rfl, rfl, rfl, rfl, rfl⟩ ⟨rfl, rfl, rfl, rfl, rfl⟩ ⟨rfl, rfl⟩
  exact ⟨rfl, ⟨u', x, T2, _, _, top, L, G, vk, vw, vm, vs, h2⟩, hb⟩
theorem lm_marks (h : Lm Kx S m u W) (hy : m.cy = false) : ∀ o, o ∈ m.O → o.m = m.par := by
  obtain ⟨x, T, D, R, top, L, G, vk, vw, vm, vs, h⟩ := h
  have hp := h.hp
  rw [hy] at hp
  exact hp.begun.1
/-- What Alloc leaves. -/
inductive Alld (Kx : Nat → Prop) (S : LSp) (m : LM) (k a s : Int) (w : World) (e : Ending) (w' : World) : Prop
  | no (er : Int) (h : er ≠ 0) (he : e = .returned (.tuple #[.int .i64 0, .int .i64 er])) (hl : ∃ u', Lm Kx S m u' w') (hb : Kp Kx w w') (hn : ¬ (Ce.Fit k s a m.par ∧ s ≤ 4))
  | yes (at' : Int) (he : e = .returned (.tuple #[.int .i64 at', .int .i64 0])) (hl : ∃ u', Lm Kx S { m with O := m.O ++ [⟨at', k, s, a, m.par⟩], V := vnew m.V at' } u' w') (hb : Kp Kx w w') (hn : ∀ o, o ∈ m.O → o.p ≠ at') (h1 : 1 ≤ at') (h2 : at' ≤ 3000) (hf : Ce.Fit k s a m.par)
theorem lm_alloc (h : Lm Kx S m u W) (hO : m.O.length < 400) (k a s : Int) : Calls Try.prog 23 #[.pointer (some ⟨S.hb, 0, none⟩), .int .i64 k, .int .i64 a, .int .i64 s] W (Alld Kx S m k a s W) := by
  obtain ⟨x, T, D, R, top, L, G, vk, vw, vm, vs, h⟩ := h
  have hc := alloc_any x T D R top m.par L W h.ha.1 h.hp.inv k a s
  rw [h.xh] at hc
  refine hc.mono ?_
  have hG := h.ha.1.good
  rintro e w' (⟨hpe, rfl, hl', ht⟩ | ⟨hpe, at', D', R', top', M, rfl, hl', ht, hA, hW⟩ | ⟨hpe, rfl, hl', ht, hF⟩)
  · obtain ⟨u', ha'⟩ := hl'.ha
    obtain ⟨⟨T2, h2⟩, hb⟩ := h.heap (m' := m) ha' ht h.hp ⟨rfl, rfl, rfl, rfl, rfl, rfl, rfl⟩ ⟨rfl, rfl, rfl, rfl, rfl⟩ ⟨rfl, rfl⟩
    exact .no _ hpe rfl ⟨u', x, T2, _, _, top, L, G, vk, vw, vm, vs, h2⟩ hb (fun hf => hpe (Ce.pe_ok hf.1))
  · obtain ⟨u', ha'⟩ := hl'.ha
    obtain ⟨hp', hn, h1, h2, h4⟩ := h.hp.more hG hA hpe hW (fun j hj => (h.ha.1.rings j hj).fit.nodup) (by omega)
    obtain ⟨⟨T2, h2'⟩, hb⟩ := h.heap (m' := { m with O := m.O ++ [⟨at', k, s, a, m.par⟩], V := vnew m.V at' }) ha' ht hp' ⟨rfl, rfl, rfl, rfl, rfl, rfl, rfl⟩ ⟨rfl, rfl, rfl, rfl, rfl⟩ ⟨rfl, rfl⟩
    exact .yes at' rfl ⟨u', x, T2, _, _, _, _, G, vk, vw, vm, vs, h2'⟩ hb hn h1 h2 ((Ce.pe_fit _ _ _ _).1 hpe)
  · obtain ⟨u', ha'⟩ := hl'.ha
    obtain ⟨⟨T2, h2⟩, hb⟩ := h.heap (m' := m) ha' ht h.hp ⟨rfl, rfl, rfl, rfl, rfl, rfl, rfl⟩ ⟨rfl, rfl, rfl, rfl, rfl⟩ ⟨rfl, rfl⟩
    refine .no 2 (by decide) rfl ⟨u', x, T2, _, _, top, L, G, vk, vw, vm, vs, h2⟩ hb fun hf => ?_
    have k2 := h.hp.k2
    have z0 := h.hp.z0
    have z1 := h.hp.z1
    have tp := h.hp.tp
    have lim := h.hp.lim
    rcases hF with ⟨i, hC, hi, hw, hr⟩ | ⟨hC, he⟩
    · obtain rfl | rfl : i = 0 ∨ i = 1 := by omega
      · omega
      · omega
    · have := hC.low 1 (by omega)
      omega
theorem lm_parity (h : Lm Kx S m u W) : Calls Try.prog 67 #[.pointer (some ⟨S.hb, 0, none⟩)] W fun e w' => e = .returned (.int .i64 m.par) ∧ w' = W := by
  obtain ⟨x, T, D, R, top, L, G, vk, vw, vm, vs, h⟩ := h
  have c6 := h.ha.1.par
  rw [h.xh] at c6
  clear h
  go_enter Try.func67, Try.ntmps67
  go_wp2_with fail
  go_ret
  exact ⟨rfl, rfl⟩
end
end Go.Proofs.Ythliahaopelooaa
/- The table of weak pointers: its small calls. -/
namespace Go.Proofs.Ythliahaopelooaa
open Go.RowKit
theorem Aft.then {Kx : Nat → Prop} {S : LSp} {m' : LM} {u u' : Int} {n n' : Nat} {v' : Value} {w w' w'' : World} {e : Ending} (hb : Kp Kx w w') (hu : Us n u u') (h : Aft Kx S m' u' n' v' w' e w'') : Aft Kx S m' u (n + n') v' w e w'' := by
  obtain ⟨he, u2, h1, h2, h3⟩ := h
  exact ⟨he, u2, h1, hb.trans h2, hu.trans h3⟩
theorem wf_place {c : Int} (h0 : 0 ≤ c) (h1 : c ≤ 65536) : (Lit.int .i64 c).wf = true := by
  have hmin : IntKind.i64.min = -9223372036854775808 := rfl
  have hmax : IntKind.i64.max = 9223372036854775807 := rfl
  simp only [Lit.wf, Bool.and_eq_true, decide_eq_true_eq]
  omega
theorem lm_pos {Kx : Nat → Prop} {S : LSp} {m : LM} {u : Int} {W : World} (h : Lm Kx S m u W) {o : Ob} (ho : o ∈ m.O) : 1 ≤ o.p ∧ o.p + o.s + 3 ≤ 3000 ∧ Ce.Fit o.k o.s o.a o.m := by
  obtain ⟨x, T, D, R, top, L, G, vk, vw, vm, vs, h⟩ := h
  have o1 := h.hp.obj1 ho
  have hn := h.hp.n
  exact ⟨o1.one, by have := o1.le; omega, (h.hp.hd o ho).fit⟩
theorem lm_par {Kx : Nat → Prop} {S : LSp} {m : LM} {u : Int} {W : World} (h : Lm Kx S m u W) : m.par = 0 ∨ m.par = 1 := by
  obtain ⟨x, T, D, R, top, L, G, vk, vw, vm, vs, h⟩ := h
  exact h.hp.par
section
variable {Kx : Nat → Prop} {S : LSp} {m : LM} {u : Int} {W : World}
set_option maxHeartbeats 1000000 in
theorem wbehind_any (h : Lm Kx S m u W) {o : Ob} (ho : o ∈ m.O) (hs : o.s = 4) : Calls Try.prog 37 #[.pointer (some ⟨S.tb, 0, none⟩), .int .i64 o.p] W (Aft Kx S m u 2 (.int .i64 (m.V o.p 3)) W) := by
  have c0 := h.a3.1.h
  have H1 := Lib.hid (lm_get h ho (j := 3) (by decide) (by rw [hs]; decide))
  clear h ho hs
  generalize m.V o.p 3 = v at *
  go_enter Try.func37, Try.ntmps37
  go_wp2_with fail
  refine H1.out.mono ?_
  rintro e w2 ⟨rfl, h2⟩
  have HE := Lib.hid h2
  clear h2 H1 c0
  go_wp2_with fail
  go_ret
  exact ⟨rfl, HE.out⟩
set_option maxHeartbeats 1000000 in
theorem wlink_any (h : Lm Kx S m u W) {o : Ob} (ho : o ∈ m.O) (hs : o.s = 4) (v : Int) : Calls Try.prog 41 #[.pointer (some ⟨S.tb, 0, none⟩), .int .i64 o.p, .int .i64 v] W (Aft Kx S { m with V := vset m.V o.p 3 v } u 2 (.tuple #[]) W) := by
  have c0 := h.a3.1.h
  have H1 := Lib.hid (lm_set h ho (j := 3) (by decide) (by rw [hs]; decide) v)
  clear h ho hs
  generalize (vset m.V o.p 3 v) = V' at *
  go_enter Try.func41, Try.ntmps41
  go_wp2_with fail
  refine H1.out.mono ?_
  rintro e w2 ⟨rfl, h2⟩
  have HE := Lib.hid h2
  clear h2 H1 c0
  go_wp2_with fail
  refine bodyPost_end (v := .tuple #[]) (by simp [results, Try.results41, go_sem]) rfl ?_
  exact ⟨rfl, HE.out⟩
/-- Behind join. -/
def joined (m : LM) (at' behind : Int) : LM :=
  { m with first := if at' = 0 then behind else m.first, V := if at' = 0 then m.V else vset m.V at' 3 behind, f := if behind = 0 then m.f else fput m.f behind at', dom := if behind = 0 then m.dom else dput m.dom behind }
set_option maxHeartbeats 2000000 in
theorem wjoin_any (h : Lm Kx S m u W) (at' behind : Int) (ha : at' = 0 ∨ ∃ o, o ∈ m.O ∧ o.p = at' ∧ o.s = 4) (hb : 0 ≤ behind ∧ behind ≤ 65536) (hl : m.dom.length < 90000) :
    Calls Try.prog 54 #[.pointer (some ⟨S.tb, 0, none⟩), .int .i64 at', .int .i64 behind] W (Aft Kx S (joined m at' behind) u 2 (.tuple #[]) W) := by
  have hb' : (Lit.int .i64 behind).wf = true := wf_place hb.1 hb.2
  have haw : (Lit.int .i64 at').wf = true := by
    rcases ha with rfl | ⟨o, ho, rfl, hs⟩
    · decide
    · have := lm_pos h ho
      exact wf_place (by omega) (by omega)
  have H := Lib.hid h
  have c2 := h.a3.1.fi
  have z2 := h.a3.1.fz 2
  by_cases e0 : at' = 0
  · subst e0
    have e9 : ((0 : Int) == 0) = true := rfl
    clear h ha
    go_enter Try.func54, Try.ntmps54
    go_upto_region 3 with fail
    have h1 := H.out.first behind
    have H1 := Lib.hid h1
    have c3 := h1.1.a3.1.a
    have hm := h1.1.map
    clear h1 H c2 z2
    generalize (W.setCell ⟨S.tb, 2, none⟩ (.int .i64 behind)) = W1 at *
    by_cases e1 : behind = 0
    · have e2 : (behind != 0) = false := by simpa using e1
      go_wp2_with fail
      refine bodyPost_end (v := .tuple #[]) (by simp [results, Try.results54, go_sem]) rfl ?_
      refine ⟨rfl, u, ?_, H1.out.2, (Us.refl u).mono (by decide)⟩
      have := H1.out.1
      subst e1
      unfold joined
      simpa using this
    · have e2 : (behind != 0) = true := by simpa using e1
      have HM := Lib.hid hm
      clear hm
      go_wp2_with (at_mapUpdate; refine wp_cput _ rfl _ _ _ rfl S.ab m.dom.length m.f m.dom rfl HM.out (by omega) behind 0 rfl rfl hb' haw ?_; intro w4 h4 g4)
      have h5 := H1.out.1.mapped g4 h4
      refine bodyPost_end (v := .tuple #[]) (by simp [results, Try.results54, go_sem]) rfl ?_
      refine ⟨rfl, u, ?_, H1.out.2.trans h5.2, (Us.refl u).mono (by decide)⟩
      have := h5.1
      unfold joined
      simp only [if_neg e1, if_pos]
      exact this
  · obtain ⟨o, ho, rfl, hs⟩ := ha.resolve_left e0
    have e9 : (o.p == 0) = false := by simpa using e0
    have HK := Lib.hid (wlink_any h ho hs behind)
    clear h ha c2 z2
    go_enter Try.func54, Try.ntmps54
    go_wp2_with fail
    refine HK.out.mono ?_
    rintro e w2 ⟨rfl, u2, h2, hb2, hu2⟩
    have H2 := Lib.hid (And.intro h2 (And.intro hb2 hu2))
    have c3 := h2.a3.1.a
    have HM := Lib.hid h2.map
    clear h2 hb2 hu2 HK
    by_cases e1 : behind = 0
    · have e2 : (behind != 0) = false := by simpa using e1
      go_wp2_with fail
      refine bodyPost_end (v := .tuple #[]) (by simp [results, Try.results54, go_sem]) rfl ?_
      refine ⟨rfl, u2, ?_, H2.out.2.1, H2.out.2.2⟩
      have := H2.out.1
      subst e1
      unfold joined
      simp only [if_neg e0, if_pos]
      exact this
    · have e2 : (behind != 0) = true := by simpa using e1
      go_wp2_with (at_mapUpdate; refine wp_cput _ rfl _ _ _ rfl S.ab m.dom.length m.f m.dom rfl HM.out (by omega) behind o.p rfl rfl hb' haw ?_; intro w4 h4 g4)
      have h5 := H2.out.1.mapped g4 h4
      refine bodyPost_end (v := .tuple #[]) (by simp [results, Try.results54, go_sem]) rfl ?_
      refine ⟨rfl, u2, ?_, H2.out.2.1.trans h5.2, H2.out.2.2⟩
      have := h5.1
      unfold joined
      simp only [if_neg e0, if_neg e1]
      exact this
end
end Go.Proofs.Ythliahaopelooaa
