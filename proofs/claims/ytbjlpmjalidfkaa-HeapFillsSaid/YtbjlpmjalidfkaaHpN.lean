/- Objects apart: their words, other ones' words, links. -/
import Derived.Test.YtbjlpmjalidfkaaHpM
namespace Go.Proofs.Ytbjlpmjalidfkaa
open Go.RowKit

/-- Where an object of a size lies: no link is a word of it, but its own two. -/
structure Obj1 (x : HSpot) (R : Nat → Rows) (c s : Int) : Prop where
  one : 1 ≤ c
  le : c + s + 3 ≤ x.n
  links : ∀ i, i ≤ x.k → ∀ q, Links (R i) q → (q : Int) < c ∨ (q : Int) = c + 1 ∨ (q : Int) = c + 2 ∨ c + s + 3 ≤ q
theorem Obj1.word {x : HSpot} {R : Nat → Rows} {c s : Int} (h : Obj1 x R c s) (hs : 0 ≤ s) : ∀ i, i ≤ x.k → ∀ q, Links (R i) q → (q : Int) ≠ c := fun i hi q hq => by
  have := h.links i hi q hq
  omega
theorem Obj1.words {x : HSpot} {R : Nat → Rows} {c s : Int} (h : Obj1 x R c s) {j : Int} (hj : 0 ≤ j ∧ j < s) : ∀ i, i ≤ x.k → ∀ q, Links (R i) q → (q : Int) ≠ c + 3 + j := fun i hi q hq => by
  have := h.links i hi q hq
  omega

theorem HInv.obj {x : HSpot} {D : Nat → Int} {R : Nat → Rows} {top : Int} {L : List (Int × Int)} (h : HInv x D R top L) {i : Nat} (hi : i ≤ x.k) {c s : Int} (hc : c ∈ (R i).all) (hw : s + 3 ≤ wid x D i c) : Obj1 x R c s := by
  refine ⟨h.one i hi c hc, ?_, fun i' hi' q hq => ?_⟩
  · by_cases g : i < x.k
    · have h1 := h.cell i g c hc
      have h2 : wid x D i c = x.sz i + 3 := by unfold wid; rw [if_pos g]
      have := h.t1
      have := h.ln
      omega
    · obtain rfl : i = x.k := by omega
      have := (h.big c hc).2.1
      omega
  · obtain ⟨b, hb, hq⟩ := hq
    by_cases e : i' = i ∧ b = c
    · omega
    · have h1 := h.apart i' hi' i hi b hb c hc (fun e1 e2 => e ⟨e1, e2⟩)
      have h2 := wid_three h i' b
      omega
/-- A new object's cell is none of those that others have. -/
theorem AllocP.ne {x : HSpot} {D : Nat → Int} {R : Nat → Rows} {top : Int} {L : List (Int × Int)} {size at' : Int} {R' : Nat → Rows} {top' : Int} {M : List (Int × Int)} (h : AllocP x R top L size at' R' top' M) (hI : HInv x D R top L) (hG : Ex.Good x.lim (x.lim + (x.n - x.lim : Int)) L) (hs : 0 ≤ size) {i : Nat} (hi : i ≤ x.k) (hnd : (R i).all.Nodup)
    {c : Int} (hc : c ∈ (R i).all) (hw : c ∉ (R i).white) : c ≠ at' := by
  have t1 := hI.t1
  cases h with
  | white j hC hj l hwj hR ht hM =>
    have hm : at' ∈ (R j).white := by rw [hwj]; exact List.mem_cons_self ..
    intro e
    by_cases ej : i = j
    · subst ej
      exact hw (e ▸ hm)
    · have h1 := hI.far i hi j (by omega) ej c hc at' (List.mem_append_left _ hm)
      omega
  | fresh j hC hj hwj hr ha hR ht hM =>
    intro e
    by_cases ek : i = x.k
    · subst ek
      have := (hI.big c hc).1
      have := hI.sz j hj
      omega
    · have := hI.cell i (by omega) c hc
      have := hI.sz i (by omega)
      omega
  | big hC he ha hR ht hM =>
    obtain ⟨s1, s2, s3⟩ := spot_cov hG (by omega) he
    rw [← ha] at s1 s2 s3
    intro e
    by_cases ek : i = x.k
    · subst ek
      exact (hI.big c hc).2.2 c (Int.le_refl _) (by have := wid_three hI x.k c; omega) (s3 c (by omega) (by omega))
    · have := hI.cell i (by omega) c hc
      have := hI.sz i (by omega)
      omega
theorem Cls.wid {x : HSpot} {D : Nat → Int} {size : Int} {i : Nat} {c : Int} (hC : Cls x.sz x.k size i) (h : i = x.k → Ce.sb (D c.toNat) = size) : size + 3 ≤ wid x D i c := by
  unfold Go.Proofs.Ytbjlpmjalidfkaa.wid
  have := hC.le
  by_cases g : i < x.k
  · have := hC.fits g
    rw [if_pos g]
    omega
  · rw [if_neg g, h (by omega)]
    omega

theorem putW_other {D : Nat → Int} {i v : Int} {m : Nat} (h : m ≠ i.toNat) : putW D i v m = D m := if_neg h
theorem putW_same {D : Nat → Int} {i v : Int} : putW D i v i.toNat = v := if_pos rfl
theorem Head.other {D : Nat → Int} {c k s a m i v : Int} (h : Head D c k s a m) (hc : c.toNat ≠ i.toNat) : Head (putW D i v) c k s a m := ⟨h.fit, (putW_other hc).trans h.word⟩

/-- What is not there yet is nobody's. -/
def retag (T : Nat → Nat) (z : Nat) : Nat → Nat := fun b => if b < z then T b else 1000
theorem HLies.retag {x : HSpot} {T : Nat → Nat} {D : Nat → Int} {R : Nat → Rows} {top par : Int} {L : List (Int × Int)} {w : World} (h : HLies x T D R top par L w) :
    HLies x (Go.Proofs.Ytbjlpmjalidfkaa.retag T w.heap.size) D R top par L w ∧ HTurn T (Go.Proofs.Ytbjlpmjalidfkaa.retag T w.heap.size) w w := by
  obtain ⟨cb, cap, g, hT, hc, hcs, hR⟩ := h.rest
  obtain ⟨u, hu⟩ := h.at
  have t : ∀ b, b < w.heap.size → Go.Proofs.Ytbjlpmjalidfkaa.retag T w.heap.size b = T b := fun b hb => if_pos hb
  have lcb : cb < w.heap.size := World.block_lt_of_cell? _ _ (hcs 0 (by have := h.k1; omega)).1
  exact ⟨⟨h.arena, h.large, h.room, h.top, h.lim, h.par, h.fz, h.rings, h.sp, h.k1, h.k6, cb, cap, g, ⟨(t _ h.lh).trans hT.h, (t _ lcb).trans hT.cb, (t _ hu.lp).trans hT.p, (t _ hu.ld).trans hT.d, (t _ hR.lp).trans hT.rp, (t _ hR.lg).trans hT.g, fun i hi b hb => (t _ ((h.rings i hi).under.2.2 b hb)).trans (hT.s i hi b hb)⟩, hc, hcs, hR⟩,
    rfl, rfl, rfl, Nat.le_refl _, fun b hb hb2 => ⟨(t b hb).trans hb2, rfl⟩⟩

end Go.Proofs.Ytbjlpmjalidfkaa
