/- One call that is asked, what it is told; two lists held against each other; the document's example. -/
import Derived.Test.YtpnojoldcfghfaaExL
namespace Go.Proofs.Ytpnojoldcfghfaa
open Go.RowKit Go.Sort

def dAt (K n : Int) (L : List (Int × Int)) : Int := if K = 0 then tAt n L else 0
def dErr (F N K a n : Int) (L : List (Int × Int)) : Int := if K = 0 then tErr n L else gErr F N a n L
def Did (F N K a n : Int) (L M : List (Int × Int)) : Prop := if K = 0 then Took F (F + N) n L M else Given F (F + N) F N a n L M

set_option maxHeartbeats 1000000 in
theorem do_take (p g : Nat) (F N K a n : Int) (L : List (Int × Int)) (w : World) (hR : Room w p g F N L) (hk : K = 0) :
    Calls Try.prog 10 #[.pointer (some ⟨p, 0, none⟩), .agg #[.int .i64 K, .int .i64 a, .int .i64 n]] w fun e w' =>
      e = .returned (.agg #[.int .i64 (tAt n L), .int .i64 (tErr n L)]) ∧ ∃ g' M, Room w' p g' F N M ∧ Took F (F + N) n L M ∧ Apart p g w w' ∧ (g' = g ∨ w.heap.size ≤ g') := by
  subst hk
  have lp := hR.lp
  have lg := hR.lg
  have hal := ((Below.refl w.heap.size w).alloc (Nat.le_refl _) (.cells #[.int .i64 0, .int .i64 a, .int .i64 n] 35)).alloc (by simp) (.cells #[.int .i64 0, .int .i64 0] 32)
  have hR1 := hR.later hal
  have t0 : ((w.alloc (.cells #[.int .i64 0, .int .i64 a, .int .i64 n] 35)).alloc (.cells #[.int .i64 0, .int .i64 0] 32)).cell? ⟨w.heap.size + 1, 0, none⟩ = some (.int .i64 0) := by simp [go_sem]
  have t1 : ((w.alloc (.cells #[.int .i64 0, .int .i64 a, .int .i64 n] 35)).alloc (.cells #[.int .i64 0, .int .i64 0] 32)).cell? ⟨w.heap.size + 1, 1, none⟩ = some (.int .i64 0) := by simp [go_sem]
  have tz : ∀ j, ((w.alloc (.cells #[.int .i64 0, .int .i64 a, .int .i64 n] 35)).alloc (.cells #[.int .i64 0, .int .i64 0] 32)).frozen? ⟨w.heap.size + 1, j, none⟩ = false := by intro j; simp [go_sem]
  have ts : w.heap.size + 1 < ((w.alloc (.cells #[.int .i64 0, .int .i64 a, .int .i64 n] 35)).alloc (.cells #[.int .i64 0, .int .i64 0] 32)).heap.size := by simp
  have HR1 := Lib.hid hR1
  have HAL := Lib.hid hal
  have HT := Lib.hid (And.intro t0 (And.intro t1 (And.intro tz ts)))
  clear hR hR1 hal t0 t1 tz ts
  go_enter Try.func10, Try.ntmps10
  go_wp2_with fail
  refine (room_take p g F N n L _ HR1.out).mono ?_
  rintro e w2 ⟨rfl, g', M, hR2, hT, hq, hg'⟩
  obtain ⟨t0, t1, tz, ts⟩ := HT.out
  have c0 := hq.cell t0 (by simp; omega) (by simp; omega)
  have c1 := hq.cell t1 (by simp; omega) (by simp; omega)
  have z0 : w2.frozen? ⟨w.heap.size + 1, 0, none⟩ = false := (hq.frozen ts (by simp; omega) (by simp; omega)).trans (tz 0)
  have z1 : w2.frozen? ⟨w.heap.size + 1, 1, none⟩ = false := (hq.frozen ts (by simp; omega) (by simp; omega)).trans (tz 1)
  have hsz : w.heap.size + 2 ≤ w2.heap.size := by have := hq.size; simpa using this
  have hgn : g' = g ∨ w.heap.size + 2 ≤ g' := by simpa using hg'
  have HQ := Lib.hid ((Apart.of_below (p := p) (d := g) HAL.out).trans hq)
  have HR2 := Lib.hid hR2
  have HTK := Lib.hid hT
  clear hq hR2 t0 t1 tz ts hT hg'
  go_wp2_with fail
  have HR9 := Lib.hid (HR2.out.move (w' := (w2.setCell ⟨w.heap.size + 1, 0, none⟩ (.int .i64 (tAt n L))).setCell ⟨w.heap.size + 1, 1, none⟩ (.int .i64 (tErr n L))) ((Below.heap_setCell _ _ _ _ (by simp; omega)).trans (Below.heap_setCell _ _ _ _ (by simp; omega))) ((Below.heap_setCell _ _ _ _ (by simp; omega)).trans (Below.heap_setCell _ _ _ _ (by simp; omega))) (by simp [World.setCell]))
  have HQ9 := Lib.hid (HQ.out.then (c := (w2.setCell ⟨w.heap.size + 1, 0, none⟩ (.int .i64 (tAt n L))).setCell ⟨w.heap.size + 1, 1, none⟩ (.int .i64 (tErr n L))) (((Below.refl _ _).setCell (by simp) _).setCell (by simp) _))
  have e0 : ((w2.setCell ⟨w.heap.size + 1, 0, none⟩ (.int .i64 (tAt n L))).setCell ⟨w.heap.size + 1, 1, none⟩ (.int .i64 (tErr n L))).cell? ⟨w.heap.size + 1, 0, none⟩ = some (.int .i64 (tAt n L)) :=
    (World.cell?_setCell_other _ _ _ _ (by simp)).trans (World.cell?_setCell_same _ _ _ c0)
  have e1 : ((w2.setCell ⟨w.heap.size + 1, 0, none⟩ (.int .i64 (tAt n L))).setCell ⟨w.heap.size + 1, 1, none⟩ (.int .i64 (tErr n L))).cell? ⟨w.heap.size + 1, 1, none⟩ = some (.int .i64 (tErr n L)) :=
    World.cell?_setCell_same _ _ _ ((World.cell?_setCell_other _ _ _ _ (by simp)).trans c1)
  generalize ((w2.setCell ⟨w.heap.size + 1, 0, none⟩ (.int .i64 (tAt n L))).setCell ⟨w.heap.size + 1, 1, none⟩ (.int .i64 (tErr n L))) = w9 at HR9 HQ9 e0 e1 ⊢
  refine bodyPost_ret (v := .agg #[.int .i64 (tAt n L), .int .i64 (tErr n L)]) (by simp [results, Try.results10, go_sem, e0, e1]) rfl ⟨rfl, g', M, HR9.out, HTK.out, HQ9.out, by omega⟩

set_option maxHeartbeats 1000000 in
theorem do_give (p g : Nat) (F N K a n : Int) (L : List (Int × Int)) (w : World) (hR : Room w p g F N L) (hk : ¬ K = 0) (ha : a ≤ 9223372036854775807) :
    Calls Try.prog 10 #[.pointer (some ⟨p, 0, none⟩), .agg #[.int .i64 K, .int .i64 a, .int .i64 n]] w fun e w' =>
      e = .returned (.agg #[.int .i64 0, .int .i64 (gErr F N a n L)]) ∧ ∃ g' M, Room w' p g' F N M ∧ Given F (F + N) F N a n L M ∧ Apart p g w w' ∧ (g' = g ∨ w.heap.size ≤ g') := by
  have lp := hR.lp
  have lg := hR.lg
  have hal := ((Below.refl w.heap.size w).alloc (Nat.le_refl _) (.cells #[.int .i64 K, .int .i64 a, .int .i64 n] 35)).alloc (by simp) (.cells #[.int .i64 0, .int .i64 0] 32)
  have hR1 := hR.later hal
  have t0 : ((w.alloc (.cells #[.int .i64 K, .int .i64 a, .int .i64 n] 35)).alloc (.cells #[.int .i64 0, .int .i64 0] 32)).cell? ⟨w.heap.size + 1, 0, none⟩ = some (.int .i64 0) := by simp [go_sem]
  have t1 : ((w.alloc (.cells #[.int .i64 K, .int .i64 a, .int .i64 n] 35)).alloc (.cells #[.int .i64 0, .int .i64 0] 32)).cell? ⟨w.heap.size + 1, 1, none⟩ = some (.int .i64 0) := by simp [go_sem]
  have tz : ∀ j, ((w.alloc (.cells #[.int .i64 K, .int .i64 a, .int .i64 n] 35)).alloc (.cells #[.int .i64 0, .int .i64 0] 32)).frozen? ⟨w.heap.size + 1, j, none⟩ = false := by intro j; simp [go_sem]
  have ts : w.heap.size + 1 < ((w.alloc (.cells #[.int .i64 K, .int .i64 a, .int .i64 n] 35)).alloc (.cells #[.int .i64 0, .int .i64 0] 32)).heap.size := by simp
  have HR1 := Lib.hid hR1
  have HAL := Lib.hid hal
  have HT := Lib.hid (And.intro t0 (And.intro t1 (And.intro tz ts)))
  clear hR hR1 hal t0 t1 tz ts
  go_enter Try.func10, Try.ntmps10
  go_wp2_with fail
  refine (room_give p g F N a n L _ HR1.out ha).mono ?_
  rintro e w2 ⟨rfl, g', M, hR2, hT, hq, hg'⟩
  obtain ⟨t0, t1, tz, ts⟩ := HT.out
  have c0 := hq.cell t0 (by simp; omega) (by simp; omega)
  have c1 := hq.cell t1 (by simp; omega) (by simp; omega)
  have z0 : w2.frozen? ⟨w.heap.size + 1, 0, none⟩ = false := (hq.frozen ts (by simp; omega) (by simp; omega)).trans (tz 0)
  have z1 : w2.frozen? ⟨w.heap.size + 1, 1, none⟩ = false := (hq.frozen ts (by simp; omega) (by simp; omega)).trans (tz 1)
  have hsz : w.heap.size + 2 ≤ w2.heap.size := by have := hq.size; simpa using this
  have hgn : g' = g ∨ w.heap.size + 2 ≤ g' := by simpa using hg'
  have HQ := Lib.hid ((Apart.of_below (p := p) (d := g) HAL.out).trans hq)
  have HR2 := Lib.hid hR2
  have HTK := Lib.hid hT
  clear hq hR2 t0 t1 tz ts hT hg'
  go_wp2_with fail
  have HR9 := Lib.hid (HR2.out.move (w' := (w2.setCell ⟨w.heap.size + 1, 0, none⟩ (.int .i64 0)).setCell ⟨w.heap.size + 1, 1, none⟩ (.int .i64 (gErr F N a n L))) ((Below.heap_setCell _ _ _ _ (by simp; omega)).trans (Below.heap_setCell _ _ _ _ (by simp; omega))) ((Below.heap_setCell _ _ _ _ (by simp; omega)).trans (Below.heap_setCell _ _ _ _ (by simp; omega))) (by simp [World.setCell]))
  have HQ9 := Lib.hid (HQ.out.then (c := (w2.setCell ⟨w.heap.size + 1, 0, none⟩ (.int .i64 0)).setCell ⟨w.heap.size + 1, 1, none⟩ (.int .i64 (gErr F N a n L))) (((Below.refl _ _).setCell (by simp) _).setCell (by simp) _))
  have e0 : ((w2.setCell ⟨w.heap.size + 1, 0, none⟩ (.int .i64 0)).setCell ⟨w.heap.size + 1, 1, none⟩ (.int .i64 (gErr F N a n L))).cell? ⟨w.heap.size + 1, 0, none⟩ = some (.int .i64 0) :=
    (World.cell?_setCell_other _ _ _ _ (by simp)).trans (World.cell?_setCell_same _ _ _ c0)
  have e1 : ((w2.setCell ⟨w.heap.size + 1, 0, none⟩ (.int .i64 0)).setCell ⟨w.heap.size + 1, 1, none⟩ (.int .i64 (gErr F N a n L))).cell? ⟨w.heap.size + 1, 1, none⟩ = some (.int .i64 (gErr F N a n L)) :=
    World.cell?_setCell_same _ _ _ ((World.cell?_setCell_other _ _ _ _ (by simp)).trans c1)
  generalize ((w2.setCell ⟨w.heap.size + 1, 0, none⟩ (.int .i64 0)).setCell ⟨w.heap.size + 1, 1, none⟩ (.int .i64 (gErr F N a n L))) = w9 at HR9 HQ9 e0 e1 ⊢
  refine bodyPost_ret (v := .agg #[.int .i64 0, .int .i64 (gErr F N a n L)]) (by simp [results, Try.results10, go_sem, e0, e1]) rfl ⟨rfl, g', M, HR9.out, HTK.out, HQ9.out, by omega⟩

theorem do_any (p g : Nat) (F N K a n : Int) (L : List (Int × Int)) (w : World) (hR : Room w p g F N L) (ha : a ≤ 9223372036854775807) :
    Calls Try.prog 10 #[.pointer (some ⟨p, 0, none⟩), .agg #[.int .i64 K, .int .i64 a, .int .i64 n]] w fun e w' =>
      e = .returned (.agg #[.int .i64 (dAt K n L), .int .i64 (dErr F N K a n L)]) ∧ ∃ g' M, Room w' p g' F N M ∧ Did F N K a n L M ∧ Apart p g w w' ∧ (g' = g ∨ w.heap.size ≤ g') := by
  unfold dAt dErr Did
  by_cases hk : K = 0
  · simp only [if_pos hk]
    exact do_take p g F N K a n L w hR hk
  · simp only [if_neg hk]
    exact do_give p g F N K a n L w hR hk ha

set_option maxHeartbeats 1000000 in
/-- Same, of two lists that are the same. -/
theorem same_any (ao bo : Option Addr) (n c d : Nat) (L : List (Int × Int)) (w : World) (hn : L.length = n) (ha : Listed w ao L) (hb : Listed w bo L) (hs : n ≤ 100000) :
    Calls Try.prog 12 #[.slice ao n c, .slice bo n d] w fun e w' => e = .returned (.bool true) ∧ Below w.heap.size w w' := by
  have he : ∀ (x y : Int) (W : World), (Op.equalIn 10000 45 (.agg #[.int .i64 x, .int .i64 y]) (.agg #[.int .i64 x, .int .i64 y])).run Try.prog W = .ok true W := fun x y W => by
    rw [eqIn_pair _ Try.underlying45]
    simp
  have hcell : ∀ k, k < n → ∃ x p q, ao = some ⟨p, 0, none⟩ ∧ bo = some ⟨q, 0, none⟩ ∧ p < w.heap.size ∧ q < w.heap.size ∧ w.cell? ⟨p, k * 2, none⟩ = some (.int .i64 x.1) ∧ w.cell? ⟨p, k * 2 + 1, none⟩ = some (.int .i64 x.2) ∧ w.cell? ⟨q, k * 2, none⟩ = some (.int .i64 x.1) ∧ w.cell? ⟨q, k * 2 + 1, none⟩ = some (.int .i64 (x : Int × Int).2) := fun k hk => by
    obtain ⟨p, e1, l1, h1⟩ := ha (by omega)
    obtain ⟨q, e2, l2, h2⟩ := hb (by omega)
    have hx : L[k]? = some L[k] := List.getElem?_eq_getElem (by omega)
    exact ⟨L[k], p, q, e1, e2, l1, l2, (h1 k _ hx).1, (h1 k _ hx).2, (h2 k _ hx).1, (h2 k _ hx).2⟩
  have HC := Lib.hid hcell
  have HE := Lib.hid he
  clear hcell ha hb hn he
  go_enter Try.func12, Try.ntmps12
  go_wp2_with fail
  go_loopw [5] (fun s wr => ∃ k : Nat, k ≤ n ∧ s = .int .i64 k ∧ Below w.heap.size w wr) (fun s _ => n - (intOf s).toNat)
  case atStart => exact ⟨0, Nat.zero_le _, rfl, Below.refl _ w⟩
  case round =>
    obtain ⟨k, hk, rfl, hB⟩ := hrel
    by_cases hlt : k < n
    · have hlt' : (k : Int) < (n : Int) := by omega
      obtain ⟨⟨x, y⟩, p, q, rfl, rfl, lp, lq, c0, c1, c2, c3⟩ := HC.out k hlt
      replace c0 := (hB.cell (p := ⟨p, k * 2, none⟩) lp).trans c0
      replace c1 := (hB.cell (p := ⟨p, k * 2 + 1, none⟩) lp).trans c1
      replace c2 := (hB.cell (p := ⟨q, k * 2, none⟩) lq).trans c2
      replace c3 := (hB.cell (p := ⟨q, k * 2 + 1, none⟩) lq).trans c3
      have hE := HE.out x y
      simp only at c0 c1 c2 c3
      have HB := Lib.hid hB
      clear hB
      go_wp2_with fail
      go_quiet (fail)
      go_wp2_with fail
      go_roundw
      case rel => exact ⟨k + 1, by omega, by go_num, onB HB.out ⟨rfl, rfl, rfl, Nat.le_refl _, fun _ _ => rfl⟩⟩
      case measure => simp [intOf]; omega
    · obtain rfl : k = n := by omega
      have HB := Lib.hid hB
      clear hB
      go_wp2_with fail
      go_ret
      exact ⟨rfl, HB.out⟩

end Go.Proofs.Ytpnojoldcfghfaa
