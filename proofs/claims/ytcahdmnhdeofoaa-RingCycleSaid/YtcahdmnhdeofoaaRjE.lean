/- The document's question whether cells are linked, both ways, all around. -/
import Derived.Test.YtcahdmnhdeofoaaRjC
namespace Go.Proofs.Ytcahdmnhdeofoaa
open Go.RowKit Go.Shelf

theorem chain_get {D : Nat → Int} : ∀ {l : List Int} {k : Nat} {a b : Int}, Chain D l → l[k]? = some a → l[k + 1]? = some b → Jn D a b
  | [], _, _, _, _, h, _ => by simp at h
  | [_], k, _, _, _, _, h => by simp at h
  | x :: y :: l, 0, a, b, h, h1, h2 => by
    simp at h1 h2
    subst h1 h2
    exact h.1
  | x :: y :: l, k + 1, a, b, h, h1, h2 => chain_get (l := y :: l) (k := k) h.2 (by simpa using h1) (by simpa using h2)

theorem cyc_get {D : Nat → Int} {L : List Int} (h : Cyc D L) {i : Nat} (hi : i < L.length) {x y : Int} (hx : L[i]? = some x) (hy : L[(i + 1) % L.length]? = some y) : Jn D x y := by
  cases L with
  | nil => exact absurd hi (Nat.not_lt_zero _)
  | cons z l =>
    have h' : Chain D ((z :: l) ++ [z]) := h
    refine chain_get (k := i) h' ?_ ?_
    · rw [List.getElem?_append_left hi]
      exact hx
    · rcases Nat.lt_or_eq_of_le (Nat.succ_le_of_lt hi) with h1 | h1
      · rw [Nat.mod_eq_of_lt h1] at hy
        rw [List.getElem?_append_left h1]
        exact hy
      · have h1' : i + 1 = (z :: l).length := h1
        rw [h1', Nat.mod_self] at hy
        rw [h1', List.getElem?_append_right (Nat.le_refl _), Nat.sub_self]
        exact hy

set_option maxHeartbeats 4000000 in
theorem ref_linked (w : World) (c n cap : Nat) (D : Nat → Int) (hT : Told w c n D) (hn : n ≤ 65536) (v : Value) (L : List Int) (lo hi : Nat) (hL : Row w lo hi v L) (hs : L.length ≤ 1000) (hC : Cyc D L) (hF : Fit n L) :
    Calls Try.prog 16 #[.slice (some ⟨c, 0, none⟩) n cap, v] w fun e w' => e = .returned (.bool true) ∧ Below w.heap.size w w' := by
  obtain ⟨ao, ac, rfl, hao⟩ := hL
  have HT := Lib.hid hT
  have HC := Lib.hid (And.intro hC hF)
  have HX := Lib.hid hao
  clear hT hC hF hao
  have k0 : IntKind.i64.wrap ((n : Int) - 3) = (n : Int) - 3 := by rw [IntKind.wrap_i64]; omega
  go_enter Try.func16, Try.ntmps16
  go_wp2_with fail
  go_loopw [5] (fun s5 wr => ∃ i : Nat, i ≤ L.length ∧ s5 = .int .i64 i ∧ Below w.heap.size w wr) (fun s5 _ => L.length - (intOf s5).toNat)
  case atStart => exact ⟨0, Nat.zero_le _, rfl, Below.refl _ _⟩
  case round =>
    obtain ⟨i, hi, rfl, hb⟩ := hrel
    by_cases hlt : i < L.length
    · have hlt' : (i : Int) < (L.length : Int) := by omega
      have hj : (i + 1) % L.length < L.length := Nat.mod_lt _ (by omega)
      have hLi : L[i]? = some (L[i]'hlt) := List.getElem?_eq_getElem hlt
      have hLj : L[(i + 1) % L.length]? = some (L[(i + 1) % L.length]'hj) := List.getElem?_eq_getElem hj
      obtain ⟨x0, x1⟩ := HC.out.2.rng _ (List.getElem_mem hlt)
      obtain ⟨y0, y1⟩ := HC.out.2.rng _ (List.getElem_mem hj)
      generalize L[i]'hlt = x at hLi x0 x1
      generalize L[(i + 1) % L.length]'hj = y at hLj y0 y1
      obtain ⟨j1, j2⟩ := cyc_get HC.out.1 hlt hLi hLj
      obtain ⟨g, rfl, hg1, hg2, hgc⟩ := HX.out (by omega)
      have cx := later' hb (hgc i x hLi)
      have cy := later' hb (hgc _ y hLj)
      have d1 := (HT.out.later hb).data (x + 1).toNat (by omega)
      have d2 := (HT.out.later hb).data (y + 2).toNat (by omega)
      rw [j1] at d1
      rw [j2] at d2
      have hm : ((i : Int) + 1).tmod (L.length : Int) = (((i + 1) % L.length : Nat) : Int) := by
        rw [show ((i : Int) + 1) = ((i + 1 : Nat) : Int) by simp, ← Int.ofNat_tmod]
      have hj' : (((i + 1) % L.length : Nat) : Int) < (L.length : Int) := by omega
      generalize (i + 1) % L.length = j at *
      have hw1 : IntKind.i64.wrap ((i : Int) + 1) = (i : Int) + 1 := by rw [IntKind.wrap_i64]; omega
      have hz : ((L.length : Int) == 0) = false := by
        have : (L.length : Int) ≠ 0 := by omega
        simpa using this
      have k1 : IntKind.i64.wrap (x + 1) = x + 1 := by rw [IntKind.wrap_i64]; omega
      have k2 : IntKind.i64.wrap (y + 2) = y + 2 := by rw [IntKind.wrap_i64]; omega
      have k3 : IntKind.i64.wrap x = x := by rw [IntKind.wrap_i64]; omega
      have k4 : IntKind.i64.wrap y = y := by rw [IntKind.wrap_i64]; omega
      have g1 : decide (x < 0) = false := decide_eq_false (by omega)
      have g2 : decide ((n : Int) - 3 < x) = false := decide_eq_false (by omega)
      have g3 : decide (y < 0) = false := decide_eq_false (by omega)
      have g4 : decide ((n : Int) - 3 < y) = false := decide_eq_false (by omega)
      have i1 : 0 ≤ x + 1 := by omega
      have i2 : x + 1 < (n : Int) := by omega
      have i3 : 0 ≤ y + 2 := by omega
      have i4 : y + 2 < (n : Int) := by omega
      have HB := Lib.hid hb
      clear hb hgc HX HC HT hLi hLj j1 j2
      go_upto_region 5 with fail
      go_quiet (fail)
      go_wp2_with fail
      exact ⟨⟨i + 1, by omega, by go_num, onB' HB.out ⟨rfl, rfl, rfl, Nat.le_refl _, fun _ _ => rfl⟩⟩, by simp [intOf]; omega⟩
    · obtain rfl : i = L.length := by omega
      have HB := Lib.hid hb
      clear hb HX HT HC
      go_wp2_with fail
      go_ret
      exact ⟨rfl, HB.out⟩

end Go.Proofs.Ytcahdmnhdeofoaa
