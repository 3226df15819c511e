/- The list of room's runs, and how many places are free. -/
import Derived.Test.YtpnojoldcfghfaaExJ
namespace Go.Proofs.Ytpnojoldcfghfaa
open Go.RowKit Go.Sort

theorem Try.info_two : (Try.prog.info? 45).map (fun i => (i.zero, i.size, i.bytes)) = some (some (.agg #[.int .i64 0, .int .i64 0]), 2, 16) := by kernel_rfl

/-- A list that is told. -/
def Listed (w : World) (ao : Option Addr) (L : List (Int × Int)) : Prop :=
  0 < L.length → ∃ b, ao = some ⟨b, 0, none⟩ ∧ b < w.heap.size ∧ ∀ k x, L[k]? = some x → w.cell? ⟨b, k * 2, none⟩ = some (.int .i64 x.1) ∧ w.cell? ⟨b, k * 2 + 1, none⟩ = some (.int .i64 x.2)
theorem Listed.later {w w' : World} {ao : Option Addr} {L : List (Int × Int)} (h : Listed w ao L) (hb : Below w.heap.size w w') : Listed w' ao L := fun hl => by
  obtain ⟨b, e, hlt, hc⟩ := h hl
  exact ⟨b, e, Nat.lt_of_lt_of_le hlt hb.size, fun k x hx => ⟨(hb.cell (p := ⟨b, k * 2, none⟩) hlt).trans (hc k x hx).1, (hb.cell (p := ⟨b, k * 2 + 1, none⟩) hlt).trans (hc k x hx).2⟩⟩
theorem Listed.of_own {w : World} {B n : Nat} {v : Value} {L : List (Int × Int)} (h : w.ownsRow B 45 2 v n (flat L)) (hn : L.length = n) : ∃ ao c, v = .slice ao n c ∧ Listed w ao L := by
  subst hn
  rcases h.2 with ⟨rfl, h0⟩ | ⟨g, cap, cur, rfl, _, hg, _⟩
  · exact ⟨none, 0, by rw [h0], fun hl => by omega⟩
  · refine ⟨some ⟨g, 0, none⟩, cap, rfl, fun _ => ⟨g, rfl, ?_, fun k x hx => ?_⟩⟩
    · rcases Nat.lt_or_ge g w.heap.size with h' | h'
      · exact h'
      · rw [Array.getElem?_eq_none h'] at hg; cases hg
    · have hk : k < L.length := (List.getElem?_eq_some_iff.1 hx).1
      have := flat_get hx
      exact ⟨(World.ownsRow.cellAt h (k * 2) (by omega)).trans this.1, (World.ownsRow.cellAt h (k * 2 + 1) (by omega)).trans this.2⟩
theorem total_step {L : List (Int × Int)} {k : Nat} {x : Int × Int} (h : L[k]? = some x) : total (L.take (k + 1)) = total (L.take k) + x.2 := by
  have hk : k < L.length := (List.getElem?_eq_some_iff.1 h).1
  have e : L[k] = x := by rw [List.getElem?_eq_getElem hk] at h; simpa using h
  rw [List.take_succ_eq_append_getElem hk, total_append, e]
  simp [total]
theorem total_bound {lo hi : Int} {L : List (Int × Int)} (h : Good lo hi L) (hl : lo ≤ hi) (k : Nat) : 0 ≤ total (L.take k) ∧ total (L.take k) ≤ hi - lo :=
  good_total (good_left (B := L.drop k) (by rw [List.take_append_drop]; exact h)) hl

theorem blk2 (w : World) (o1 o2 : Obj) : ((w.alloc o1).alloc o2).heap[w.heap.size + 1]? = some o2 := by
  have := heap_alloc_new (w.alloc o1) o2
  simpa using this

/-- A pair more, behind a row that the call makes. -/
theorem append_pair {ops : Array Oper} {rest : List Oper} {o : Oper} {a : Act} {Q : Exit → Act → World → Prop} (W : World) (hgd : o.guard = none) (s x : Operand)
    (ho : o.op = .call { callee := .builtin .append, args := #[s, x], argTypes := #[38, 38] }) (B k : Nat) (v : Value) (L : List (Int × Int)) (y : Int × Int) (b : Nat) (hs : a.eval s = v) (hown : W.ownsRow B 45 2 v k (flat L))
    (hx : a.eval x = .slice (some ⟨b, 0, none⟩) 1 1) (hb : W.heap[b]? = some (.cells #[.int .i64 y.1, .int .i64 y.2] 45 (0, 0))) (hk : k ≤ 100000) (hB : B ≤ W.heap.size)
    (h : ∀ g cap w', w'.ownsRow B 45 2 (.slice (some ⟨g, 0, none⟩) (k + 1) cap) (k + 1) (flat (L ++ [y])) → W.grownBy w' v.ownBlock → wpList Try.prog ops Q rest (a.put o.dst (.slice (some ⟨g, 0, none⟩) (k + 1) cap)) w') : wpList Try.prog ops Q (o :: rest) a W := by
  obtain ⟨i0, hi0, hz0, hzs, hzb⟩ := info_parts Try.info_two
  refine wpList_append_lies W hgd s x 38 ho B 45 i0 _ 2 16 Try.underlying38 hi0 hz0 hzs hzb rfl (by decide) v k (flat L) hs hown ⟨b, 0, none⟩ 1 1 [Value.int .i64 y.1, .int .i64 y.2] hx rfl (World.news_of_block hb) (by intro u hu; simp at hu; rcases hu with rfl | rfl <;> rfl) (by decide) (by unfold maxLen; omega) (by omega) hB W.heap.size rfl ?_
  intro g cap w' h1 h2 _ _
  refine h g cap w' ?_ h2
  rw [flat_append]
  exact h1
theorem below_row {B k : Nat} {w W w' : World} {v : Value} {xs : List Value} (h : Below B w W) (hB : B ≤ W.heap.size) (hO : W.ownsRow B 45 2 v k xs) (hg : W.grownBy w' v.ownBlock) : Below B w w' :=
  h.grown hg hB (fun j hj => (hO.lt j hj).1)
theorem take_one {L : List (Int × Int)} {k : Nat} {x : Int × Int} (h : L[k]? = some x) : L.take k ++ [x] = L.take (k + 1) := by
  have hk : k < L.length := (List.getElem?_eq_some_iff.1 h).1
  have e : L[k] = x := by rw [List.getElem?_eq_getElem hk] at h; simpa using h
  rw [List.take_succ_eq_append_getElem hk, e]

set_option maxHeartbeats 4000000 in
/-- List. -/
theorem list_at (p g cap : Nat) (F N : Int) (L : List (Int × Int)) (w : World) (hA : At w p g cap F N L) (hs : L.length ≤ 100000) :
    Calls Try.prog 13 #[.pointer (some ⟨p, 0, none⟩)] w fun e w' => ∃ ao c, e = .returned (.slice ao L.length c) ∧ Listed w' ao L ∧ Below w.heap.size w w' := by
  obtain ⟨i0, hi0, hz0, hzs, hzb⟩ := info_parts Try.info_two
  have hf := hA.free
  have lg := hA.lg
  obtain ⟨m, hm⟩ : ∃ m, L.length = m := ⟨_, rfl⟩
  rw [hm] at hf hs
  have hcell : ∀ k, k < m → ∃ x, L[k]? = some x ∧ w.cell? ⟨g, k * 2, none⟩ = some (.int .i64 x.1) ∧ w.cell? ⟨g, k * 2 + 1, none⟩ = some (.int .i64 x.2) := fun k hk => by
    have hx : L[k]? = some L[k] := List.getElem?_eq_getElem (by omega)
    exact ⟨_, hx, hA.own.cell hx⟩
  have HC := Lib.hid hcell
  have HM := Lib.hid hm
  rw [hm]
  clear hcell hA hm
  go_enter Try.func13, Try.ntmps13
  go_wp2_with fail
  go_loopw [3, 5, 11] (fun s3 _ s11 wr => ∃ k : Nat, k ≤ m ∧ s11 = .int .i64 k ∧ wr.ownsRow w.heap.size 45 2 s3 k (flat (L.take k)) ∧ Below w.heap.size w wr) (fun _ _ s11 _ => m - (intOf s11).toNat)
  case atStart => exact ⟨0, Nat.zero_le _, rfl, World.ownsRow_nil _ _ _ _, Below.refl _ w⟩
  case round =>
    obtain ⟨k, hk, rfl, hO, hB⟩ := hrel
    by_cases hlt : k < m
    · have hlt' : (k : Int) < (m : Int) := by omega
      obtain ⟨⟨xa, xn⟩, hx, c0, c1⟩ := HC.out k hlt
      replace c0 := (hB.cell (p := ⟨g, k * 2, none⟩) lg).trans c0
      replace c1 := (hB.cell (p := ⟨g, k * 2 + 1, none⟩) lg).trans c1
      have hbs := hB.size
      have HX := Lib.hid hx
      have HO := Lib.hid hO
      have HB := Lib.hid hB
      clear hx hO hB
      go_wp2_with (at_builtin; refine append_pair _ rfl _ _ rfl w.heap.size k _ (L.take k) (xa, xn) (wr.heap.size + 1) rfl ((HO.out.alloc _).alloc _) rfl (blk2 _ _ _) (by omega) (by simp; omega) ?_; intro g' cap' w1 hown hgr)
      have hB9 := below_row ((HB.out.alloc hbs (.cells #[.int .i64 xa, .int .i64 xn] 50)).alloc (by simp; omega) (.cells #[.int .i64 xa, .int .i64 xn] 45)) (by simp; omega) ((HO.out.alloc _).alloc _) hgr
      rw [take_one HX.out] at hown
      have HO9 := Lib.hid hown
      have HB9 := Lib.hid hB9
      clear hown hgr hB9 c0 c1
      go_wp2_with fail
      go_roundw
      case rel => exact ⟨k + 1, by omega, by go_num, HO9.out, HB9.out⟩
      case measure => simp [intOf]; omega
    · obtain rfl : k = m := by omega
      rw [List.take_of_length_le (by have := HM.out; omega)] at hO
      obtain ⟨ao, c, rfl, hL⟩ := Listed.of_own hO HM.out
      have HL := Lib.hid hL
      have HB := Lib.hid hB
      clear hO hB hL
      go_wp2_with fail
      go_ret
      exact ⟨_, _, rfl, HL.out, HB.out⟩

set_option maxHeartbeats 4000000 in
/-- Free. -/
theorem free_at (p g cap : Nat) (F N : Int) (L : List (Int × Int)) (w : World) (hA : At w p g cap F N L) (hs : L.length ≤ 100000) (hG : Good F (F + N) L) (hN : 0 ≤ N) (hN2 : N ≤ 100000) :
    Calls Try.prog 15 #[.pointer (some ⟨p, 0, none⟩)] w fun e w' => e = .returned (.int .i64 (total L)) ∧ Below w.heap.size w w' := by
  have hf := hA.free
  have lg := hA.lg
  obtain ⟨m, hm⟩ : ∃ m, L.length = m := ⟨_, rfl⟩
  rw [hm] at hf hs
  have hcell : ∀ k, k < m → ∃ x, L[k]? = some x ∧ w.cell? ⟨g, k * 2, none⟩ = some (.int .i64 x.1) ∧ w.cell? ⟨g, k * 2 + 1, none⟩ = some (.int .i64 x.2) := fun k hk => by
    have hx : L[k]? = some L[k] := List.getElem?_eq_getElem (by omega)
    exact ⟨_, hx, hA.own.cell hx⟩
  have HC := Lib.hid hcell
  have HT := Lib.hid (fun k => total_bound hG (by omega) k)
  have HM := Lib.hid hm
  clear hcell hA hm hG
  go_enter Try.func15, Try.ntmps15
  go_wp2_with fail
  go_loopw [3, 5, 11] (fun s3 _ s11 wr => ∃ k : Nat, k ≤ m ∧ s11 = .int .i64 k ∧ s3 = .int .i64 (total (L.take k)) ∧ Below w.heap.size w wr) (fun _ _ s11 _ => m - (intOf s11).toNat)
  case atStart => exact ⟨0, Nat.zero_le _, rfl, rfl, Below.refl _ w⟩
  case round =>
    obtain ⟨k, hk, rfl, rfl, hB⟩ := hrel
    by_cases hlt : k < m
    · have hlt' : (k : Int) < (m : Int) := by omega
      obtain ⟨⟨xa, xn⟩, hx, c0, c1⟩ := HC.out k hlt
      replace c0 := (hB.cell (p := ⟨g, k * 2, none⟩) lg).trans c0
      replace c1 := (hB.cell (p := ⟨g, k * 2 + 1, none⟩) lg).trans c1
      have hbs := hB.size
      have t0 := HT.out k
      have t1 := HT.out (k + 1)
      rw [total_step hx] at t1
      have HX := Lib.hid (total_step hx)
      have HB := Lib.hid (hB.alloc hbs (.cells #[.int .i64 xa, .int .i64 xn] 50))
      clear hx hB
      simp only at t1
      generalize total (L.take k) = T at t0 t1 HX ⊢
      go_wp2_with fail
      go_roundw
      case rel => exact ⟨k + 1, by omega, by go_num, by rw [HX.out], HB.out⟩
      case measure => simp [intOf]; omega
    · obtain rfl : k = m := by omega
      rw [List.take_of_length_le (by have := HM.out; omega)]
      have HB := Lib.hid hB
      clear hB
      go_wp2_with fail
      go_ret
      exact ⟨rfl, HB.out⟩

end Go.Proofs.Ytpnojoldcfghfaa
