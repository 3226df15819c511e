/- kindsOfRuns: which kind a run is. -/
import Derived.Test.YtkeeglpbhjnmdaaDoorLxB
import Derived.RegionTactic
import Derived.BigRegion
namespace Go.Proofs.YtkeeglpbhjnmdaaDoor
open Go.RowKit

set_option maxHeartbeats 4000000 in
set_option maxRecDepth 100000 in
theorem begins_any (s : ByteArray) (hs : s.size ≤ 1000) (kind : Int) (hk : (Lit.int .i64 kind).wf = true) (b kb n : Nat) (hn : n ≤ 1000) (f : List UInt8 → Option Int) (w : World) (hc : w.cell? ⟨b, 0, none⟩ = some (.map (some kb))) (hb : b ≠ kb) (hM : KMap w kb n f) :
    Calls Tryd.prog 38 #[.string s, .int .i64 kind, .pointer (some ⟨b, 0, none⟩)] w fun e w' => (∃ v, e = .returned v) ∧ KMap w' kb (n + s.size) (kputs f s.data.toList kind) ∧ w.grownBy w' (some kb) := by
  have HM := Lib.hid hM
  have HK := Lib.hid hk
  clear hM hk
  go_enter Tryd.func38, Tryd.ntmps38
  go_wp2_with fail
  go_loopw [8] (fun s8 wr => ∃ j : Nat, j ≤ s.size ∧ s8 = .int .i64 j ∧ KMap wr kb (n + j) (kputs f (s.data.toList.take j) kind) ∧ w.grownBy wr (some kb)) (fun s8 _ => s.size - (intOf s8).toNat)
  case atStart => exact ⟨0, Nat.zero_le _, rfl, by rw [List.take_zero, kputs_nil]; exact HM.out, ⟨rfl, rfl, rfl, Nat.le_refl _, fun _ _ _ => rfl⟩⟩
  case round =>
    obtain ⟨j, hj, rfl, hm, hg⟩ := hrel
    have HJ := Lib.hid (And.intro hm hg)
    have hc1 := hg.cell hc (by simpa using hb)
    clear hm hg
    by_cases hlt : j < s.size
    · have hlt' : (j : Int) < (s.size : Int) := by omega
      have e1 : IntKind.i64.wrap ((j : Int) + 1) = (j : Int) + 1 := by rw [IntKind.wrap_i64]; omega
      have e2 : ((j : Int) + 1).toNat = j + 1 := by omega
      obtain ⟨q1, q2⟩ := byte_of s j hlt
      have hcd : wr.drew.cell? ⟨b, 0, none⟩ = some (.map (some kb)) := hc1
      have HD := Lib.hid (show KMap wr.drew kb (n + j) (kputs f (s.data.toList.take j) kind) from HJ.out.1.same rfl)
      have HQ := Lib.hid (And.intro q1 q2)
      have hsz : (s.extract j (j + 1)).size ≤ maxLen := by
        rw [Lib.size_eq, q1]
        exact Nat.le_trans (Nat.le_refl 1) (by unfold maxLen; omega)
      clear q1 q2
      have b1 : (0 : Int) ≤ (j : Int) + 1 := by omega
      have b2 : (j : Int) + 1 ≤ (s.size : Int) := by omega
      have b3 : (j : Int) ≤ (j : Int) + 1 := by omega
      go_wp2_with fail
      obtain ⟨w7, hrun, m7, g7⟩ := HD.out.store (by omega) (s.extract j (j + 1)) hsz kind HK.out
      rw [HQ.out.1, ← kputs_snoc, ← HQ.out.2] at m7
      have H7 := Lib.hid (And.intro m7 g7)
      clear m7 g7
      go_region
      all_goals go_wp2_with fail
      all_goals exact ⟨⟨j + 1, by omega, by go_num, H7.out.1, ⟨H7.out.2.os.trans HJ.out.2.os, H7.out.2.tape.trans HJ.out.2.tape, H7.out.2.output.trans HJ.out.2.output, Nat.le_trans HJ.out.2.size H7.out.2.size, fun k hk hne => (H7.out.2.block k (Nat.lt_of_lt_of_le hk HJ.out.2.size) hne).trans (HJ.out.2.block k hk hne)⟩⟩, by simp [intOf]; omega⟩
    · obtain rfl : j = s.size := by omega
      go_wp2_with fail
      go_end0
      exact ⟨⟨_, rfl⟩, by have := HJ.out.1; rwa [List.take_of_length_le (by simp)] at this, HJ.out.2⟩

/-- The texts of the bytes that begin a name, a constructor, a number. -/
def smallsB : ByteArray := ⟨#[97, 98, 99, 100, 101, 102, 103, 104, 105, 106, 107, 108, 109, 110, 111, 112, 113, 114, 115, 116, 117, 118, 119, 120, 121, 122]⟩
def capsB : ByteArray := ⟨#[65, 66, 67, 68, 69, 70, 71, 72, 73, 74, 75, 76, 77, 78, 79, 80, 81, 82, 83, 84, 85, 86, 87, 88, 89, 90]⟩
def digsB : ByteArray := ⟨#[48, 49, 50, 51, 52, 53, 54, 55, 56, 57]⟩
/-- Which kind stands at a text. -/
def wordF : List UInt8 → Option Int := (kput (kput (kput (kput (kput (kput (kput (kput (kput (kput (fun _ => none) [108, 101, 116] 5) [105, 110] 5) [99, 97, 115, 101] 5) [111, 102] 5) [100, 97, 116, 97] 5) [119, 101, 97, 107] 7) [100, 101, 114, 101, 102] 7) [115, 101, 113] 7) [102, 108, 111, 97, 116] 7) [116, 114, 117, 110, 99] 7)
def kindF : List UInt8 → Option Int := kputs (kputs (kputs wordF smallsB.data.toList 1) capsB.data.toList 2) digsB.data.toList 3

theorem below_grown {n kb : Nat} {w a b : World} (h : Below n w a) (hg : a.grownBy b (some kb)) (hn : n ≤ kb) (hs : n ≤ a.heap.size) : Below n w b :=
  ⟨hg.os.trans h.os, hg.tape.trans h.tape, hg.output.trans h.output, Nat.le_trans h.size hg.size, fun k hk => (hg.block k (by omega) (fun e => by have := Option.some.inj e; omega)).trans (h.block k hk)⟩

def KindsSaid (w : World) (e : Ending) (w' : World) : Prop := ∃ kb, e = .returned (.map (some kb)) ∧ w.heap.size ≤ kb ∧ KMap w' kb 72 kindF ∧ Below w.heap.size w w'
set_option maxHeartbeats 8000000 in
set_option maxRecDepth 100000 in
theorem kinds_any (w : World) : Calls Tryd.prog 22 #[] w (KindsSaid w) := by
  have hmk : ∀ W, (Instr.makeMap 53 none).run Tryd.prog W = .ok (.map (some W.heap.size)) (W.alloc (.map #[] 0)) := fun W => rfl
  have m0 := kmap_made w
  have b0 : Below w.heap.size w (w.alloc (.map #[] 0)) := (Below.refl _ _).alloc (Nat.le_refl _) _
  have z0 : w.heap.size + 1 = (w.alloc (.map #[] 0)).heap.size := by simp
  obtain ⟨w1, r1, m1, g1⟩ := m0.store (by omega) ⟨#[108, 101, 116]⟩ (by decide) 5 (by decide)
  have b1 := below_grown b0 g1 (Nat.le_refl _) b0.size
  obtain ⟨w2, r2, m2, g2⟩ := m1.store (by omega) ⟨#[105, 110]⟩ (by decide) 5 (by decide)
  have b2 := below_grown b1 g2 (Nat.le_refl _) b1.size
  obtain ⟨w3, r3, m3, g3⟩ := m2.store (by omega) ⟨#[99, 97, 115, 101]⟩ (by decide) 5 (by decide)
  have b3 := below_grown b2 g3 (Nat.le_refl _) b2.size
  obtain ⟨w4, r4, m4, g4⟩ := m3.store (by omega) ⟨#[111, 102]⟩ (by decide) 5 (by decide)
  have b4 := below_grown b3 g4 (Nat.le_refl _) b3.size
  obtain ⟨w5, r5, m5, g5⟩ := m4.store (by omega) ⟨#[100, 97, 116, 97]⟩ (by decide) 5 (by decide)
  have b5 := below_grown b4 g5 (Nat.le_refl _) b4.size
  obtain ⟨w6, r6, m6, g6⟩ := m5.store (by omega) ⟨#[119, 101, 97, 107]⟩ (by decide) 7 (by decide)
  have b6 := below_grown b5 g6 (Nat.le_refl _) b5.size
  obtain ⟨w7, r7, m7, g7⟩ := m6.store (by omega) ⟨#[100, 101, 114, 101, 102]⟩ (by decide) 7 (by decide)
  have b7 := below_grown b6 g7 (Nat.le_refl _) b6.size
  obtain ⟨w8, r8, m8, g8⟩ := m7.store (by omega) ⟨#[115, 101, 113]⟩ (by decide) 7 (by decide)
  have b8 := below_grown b7 g8 (Nat.le_refl _) b7.size
  obtain ⟨w9, r9, m9, g9⟩ := m8.store (by omega) ⟨#[102, 108, 111, 97, 116]⟩ (by decide) 7 (by decide)
  have b9 := below_grown b8 g9 (Nat.le_refl _) b8.size
  obtain ⟨w10, r10, m10, g10⟩ := m9.store (by omega) ⟨#[116, 114, 117, 110, 99]⟩ (by decide) 7 (by decide)
  have b10 := below_grown b9 g10 (Nat.le_refl _) b9.size
  have hm : KMap w10 w.heap.size 10 wordF := m10
  have hs10 : w.heap.size + 1 ≤ w10.heap.size := by have := hm.lt; omega
  have hb := Lib.hid b10
  have HM := Lib.hid hm
  clear m0 b0 m1 b1 m2 b2 m3 b3 m4 b4 m5 b5 m6 b6 m7 b7 m8 b8 m9 b9 m10 b10 hm g1 g2 g3 g4 g5 g6 g7 g8 g9 g10
  go_enter Tryd.func22, Tryd.ntmps22
  go_upto_region 2 with fail
  have hx := (Below.refl w10.heap.size w10).alloc (Nat.le_refl _) (.cells #[.map (some w.heap.size)] 53)
  have hc := (show (w10.alloc (.cells #[.map (some w.heap.size)] 53)).cell? ⟨w10.heap.size, 0, none⟩ = some (.map (some w.heap.size)) by simp [go_sem])
  have HX := Lib.hid (And.intro (HM.out.later hx) (onB' hb.out hx))
  clear hx
  generalize (w10.alloc (.cells #[.map (some w.heap.size)] 53)) = W at *
  have hsz := HX.out.2.size
  go_wp2_with fail
  refine (begins_any smallsB (by decide) 1 (by decide) w10.heap.size w.heap.size 10 (by decide) wordF W hc (by omega) HX.out.1).mono ?_
  rintro e w11 ⟨⟨v, rfl⟩, q1, g1⟩
  replace hc := g1.cell hc (by simp; omega)
  have H11 := Lib.hid (And.intro q1 (below_grown HX.out.2 g1 (Nat.le_refl _) hsz))
  have hs11 := H11.out.2.size
  clear q1 g1
  go_wp2_with fail
  refine (begins_any capsB (by decide) 2 (by decide) w10.heap.size w.heap.size _ (by decide) _ w11 hc (by omega) H11.out.1).mono ?_
  rintro e w12 ⟨⟨v2, rfl⟩, q1, g1⟩
  replace hc := g1.cell hc (by simp; omega)
  have H12 := Lib.hid (And.intro q1 (below_grown H11.out.2 g1 (Nat.le_refl _) hs11))
  have hs12 := H12.out.2.size
  clear q1 g1
  go_wp2_with fail
  refine (begins_any digsB (by decide) 3 (by decide) w10.heap.size w.heap.size _ (by decide) _ w12 hc (by omega) H12.out.1).mono ?_
  rintro e w13 ⟨⟨v3, rfl⟩, q1, g1⟩
  replace hc := g1.cell hc (by simp; omega)
  have H13 := Lib.hid (And.intro q1 (below_grown H12.out.2 g1 (Nat.le_refl _) hs12))
  clear q1 g1
  go_wp2_with fail
  go_ret
  exact ⟨_, rfl, Nat.le_refl _, H13.out.1, H13.out.2⟩

end Go.Proofs.YtkeeglpbhjnmdaaDoor
