/- Which configurations a heap can be made of: the program's question, and the document's. -/
import Derived.Test.YtbjlpmjalidfkaaRdB
import Derived.Deep.DeepCutAuto
namespace Go.Proofs.Ytbjlpmjalidfkaa
open Go.RowKit

/-- A row of sizes as it came in. -/
def Sizes (w : World) (a0 : Option Addr) (len : Nat) (v : Nat → Int) : Prop :=
  0 < len → ∃ b off, a0 = some ⟨b, off, none⟩ ∧ b < w.heap.size ∧ ∀ k, k < len → w.cell? ⟨b, off + k, none⟩ = some (.int .i64 (v k))
theorem Sizes.below {w w' : World} {a0 : Option Addr} {len : Nat} {v : Nat → Int} (h : Sizes w a0 len v) (hb : Below w.heap.size w w') : Sizes w' a0 len v := fun h0 => by
  obtain ⟨b, off, e, hl, hc⟩ := h h0
  exact ⟨b, off, e, Nat.lt_of_lt_of_le hl hb.size, fun k hk => (hb.cell (p := ⟨b, off + k, none⟩) hl).trans (hc k hk)⟩

def prev (v : Nat → Int) (k : Nat) : Int := if k = 0 then 0 else v (k - 1)
/-- The first k sizes rise, from 1 to 24. -/
def Rise (v : Nat → Int) (k : Nat) : Prop := ∀ i, i < k → prev v i < v i ∧ v i ≤ 24
theorem Rise.succ {v : Nat → Int} {k : Nat} (h : Rise v k) (hk : prev v k < v k ∧ v k ≤ 24) : Rise v (k + 1) := fun i hi => by
  by_cases e : i = k
  · rw [e]; exact hk
  · exact h i (by omega)
theorem Rise.pos {v : Nat → Int} {k : Nat} (h : Rise v k) : ∀ i, i < k → 1 ≤ v i ∧ v i ≤ 24 := by
  intro i
  induction i with
  | zero => intro hi; have := h 0 hi; simp only [prev, if_true] at this; omega
  | succ i ih => intro hi; have h1 := ih (by omega); have h2 := h (i + 1) hi; simp only [prev, Nat.add_sub_cancel, Nat.succ_ne_zero, if_false] at h2; omega
theorem prev_succ (v : Nat → Int) (k : Nat) : prev v (k + 1) = v k := by simp [prev]

set_option maxHeartbeats 1000000 in
set_option maxRecDepth 100000 in
theorem rising_in (a0 : Option Addr) (len cap : Nat) (v : Nat → Int) (w : World) (hs : Sizes w a0 len v) (h1 : 1 ≤ len) (h6 : len ≤ 6) (hr : Rise v len) :
    Calls Try.prog 52 #[.slice a0 len cap] w fun e w' => e = .returned (.bool true) ∧ w' = w := by
  obtain ⟨b, off, rfl, hl, hc⟩ := hs h1
  have HC := Lib.hid hc
  have HR := Lib.hid hr
  have g1 : decide (1 ≤ (len : Int)) = true := decide_eq_true (by omega)
  have g6 : decide ((len : Int) ≤ 6) = true := decide_eq_true (by omega)
  clear hc hr hs
  go_enter Try.func52, Try.ntmps52
  go_wp2_with fail
  go_loopw [3, 8] (fun s3 s8 wr => ∃ k : Nat, k ≤ len ∧ s8 = .int .i64 k ∧ s3 = .int .i64 (prev v k) ∧ wr = w) (fun _ s8 _ => len - (intOf s8).toNat)
  case atStart => exact ⟨0, Nat.zero_le _, rfl, rfl, rfl⟩
  case round =>
    obtain ⟨k, hk, rfl, rfl, rfl⟩ := hrel
    by_cases hlt : k < len
    · have hlt' : (k : Int) < (len : Int) := by omega
      have c := HC.out k hlt
      obtain ⟨r1, r2⟩ := HR.out k hlt
      have e1 : decide (v k ≤ prev v k) = false := decide_eq_false (by omega)
      have e2 : decide (24 < v k) = false := decide_eq_false (by omega)
      have HP := Lib.hid (prev_succ v k)
      generalize prev v k = pk at *
      generalize v k = vk at *
      go_wp2_with fail
      go_roundw
      case rel => exact ⟨k + 1, by omega, by go_num, by rw [HP.out], by first | rfl | trivial⟩
      case measure => simp [intOf]; omega
    · obtain rfl : k = len := by omega
      go_wp2_with fail
      go_ret
      exact ⟨rfl, rfl⟩

/-- A configuration that a heap can be made of. -/
structure RightP (words large : Int) (len : Nat) (v : Nat → Int) : Prop where
  w1 : 1 ≤ words
  w2 : words ≤ 65536
  l1 : 0 ≤ large
  l2 : large < words
  k1 : 1 ≤ len
  k2 : len ≤ 6
  rise : Rise v len

def RightTold (words large : Int) (len : Nat) (v : Nat → Int) (w : World) (e : Ending) (w' : World) : Prop := ∃ r, e = .returned (.bool r) ∧ (r = true → RightP words large len v) ∧ Below w.heap.size w w'
set_option maxHeartbeats 4000000 in
set_option maxRecDepth 100000 in
theorem right_any (words large x2 x3 x4 x5 : Int) (a0 : Option Addr) (len cap : Nat) (v : Nat → Int) (w : World) (hs : Sizes w a0 len v) :
    Calls Try.prog 16 #[.agg #[.int .i64 words, .int .i64 large, .int .i64 x2, .int .i64 x3, .int .i64 x4, .int .i64 x5, .slice a0 len cap]] w (RightTold words large len v w) := by
  have hb : Below w.heap.size w (w.alloc (.cells #[.int .i64 words, .int .i64 large, .int .i64 x2, .int .i64 x3, .int .i64 x4, .int .i64 x5, .slice a0 len cap] 44)) := (Below.refl _ _).alloc (Nat.le_refl _) _
  have c0 : (w.alloc (.cells #[.int .i64 words, .int .i64 large, .int .i64 x2, .int .i64 x3, .int .i64 x4, .int .i64 x5, .slice a0 len cap] 44)).cell? ⟨w.heap.size, 0, none⟩ = some (.int .i64 words) := by simp [go_sem]
  have c1 : (w.alloc (.cells #[.int .i64 words, .int .i64 large, .int .i64 x2, .int .i64 x3, .int .i64 x4, .int .i64 x5, .slice a0 len cap] 44)).cell? ⟨w.heap.size, 1, none⟩ = some (.int .i64 large) := by simp [go_sem]
  have c6 : (w.alloc (.cells #[.int .i64 words, .int .i64 large, .int .i64 x2, .int .i64 x3, .int .i64 x4, .int .i64 x5, .slice a0 len cap] 44)).cell? ⟨w.heap.size, 6, none⟩ = some (.slice a0 len cap) := by simp [go_sem]
  have HS := Lib.hid (hs.below hb)
  have HB := Lib.hid hb
  clear hs hb
  go_enter Try.func16, Try.ntmps16
  go_upto_region 1 with fail
  generalize (w.alloc (.cells #[.int .i64 words, .int .i64 large, .int .i64 x2, .int .i64 x3, .int .i64 x4, .int .i64 x5, .slice a0 len cap] 44)) = W at *
  by_cases g1 : words < 1
  · have e1 : decide (words < 1) = true := decide_eq_true g1
    go_wp2_with fail
    go_ret
    exact ⟨_, rfl, fun h => by (cases h), HB.out⟩
  have e1 : decide (words < 1) = false := decide_eq_false g1
  by_cases g2 : 65536 < words
  · have e2 : decide (65536 < words) = true := decide_eq_true g2
    go_wp2_with fail
    go_ret
    exact ⟨_, rfl, fun h => by (cases h), HB.out⟩
  have e2 : decide (65536 < words) = false := decide_eq_false g2
  by_cases g3 : large < 0
  · have e3 : decide (large < 0) = true := decide_eq_true g3
    go_wp2_with fail
    go_ret
    exact ⟨_, rfl, fun h => by (cases h), HB.out⟩
  have e3 : decide (large < 0) = false := decide_eq_false g3
  by_cases g4 : words ≤ large
  · have e4 : decide (words ≤ large) = true := decide_eq_true g4
    go_wp2_with fail
    go_ret
    exact ⟨_, rfl, fun h => by (cases h), HB.out⟩
  have e4 : decide (words ≤ large) = false := decide_eq_false g4
  by_cases g5 : (len : Int) < 1
  · have e5 : decide ((len : Int) < 1) = true := decide_eq_true g5
    go_wp2_with fail
    go_ret
    exact ⟨_, rfl, fun h => by (cases h), HB.out⟩
  have e5 : decide ((len : Int) < 1) = false := decide_eq_false g5
  by_cases g6 : 6 < (len : Int)
  · have e6 : decide (6 < (len : Int)) = true := decide_eq_true g6
    go_wp2_with fail
    go_ret
    exact ⟨_, rfl, fun h => by (cases h), HB.out⟩
  have e6 : decide (6 < (len : Int)) = false := decide_eq_false g6
  have HG := Lib.hid (show 1 ≤ words ∧ words ≤ 65536 ∧ 0 ≤ large ∧ large < words ∧ 1 ≤ len ∧ len ≤ 6 by omega)
  obtain ⟨b, off, rfl, hl, hc⟩ := HS.out (by omega)
  have HC := Lib.hid hc
  clear hc HS
  have hbW := HB.out
  have hlW : b < W.heap.size := by
    have := HB.out.size
    exact World.block_lt_of_cell? _ _ (HC.out 0 (by omega))
  go_wp2_with fail
  clear e1 e2 e3 e4 e5 e6 g1 g2 g3 g4 c0 c1 hl
  go_loopw [3] (fun s3 wr => ∃ k : Nat, k ≤ len ∧ s3 = .int .i64 k ∧ Rise v k ∧ Below W.heap.size W wr) (fun s3 _ => len - (intOf s3).toNat)
  case atStart => exact ⟨0, Nat.zero_le _, rfl, fun i hi => absurd hi (Nat.not_lt_zero _), Below.refl _ _⟩
  case round =>
    obtain ⟨k, hk, rfl, hr, hbr⟩ := hrel
    have c6' := later' hbr c6
    have hdr : Below W.heap.size W wr.drew := hbr.drew
    have HBD := Lib.hid (And.intro hdr (And.intro (onB' HB.out hdr) (onB' HB.out hbr)))
    have hcl : ∀ i, i < len → wr.cell? ⟨b, off + i, none⟩ = some (.int .i64 (v i)) := fun i hi => later' hbr (HC.out i hi)
    have HCL := Lib.hid hcl
    have HR := Lib.hid hr
    clear hr hbr hdr hcl
    by_cases hlt : k < len
    · have hlt' : (k : Int) < (len : Int) := by omega
      have c := HCL.out k hlt
      by_cases q1 : v k < 1
      · have e1 : decide (v k < 1) = true := decide_eq_true q1
        go_wp2_with fail
        go_region
        go_wp2_with fail
        go_ret
        exact ⟨_, rfl, fun h => by (cases h), HBD.out.2.1⟩
      have e1 : decide (v k < 1) = false := decide_eq_false q1
      by_cases q2 : 24 < v k
      · have e2 : decide (24 < v k) = true := decide_eq_true q2
        go_wp2_with fail
        go_region
        go_wp2_with fail
        go_ret
        exact ⟨_, rfl, fun h => by (cases h), HBD.out.2.1⟩
      have e2 : decide (24 < v k) = false := decide_eq_false q2
      cases k with
      | zero =>
        rw [Nat.add_zero] at c
        go_wp2_with fail
        go_region
        go_wp2_with fail
        go_roundw
        case rel => exact ⟨1, by omega, by go_num, HR.out.succ ⟨by simp only [prev, if_true]; omega, by omega⟩, HBD.out.1⟩
        case measure => simp [intOf]; omega
      | succ j =>
        have c' := HCL.out j (by omega)
        have hp := prev_succ v j
        have ej : ((j + 1 : Nat) : Int) - 1 = (j : Int) := by omega
        have ew : IntKind.i64.wrap ((j + 1 : Nat) : Int) = ((j + 1 : Nat) : Int) := by rw [IntKind.wrap_i64]; omega
        have ew2 : IntKind.i64.wrap (((j + 1 : Nat) : Int) - 1) = (j : Int) := by rw [ej, IntKind.wrap_i64]; omega
        by_cases q3 : v (j + 1) ≤ v j
        · have e3 : decide (v (j + 1) ≤ v j) = true := decide_eq_true q3
          go_wp2_with fail
          go_region
          go_wp2_with fail
          go_ret
          exact ⟨_, rfl, fun h => by (cases h), HBD.out.2.1⟩
        have e3 : decide (v (j + 1) ≤ v j) = false := decide_eq_false q3
        go_wp2_with fail
        go_region
        go_wp2_with fail
        go_roundw
        case rel => exact ⟨j + 2, by omega, by go_num, HR.out.succ ⟨by rw [hp]; omega, by omega⟩, HBD.out.1⟩
        case measure => simp [intOf]; omega
    · obtain rfl : k = len := by omega
      go_wp2_with fail
      go_ret
      exact ⟨_, rfl, fun _ => ⟨HG.out.1, HG.out.2.1, HG.out.2.2.1, HG.out.2.2.2.1, HG.out.2.2.2.2.1, HG.out.2.2.2.2.2, HR.out⟩, HBD.out.2.2⟩

end Go.Proofs.Ytbjlpmjalidfkaa
