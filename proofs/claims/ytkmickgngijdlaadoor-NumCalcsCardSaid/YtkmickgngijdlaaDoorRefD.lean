/- Contracts of the document's own answers, continued: whole parts by the float's bits. -/
import Derived.Test.YtkmickgngijdlaaDoorRefC
import Derived.LoopTactic
namespace Go.Proofs.YtkmickgngijdlaaDoor
open Go.RowKit

theorem at_i64 (n : Nat) (_ : n < 18446744073709551616) : IntKind.i64.wrap ((n : Int) / 4503599627370496 % 2048) = ((n / 4503599627370496 % 2048 : Nat) : Int) := by rw [IntKind.wrap_i64]; omega

/-- While the places are struck; while they are added. -/
def DI (M x n e : Nat) : Prop := n = M / 2 ^ (e - x) ∧ x ≤ e ∧ e ≤ 1075
def MI (M x n e : Nat) : Prop := n = M * 2 ^ (x - e) ∧ e ≤ x ∧ 1075 ≤ e

theorem DI.step {M x n e : Nat} (h : DI M x n e) (he : e < 1075) : DI M x (n / 2) (e + 1) := by
  obtain ⟨h1, h2, h3⟩ := h
  refine ⟨?_, by omega, by omega⟩
  rw [h1, Nat.div_div_eq_div_mul, show e + 1 - x = (e - x) + 1 by omega, Nat.pow_succ]

theorem MI.step {M x n e : Nat} (h : MI M x n e) (he : 1075 < e) : MI M x (n * 2) (e - 1) := by
  obtain ⟨h1, h2, h3⟩ := h
  refine ⟨?_, by omega, by omega⟩
  rw [h1, Nat.mul_assoc, show x - (e - 1) = (x - e) + 1 by omega, Nat.pow_succ]

theorem MI.lt {M x n e : Nat} (h : MI M x n e) (hM : M < 9007199254740992) (hx : x < 1086) : n < 9223372036854775808 := by
  obtain ⟨h1, h2, h3⟩ := h
  have : 2 ^ (x - e) ≤ 2 ^ 10 := Nat.pow_le_pow_right (by decide) (by omega)
  have h4 : n ≤ M * 2 ^ 10 := by rw [h1]; exact Nat.mul_le_mul_left _ this
  omega

theorem DI.lt {M x n e : Nat} (h : DI M x n e) (hM : M < 9007199254740992) : n < 9007199254740992 := by
  have : n ≤ M := by rw [h.1]; exact Nat.div_le_self _ _
  omega

/-- The two bounds between which the whole part is laid. -/
def pt (x M : Nat) : Nat := if x < 1075 then M / 2 ^ (1075 - x) else M * 2 ^ (x - 1075)

set_option maxRecDepth 100000 in
set_option maxHeartbeats 400000 in
theorem r_trunc_low (b : Nat) (hb : b < 18446744073709551616) (w : World) (h : b / 4503599627370496 % 2048 < 1023) :
    Calls Tryd.prog 25 #[.int .u64 b] w fun e w' => e = .returned (.tuple #[.agg #[.bool false, .int .u64 (0)], .int .i64 0]) ∧ Below w.heap.size w w' := by
  have hB := Below.refl w.heap.size w
  have hE : IntKind.i64.wrap ((b : Int) / 4503599627370496 % 2048) = ((b / 4503599627370496 % 2048 : Nat) : Int) := at_i64 b hb
  generalize b / 4503599627370496 % 2048 = x at *
  go_enter Tryd.func25, Tryd.ntmps25
  go_wp2_with fail
  exact bodyPost_ret (v := .tuple #[.agg #[.bool false, .int .u64 (0)], .int .i64 0]) (by simp [results, Tryd.results25, go_sem]) rfl ⟨rfl, hB.alloc hB.size _⟩

set_option maxRecDepth 100000 in
set_option maxHeartbeats 400000 in
theorem r_trunc_edge (b : Nat) (hb : b < 18446744073709551616) (w : World) (h : b / 4503599627370496 % 2048 = 1086) (h1 : 9223372036854775808 ≤ b) (h2 : b % 4503599627370496 = 0) :
    Calls Tryd.prog 25 #[.int .u64 b] w fun e w' => e = .returned (.tuple #[.agg #[.bool false, .int .u64 (9223372036854775808)], .int .i64 0]) ∧ Below w.heap.size w w' := by
  have hB := Below.refl w.heap.size w
  have hE : IntKind.i64.wrap ((b : Int) / 4503599627370496 % 2048) = ((b / 4503599627370496 % 2048 : Nat) : Int) := at_i64 b hb
  rw [h] at hE
  have hF : (b : Int) % 4503599627370496 = 0 := by omega
  have hS : (9223372036854775808 : Int) ≤ b := by omega
  go_enter Tryd.func25, Tryd.ntmps25
  go_wp2_with fail
  exact bodyPost_ret (v := .tuple #[.agg #[.bool false, .int .u64 (9223372036854775808)], .int .i64 0]) (by simp [results, Tryd.results25, go_sem]) rfl ⟨rfl, hB.alloc hB.size _⟩

set_option maxRecDepth 100000 in
set_option maxHeartbeats 400000 in
theorem r_trunc_high (b : Nat) (hb : b < 18446744073709551616) (w : World) (h : 1086 ≤ b / 4503599627370496 % 2048) (h1 : ¬ (b / 4503599627370496 % 2048 = 1086 ∧ 9223372036854775808 ≤ b ∧ b % 4503599627370496 = 0)) :
    Calls Tryd.prog 25 #[.int .u64 b] w fun e w' => e = .returned (.tuple #[.agg #[.bool false, .int .u64 (0)], .int .i64 1]) ∧ Below w.heap.size w w' := by
  have hB := Below.refl w.heap.size w
  have hE : IntKind.i64.wrap ((b : Int) / 4503599627370496 % 2048) = ((b / 4503599627370496 % 2048 : Nat) : Int) := at_i64 b hb
  have hF : (b : Int) % 4503599627370496 = ((b % 4503599627370496 : Nat) : Int) := by omega
  generalize b / 4503599627370496 % 2048 = x at *
  generalize b % 4503599627370496 = f at *
  by_cases hx : x = 1086
  · by_cases hs : 9223372036854775808 ≤ b
    · have hf : f ≠ 0 := fun e => h1 ⟨hx, hs, e⟩
      clear h1
      subst hx
      have hS : (9223372036854775808 : Int) ≤ b := by omega
      have hf' : ((f : Int) + 4503599627370496 == 4503599627370496) = false := by rw [beq_eq_false_iff_ne]; omega
      clear h
      go_enter Tryd.func25, Tryd.ntmps25
      go_wp2_with fail
      exact bodyPost_ret (v := .tuple #[.agg #[.bool false, .int .u64 (0)], .int .i64 1]) (by simp [results, Tryd.results25, go_sem]) rfl ⟨rfl, hB.alloc hB.size _⟩
    · clear h1
      subst hx
      have hS : ¬ (9223372036854775808 : Int) ≤ b := by omega
      clear h
      go_enter Tryd.func25, Tryd.ntmps25
      go_wp2_with fail
      exact bodyPost_ret (v := .tuple #[.agg #[.bool false, .int .u64 (0)], .int .i64 1]) (by simp [results, Tryd.results25, go_sem]) rfl ⟨rfl, hB.alloc hB.size _⟩
  · clear h1
    have hx' : ¬ (x : Int) = 1086 := by omega
    go_enter Tryd.func25, Tryd.ntmps25
    go_wp2_with fail
    exact bodyPost_ret (v := .tuple #[.agg #[.bool false, .int .u64 (0)], .int .i64 1]) (by simp [results, Tryd.results25, go_sem]) rfl ⟨rfl, hB.alloc hB.size _⟩

set_option maxRecDepth 100000 in
set_option maxHeartbeats 400000 in
theorem r_trunc_down (b : Nat) (hb : b < 18446744073709551616) (w : World) (h : 1023 ≤ b / 4503599627370496 % 2048) (hc : b / 4503599627370496 % 2048 < 1075) :
    Calls Tryd.prog 25 #[.int .u64 b] w fun e w' => e = .returned (.tuple #[.agg #[.bool false, .int .u64 (U (Fl.sg (decide (9223372036854775808 ≤ b)) (pt (b / 4503599627370496 % 2048) (b % 4503599627370496 + 4503599627370496))))], .int .i64 0]) ∧ Below w.heap.size w w' := by
  have hB := Below.refl w.heap.size w
  have hE : IntKind.i64.wrap ((b : Int) / 4503599627370496 % 2048) = ((b / 4503599627370496 % 2048 : Nat) : Int) := at_i64 b hb
  have hM : (b : Int) % 4503599627370496 + 4503599627370496 = ((b % 4503599627370496 + 4503599627370496 : Nat) : Int) := by omega
  have hM2 : b % 4503599627370496 + 4503599627370496 < 9007199254740992 := by omega
  generalize b / 4503599627370496 % 2048 = x at *
  generalize b % 4503599627370496 + 4503599627370496 = M at *
  have hp : pt x M = M / 2 ^ (1075 - x) := by unfold pt; rw [if_pos hc]
  rw [hp]
  have hs : DI M x M x := ⟨by simp, Nat.le_refl _, by omega⟩
  generalize hz : M / 2 ^ (1075 - x) = z
  have Hz := Lib.hid hz
  clear hz hp
  by_cases hm : 9223372036854775808 ≤ b
  · have hm2 : (9223372036854775808 : Int) ≤ b := by omega
    simp only [hm, decide_true]
    clear hm
    go_enter Tryd.func25, Tryd.ntmps25
    go_wp2_with fail
    clear hm2 hM hE
    go_loop [7, 8] (fun va vb => ∃ n e : Nat, va = .int .u64 n ∧ vb = .int .i64 e ∧ DI M x n e) (fun _ vb => 1075 - (intOf vb).toNat)
    case atStart => exact ⟨M, x, rfl, rfl, hs⟩
    case round =>
      obtain ⟨n, e, rfl, rfl, hI⟩ := hrel
      have hn := DI.lt hI hM2
      have he := hI.2.2
      have HI := Lib.hid hI
      clear hI hs
      by_cases h0 : e < 1075
      · go_wp2_with fail
        exact ⟨⟨_, _, congrArg (Value.int .u64) (by omega), congrArg (Value.int .i64) (by omega), DI.step HI.out h0⟩, by simp [intOf]; omega⟩
      · have he2 : e = 1075 := by omega
        subst he2
        have hnz : n = z := by rw [HI.out.1]; exact Hz.out
        subst hnz
        clear HI Hz h0 he
        go_wp2_with fail
        go_loop [7, 9] (fun va vb => va = .int .u64 n ∧ vb = .int .i64 x) (fun _ _ => 0)
        case atStart => exact ⟨rfl, rfl⟩
        case round =>
          obtain ⟨rfl, rfl⟩ := hrel
          go_wp2_with fail
          exact bodyPost_ret (v := .tuple #[.agg #[.bool false, .int .u64 (IntKind.u64.wrap (-(n : Int)))], .int .i64 0]) (by simp [results, Tryd.results25, go_sem]) rfl ⟨ret_nu (by rw [U_eq]; simp only [Fl.sg, if_true, IntKind.wrap_u64]), hB.alloc hB.size _⟩
  · have hm2 : ¬ (9223372036854775808 : Int) ≤ b := by omega
    simp only [hm, decide_false]
    clear hm
    go_enter Tryd.func25, Tryd.ntmps25
    go_wp2_with fail
    clear hm2 hM hE
    go_loop [7, 8] (fun va vb => ∃ n e : Nat, va = .int .u64 n ∧ vb = .int .i64 e ∧ DI M x n e) (fun _ vb => 1075 - (intOf vb).toNat)
    case atStart => exact ⟨M, x, rfl, rfl, hs⟩
    case round =>
      obtain ⟨n, e, rfl, rfl, hI⟩ := hrel
      have hn := DI.lt hI hM2
      have he := hI.2.2
      have HI := Lib.hid hI
      clear hI hs
      by_cases h0 : e < 1075
      · go_wp2_with fail
        exact ⟨⟨_, _, congrArg (Value.int .u64) (by omega), congrArg (Value.int .i64) (by omega), DI.step HI.out h0⟩, by simp [intOf]; omega⟩
      · have he2 : e = 1075 := by omega
        subst he2
        have hnz : n = z := by rw [HI.out.1]; exact Hz.out
        subst hnz
        clear HI Hz h0 he
        go_wp2_with fail
        go_loop [7, 9] (fun va vb => va = .int .u64 n ∧ vb = .int .i64 x) (fun _ _ => 0)
        case atStart => exact ⟨rfl, rfl⟩
        case round =>
          obtain ⟨rfl, rfl⟩ := hrel
          go_wp2_with fail
          exact bodyPost_ret (v := .tuple #[.agg #[.bool false, .int .u64 ((n : Int))], .int .i64 0]) (by simp [results, Tryd.results25, go_sem]) rfl ⟨ret_nu (by rw [U_eq]; simp only [Fl.sg, Bool.false_eq_true, if_false]; omega), hB.alloc hB.size _⟩

set_option maxRecDepth 100000 in
set_option maxHeartbeats 400000 in
theorem r_trunc_up (b : Nat) (hb : b < 18446744073709551616) (w : World) (hc : 1075 ≤ b / 4503599627370496 % 2048) (h' : b / 4503599627370496 % 2048 < 1086) :
    Calls Tryd.prog 25 #[.int .u64 b] w fun e w' => e = .returned (.tuple #[.agg #[.bool false, .int .u64 (U (Fl.sg (decide (9223372036854775808 ≤ b)) (pt (b / 4503599627370496 % 2048) (b % 4503599627370496 + 4503599627370496))))], .int .i64 0]) ∧ Below w.heap.size w w' := by
  have hB := Below.refl w.heap.size w
  have hE : IntKind.i64.wrap ((b : Int) / 4503599627370496 % 2048) = ((b / 4503599627370496 % 2048 : Nat) : Int) := at_i64 b hb
  have hM : (b : Int) % 4503599627370496 + 4503599627370496 = ((b % 4503599627370496 + 4503599627370496 : Nat) : Int) := by omega
  have hM2 : b % 4503599627370496 + 4503599627370496 < 9007199254740992 := by omega
  generalize b / 4503599627370496 % 2048 = x at *
  generalize b % 4503599627370496 + 4503599627370496 = M at *
  have hp : pt x M = M * 2 ^ (x - 1075) := by unfold pt; rw [if_neg (by omega)]
  rw [hp]
  have hs : MI M x M x := ⟨by simp, Nat.le_refl _, hc⟩
  generalize hz : M * 2 ^ (x - 1075) = z
  have Hz := Lib.hid hz
  clear hz hp
  by_cases hm : 9223372036854775808 ≤ b
  · have hm2 : (9223372036854775808 : Int) ≤ b := by omega
    simp only [hm, decide_true]
    clear hm
    go_enter Tryd.func25, Tryd.ntmps25
    go_wp2_with fail
    clear hm2 hM hE
    go_loop [7, 8] (fun va vb => va = .int .u64 M ∧ vb = .int .i64 x) (fun _ _ => 0)
    case atStart => exact ⟨rfl, rfl⟩
    case round =>
      obtain ⟨rfl, rfl⟩ := hrel
      go_wp2_with fail
      go_loop [7, 9] (fun va vb => ∃ n e : Nat, va = .int .u64 n ∧ vb = .int .i64 e ∧ MI M x n e) (fun _ vb => (intOf vb).toNat)
      case atStart => exact ⟨M, x, rfl, rfl, hs⟩
      case round =>
        obtain ⟨n, e, rfl, rfl, hI⟩ := hrel
        have hn := MI.lt hI hM2 h'
        have he := hI.2.2
        have he2 := hI.2.1
        have HI := Lib.hid hI
        clear hI hs
        by_cases h0 : 1075 < e
        · go_wp2_with fail
          exact ⟨⟨_, _, congrArg (Value.int .u64) (by omega), congrArg (Value.int .i64) (by omega), MI.step HI.out h0⟩, by simp [intOf]; omega⟩
        · have he3 : e = 1075 := by omega
          subst he3
          have hnz : n = z := by rw [HI.out.1]; exact Hz.out
          subst hnz
          clear HI Hz h0 he he2
          go_wp2_with fail
          exact bodyPost_ret (v := .tuple #[.agg #[.bool false, .int .u64 (IntKind.u64.wrap (-(n : Int)))], .int .i64 0]) (by simp [results, Tryd.results25, go_sem]) rfl ⟨ret_nu (by rw [U_eq]; simp only [Fl.sg, if_true, IntKind.wrap_u64]), hB.alloc hB.size _⟩
  · have hm2 : ¬ (9223372036854775808 : Int) ≤ b := by omega
    simp only [hm, decide_false]
    clear hm
    go_enter Tryd.func25, Tryd.ntmps25
    go_wp2_with fail
    clear hm2 hM hE
    go_loop [7, 8] (fun va vb => va = .int .u64 M ∧ vb = .int .i64 x) (fun _ _ => 0)
    case atStart => exact ⟨rfl, rfl⟩
    case round =>
      obtain ⟨rfl, rfl⟩ := hrel
      go_wp2_with fail
      go_loop [7, 9] (fun va vb => ∃ n e : Nat, va = .int .u64 n ∧ vb = .int .i64 e ∧ MI M x n e) (fun _ vb => (intOf vb).toNat)
      case atStart => exact ⟨M, x, rfl, rfl, hs⟩
      case round =>
        obtain ⟨n, e, rfl, rfl, hI⟩ := hrel
        have hn := MI.lt hI hM2 h'
        have he := hI.2.2
        have he2 := hI.2.1
        have HI := Lib.hid hI
        clear hI hs
        by_cases h0 : 1075 < e
        · go_wp2_with fail
          exact ⟨⟨_, _, congrArg (Value.int .u64) (by omega), congrArg (Value.int .i64) (by omega), MI.step HI.out h0⟩, by simp [intOf]; omega⟩
        · have he3 : e = 1075 := by omega
          subst he3
          have hnz : n = z := by rw [HI.out.1]; exact Hz.out
          subst hnz
          clear HI Hz h0 he he2
          go_wp2_with fail
          exact bodyPost_ret (v := .tuple #[.agg #[.bool false, .int .u64 ((n : Int))], .int .i64 0]) (by simp [results, Tryd.results25, go_sem]) rfl ⟨ret_nu (by rw [U_eq]; simp only [Fl.sg, Bool.false_eq_true, if_false]; omega), hB.alloc hB.size _⟩

theorem r_trunc_ok (b : Nat) (hb : b < 18446744073709551616) (w : World) (k : Int) (hW : Fl.within b = true) (hk : floatToIntVal .f64 b .i64 = some k) :
    Calls Tryd.prog 25 #[.int .u64 b] w fun e w' => e = .returned (.tuple #[.agg #[.bool false, .int .u64 (U k)], .int .i64 0]) ∧ Below w.heap.size w w' := by
  obtain ⟨t1, t2, t3, t4⟩ := Fl.trunc_bits b hb
  by_cases h1 : b / 4503599627370496 % 2048 < 1023
  · obtain ⟨-, e⟩ := t1 h1
    obtain rfl : (0 : Int) = k := Option.some.inj (e.symm.trans hk)
    exact r_trunc_low b hb w h1
  · by_cases h2 : b / 4503599627370496 % 2048 < 1086
    · obtain ⟨-, e⟩ := t4 (by omega) h2
      have hk' := Option.some.inj (e.symm.trans hk)
      rw [← hk']
      by_cases h3 : b / 4503599627370496 % 2048 < 1075
      · exact r_trunc_down b hb w (by omega) h3
      · exact r_trunc_up b hb w (by omega) h2
    · by_cases h4 : b / 4503599627370496 % 2048 = 1086 ∧ 9223372036854775808 ≤ b ∧ b % 4503599627370496 = 0
      · obtain ⟨-, e⟩ := t2 h4.1 h4.2.1 h4.2.2
        obtain rfl : (-9223372036854775808 : Int) = k := Option.some.inj (e.symm.trans hk)
        exact r_trunc_edge b hb w h4.1 h4.2.1 h4.2.2
      · rw [t3 (by omega) h4] at hW; cases hW

theorem r_trunc_out (b : Nat) (hb : b < 18446744073709551616) (w : World) (hW : Fl.within b = false) :
    Calls Tryd.prog 25 #[.int .u64 b] w fun e w' => e = .returned (.tuple #[.agg #[.bool false, .int .u64 0], .int .i64 1]) ∧ Below w.heap.size w w' := by
  obtain ⟨t1, t2, t3, t4⟩ := Fl.trunc_bits b hb
  by_cases h1 : b / 4503599627370496 % 2048 < 1023
  · rw [(t1 h1).1] at hW; cases hW
  · by_cases h2 : b / 4503599627370496 % 2048 < 1086
    · rw [(t4 (by omega) h2).1] at hW; cases hW
    · by_cases h4 : b / 4503599627370496 % 2048 = 1086 ∧ 9223372036854775808 ≤ b ∧ b % 4503599627370496 = 0
      · rw [(t2 h4.1 h4.2.1 h4.2.2).1] at hW; cases hW
      · exact r_trunc_high b hb w (by omega) h4

end Go.Proofs.YtkmickgngijdlaaDoor
