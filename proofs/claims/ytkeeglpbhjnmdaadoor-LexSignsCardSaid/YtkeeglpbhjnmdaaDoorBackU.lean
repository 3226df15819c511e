/- The library's reading of hexadecimal digits, as far as the number layer asks it. -/
import Derived.Test.YtkeeglpbhjnmdaaDoorLxA
import Derived.Lib.Hide
import Derived.Lib.ConvBytes
import Derived.Lib.AtoiAllMem
import Derived.Laws.Strings3
import Derived.Laws.Closers25
import Derived.Laws.Closers25b
namespace Go.Proofs.YtkeeglpbhjnmdaaDoor
open Go.RowKit

/-- A small hexadecimal digit; what it stands for; what a row of them stands for. -/
def isHex (c : UInt8) : Bool := decide (48 ≤ c.toNat ∧ c.toNat ≤ 57) || decide (97 ≤ c.toNat ∧ c.toNat ≤ 102)
def hexV (c : UInt8) : Nat := if c.toNat ≤ 57 then c.toNat - 48 else c.toNat - 87
def hexN (acc : Nat) : List UInt8 → Nat
  | [] => acc
  | c :: r => hexN (acc * 16 + hexV c) r

theorem bytes_below (w : World) (t : ByteArray) : Below w.heap.size w (Lib.bytesWorld w 5 t) := by
  exact Lib.bytesWorld_below _ _ _

theorem lower_small (c : UInt8) (h0 : 97 ≤ c.toNat) (h1 : c.toNat ≤ 102) : bits .or .u8 (c.toNat : Int) 32 = (c.toNat : Int) := by
  have : c.toNat = 97 ∨ c.toNat = 98 ∨ c.toNat = 99 ∨ c.toNat = 100 ∨ c.toNat = 101 ∨ c.toNat = 102 := by omega
  rcases this with h | h | h | h | h | h <;> rw [h] <;> decide

theorem pow16 {k : Nat} (h : k ≤ 15) : 16 ^ k ≤ 1152921504606846976 := Nat.le_trans (Nat.pow_le_pow_right (by decide) h) (by decide)

set_option maxHeartbeats 32000000 in
set_option maxRecDepth 100000 in
theorem uint16_good (t : ByteArray) (hne : t.size ≠ 0) (hmax : t.size ≤ 16) (hall : ∀ c ∈ t.data.toList, isHex c = true) (w : World) :
    Calls Tryd.prog 64 #[.string t, .int .i64 16, .int .i64 64] w fun e w' => e = .returned (.tuple #[.int .u64 (hexN 0 t.data.toList : Nat), .nilIface]) ∧ w' = Lib.bytesWorld w 5 t := by
  have hemp : t.toList.isEmpty = false := by
    rw [← decide_eq_emptyBytes]
    exact decide_eq_false (fun h => hne (by rw [h]; rfl))
  have hcv := Lib.run_convert_string_bytes (P := Tryd.prog) w 9 82 5 t (u := .string) Tryd.underlying9 Tryd.underlying82 Tryd.underlying5
  have hB : ∀ j, j < t.size → (Lib.bytesWorld w 5 t).cell? ⟨w.heap.size, j, none⟩ = some (.int .u8 (t.data.toList.getD j 0).toNat) := fun j hj => Lib.bytesWorld_cell w 5 t j hj
  obtain ⟨W1, hW1⟩ : ∃ W1, W1 = Lib.bytesWorld w 5 t := ⟨_, rfl⟩
  rw [← hW1] at hcv hB ⊢
  clear hW1
  obtain ⟨bs, hL⟩ : ∃ bs, bs = t.data.toList := ⟨_, rfl⟩
  have hLn : bs.length = t.size := by rw [hL, Lib.size_eq]
  rw [← hL] at hB hall ⊢
  clear hL
  have hmv : IntKind.u64.wrap (IntKind.u64.wrap 18446744073709551616 - 1) = 18446744073709551615 := by
    rw [IntKind.wrap_u64, IntKind.wrap_u64]
    decide
  go_enter Tryd.func64, Tryd.ntmps64
  go_wp2
  go_loop [12, 13, 101] (fun vu vn vi => ∃ (k acc : Nat) (a : Int), vu = .bool false ∧ vn = .int .u64 a ∧ vi = .int .i64 k ∧ k ≤ t.size ∧ Hid (a = (acc : Int) ∧ acc < 16 ^ k ∧ hexN 0 bs = hexN acc (bs.drop k)))
    (fun _ _ vi => t.size - (intOf vi).toNat)
  case atStart => exact ⟨0, 0, 0, rfl, rfl, rfl, by omega, rfl, by decide, rfl⟩
  case round =>
    obtain ⟨k, acc, a, rfl, rfl, rfl, hk, hh⟩ := hrel
    obtain ⟨ha, hacc, hdec⟩ := hh.out
    clear hh
    by_cases hkn : k < t.size
    · have hp := pow16 (show k ≤ 15 by omega)
      have hps : 16 ^ (k + 1) = 16 ^ k * 16 := Nat.pow_succ 16 k
      have a0 : 0 ≤ a := by omega
      have a1 : a < 1152921504606846976 := by omega
      have hc := hB k hkn
      have hdrop : bs.drop k = bs[k]'(by omega) :: bs.drop (k + 1) := List.drop_eq_getElem_cons (by omega)
      have hget : bs.getD k 0 = bs[k]'(by omega) := by simp [List.getD, List.getElem?_eq_getElem (show k < bs.length by omega)]
      have hx : isHex (bs[k]'(by omega)) = true := hall _ (List.getElem_mem _)
      rw [hdrop] at hdec
      rw [hget] at hc
      generalize bs[k]'(by omega) = c at hc hdec hx
      have hc256 : c.toNat < 256 := c.toNat_lt
      simp only [isHex, Bool.or_eq_true, decide_eq_true_eq] at hx
      clear hB hdrop hget hall
      rcases hx with ⟨hd0, hd1⟩ | ⟨hd0, hd1⟩
      · have hv : hexV c = c.toNat - 48 := by unfold hexV; rw [if_pos hd1]
        have HN : Hid (a * 16 + ((c.toNat : Int) - 48) = ((acc * 16 + hexV c : Nat) : Int) ∧ acc * 16 + hexV c < 16 ^ (k + 1) ∧ hexN 0 bs = hexN (acc * 16 + hexV c) (bs.drop (k + 1))) :=
          Lib.hid ⟨by rw [hv]; omega, by rw [hv]; omega, hdec⟩
        clear hacc hdec ha hp hps hv
        go_wp2
        refine ⟨⟨k + 1, acc * 16 + hexV c, a * 16 + ((c.toNat : Int) - 48), rfl, (by first | rfl | (congr 1; omega)), (by first | rfl | (congr 1; omega)), by omega, HN⟩, by simp [intOf]; omega⟩
      · have hv : hexV c = c.toNat - 87 := by unfold hexV; rw [if_neg (by omega)]
        have HN : Hid (a * 16 + ((c.toNat : Int) - 97 + 10) = ((acc * 16 + hexV c : Nat) : Int) ∧ acc * 16 + hexV c < 16 ^ (k + 1) ∧ hexN 0 bs = hexN (acc * 16 + hexV c) (bs.drop (k + 1))) :=
          Lib.hid ⟨by rw [hv]; omega, by rw [hv]; omega, hdec⟩
        have hlow := lower_small c hd0 hd1
        clear hacc hdec ha hp hps hv
        go_wp2_with (go_at_call 69; refine (Tryd.internal_strconv_lower _ _).mono ?_; rintro e w' ⟨rfl, rfl⟩; rw [hlow])
        refine ⟨⟨k + 1, acc * 16 + hexV c, a * 16 + ((c.toNat : Int) - 97 + 10), rfl, (by first | rfl | (congr 1; omega)), (by first | rfl | (congr 1; omega)), by omega, HN⟩, by simp [intOf]; omega⟩
    · have hkk : k = t.size := by omega
      subst hkk
      have hF : hexN acc (bs.drop t.size) = acc := by rw [List.drop_eq_nil_of_le (by omega)]; rfl
      rw [hF] at hdec
      subst ha
      clear hacc hF hB hall
      go_wp2
      go_ret2
      exact ⟨rfl, rfl⟩

set_option maxHeartbeats 32000000 in
set_option maxRecDepth 100000 in
theorem uint16_some (t : ByteArray) (hne : t.size ≠ 0) (hmax : t.size ≤ 100000) (w : World) :
    Calls Tryd.prog 64 #[.string t, .int .i64 16, .int .i64 64] w fun e w' => (∃ x v, e = .returned (.tuple #[.int .u64 x, v]) ∧ (v = .nilIface ∨ v = .iface 97 (.int .i64 1) ∨ v = .iface 97 (.int .i64 2))) ∧ Below w.heap.size w w' := by
  have hemp : t.toList.isEmpty = false := by
    rw [← decide_eq_emptyBytes]
    exact decide_eq_false (fun h => hne (by rw [h]; rfl))
  have hcv := Lib.run_convert_string_bytes (P := Tryd.prog) w 9 82 5 t (u := .string) Tryd.underlying9 Tryd.underlying82 Tryd.underlying5
  have hB : ∀ j, j < t.size → (Lib.bytesWorld w 5 t).cell? ⟨w.heap.size, j, none⟩ = some (.int .u8 (t.data.toList.getD j 0).toNat) := fun j hj => Lib.bytesWorld_cell w 5 t j hj
  have hW : Below w.heap.size w (Lib.bytesWorld w 5 t) := bytes_below w t
  obtain ⟨W1, hW1⟩ : ∃ W1, W1 = Lib.bytesWorld w 5 t := ⟨_, rfl⟩
  rw [← hW1] at hcv hB hW
  clear hW1
  generalize t.data.toList = bs at hB
  have hmv : IntKind.u64.wrap (IntKind.u64.wrap 18446744073709551616 - 1) = 18446744073709551615 := by
    rw [IntKind.wrap_u64, IntKind.wrap_u64]
    decide
  go_enter Tryd.func64, Tryd.ntmps64
  go_wp2
  go_loop [12, 13, 101] (fun vu vn vi => ∃ (k : Nat) (a : Int), vu = .bool false ∧ vn = .int .u64 a ∧ vi = .int .i64 k ∧ k ≤ t.size ∧ 0 ≤ a ∧ a < 18446744073709551616)
    (fun _ _ vi => t.size - (intOf vi).toNat)
  case atStart => exact ⟨0, 0, rfl, rfl, rfl, by omega, by omega, by omega⟩
  case round =>
    obtain ⟨k, a, rfl, rfl, rfl, hk, a0, a1⟩ := hrel
    by_cases hkn : k < t.size
    · have hc := hB k hkn
      generalize bs.getD k 0 = c at hc
      have hc256 : c.toNat < 256 := c.toNat_lt
      clear hB
      have hv0 := bits_lo_u8 .or (c.toNat : Int) 32
      have hv1 := bits_hi_u8 .or (c.toNat : Int) 32
      have hu0 := bits_lo_u8 .or 95 32
      have hu1 := bits_hi_u8 .or 95 32
      go_wp2_with (go_at_call 69; refine (Tryd.internal_strconv_lower _ _).mono ?_; rintro e w' ⟨rfl, rfl⟩)
      all_goals first
        | (go_ret2; exact ⟨⟨_, _, rfl, by simp⟩, hW⟩)
        | skip
      all_goals exact ⟨⟨k + 1, _, rfl, rfl, by go_num, by omega, by omega, by omega⟩, by simp [intOf]; omega⟩
    · have hkk : k = t.size := by omega
      subst hkk
      clear hB
      go_wp2
      go_ret2
      exact ⟨⟨_, _, rfl, by simp⟩, hW⟩

end Go.Proofs.YtkeeglpbhjnmdaaDoor
