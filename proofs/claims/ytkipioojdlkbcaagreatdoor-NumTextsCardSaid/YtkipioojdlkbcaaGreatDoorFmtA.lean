/- The library's formatting of an unsigned number to base 16: what it returns. -/
import Derived.Test.YtkipioojdlkbcaaGreatDoorChecked
import Derived.WalkKit
import Derived.WalkSpells
import Derived.WalkLawsBesides
import Derived.Deep.DeepCutAuto
import Derived.KernelRfl
import Derived.Lib.Hide
import Derived.Lib.ItoaWalk
namespace Go.Proofs.YtkipioojdlkbcaaGreatDoor
open Go.RowKit

set_option maxRecDepth 100000 in
set_option maxHeartbeats 1000000 in
theorem tz_16 (w : World) (hc : w.cell? ⟨6, 15, none⟩ = some (.int .u8 4)) :
    Calls Tryz.prog 84 #[.int .u64 16] w fun e w' => e = .returned (.int .i64 4) ∧ Below w.heap.size w w' := by
  have e1 : bits BinOp.and IntKind.u64 16 (IntKind.u64.wrap (-16)) = 16 := by decide
  have e2 : IntKind.u64.wrap (16 * 285870213051353865) = 4573923408821661840 := by decide
  go_enter Tryz.func84, Tryz.ntmps84
  go_wp2
  go_ret
  exact ⟨rfl, Below.refl _ _⟩

set_option maxRecDepth 100000 in
set_option maxHeartbeats 1000000 in
theorem ipow_16 (w : World) :
    Calls Tryz.prog 83 #[.int .i64 16] w fun e w' => e = .returned (.bool true) ∧ Below w.heap.size w w' := by
  have e1 : bits BinOp.and IntKind.i64 16 15 = 0 := by decide
  go_enter Tryz.func83, Tryz.ntmps83
  go_wp2
  go_ret
  exact ⟨rfl, Below.refl _ _⟩

/-- A hex digit's byte. -/
def hd (d : Nat) : Int := if d < 10 then 48 + d else 87 + d

/-- The buffer's byte j behind k rounds. -/
def gk (u k j : Nat) : Int := if 65 ≤ j + k then hd (u / 16 ^ (64 - j) % 16) else 0

/-- A hex digit's byte, as a byte. -/
def hdB (d : Nat) : UInt8 := if d < 10 then UInt8.ofNat (48 + d) else UInt8.ofNat (87 + d)

theorem hdB_hd (d : Nat) (h : d < 16) : ((hdB d).toNat : Int) = hd d := by
  have h : d = 0 ∨ d = 1 ∨ d = 2 ∨ d = 3 ∨ d = 4 ∨ d = 5 ∨ d = 6 ∨ d = 7 ∨ d = 8 ∨ d = 9 ∨ d = 10 ∨ d = 11 ∨ d = 12 ∨ d = 13 ∨ d = 14 ∨ d = 15 := by omega
  rcases h with h | h | h | h | h | h | h | h | h | h | h | h | h | h | h | h <;> subst h <;> rfl

/-- The k + 1 digits of u to base 16. -/
def hexK (u k : Nat) : List UInt8 := (List.range (k + 1)).map fun j => hdB (u / 16 ^ (k - j) % 16)

/-- A number's digits to base 16, without noughts ahead. -/
def hexL (u : Nat) : List UInt8 := hexK u (u.log2 / 4)

theorem hexK_length (u k : Nat) : (hexK u k).length = k + 1 := by simp [hexK]

theorem hex_last {u k : Nat} (h1 : k = 0 ∨ 16 ^ k ≤ u) (h2 : u / 16 ^ k < 16) : k = u.log2 / 4 := by
  have p : ∀ n, (16 : Nat) ^ n = 2 ^ (4 * n) := fun n => by rw [Nat.pow_mul]
  by_cases hu : u = 0
  · subst hu
    rcases h1 with h1 | h1
    · rw [h1]; rfl
    · have := Nat.two_pow_pos (4 * k); rw [p] at h1; omega
  · have a : 4 * k ≤ u.log2 := by
      rcases h1 with h1 | h1
      · omega
      · rw [p] at h1; exact (Nat.le_log2 hu).2 h1
    have b : u.log2 < 4 * (k + 1) := by
      rw [Nat.log2_lt hu, ← p, Nat.pow_succ]
      rw [Nat.div_lt_iff_lt_mul (Nat.pow_pos (by decide))] at h2
      omega
    omega

/-- What holds behind k rounds. -/
def LoopI (w : World) (u k v i : Nat) (wr : World) : Prop :=
  i + k = 65 ∧ v = u / 16 ^ k ∧ Below w.heap.size w wr ∧ w.heap.size + 1 ≤ wr.heap.size ∧ (∀ j, j < 65 → wr.cell? ⟨w.heap.size, j, none⟩ = some (.int .u8 (gk u k j))) ∧ (∀ j, j < 65 → wr.frozen? ⟨w.heap.size, j, none⟩ = false)

/-- The 36 digits. -/
def DIG : ByteArray := ⟨#[48, 49, 50, 51, 52, 53, 54, 55, 56, 57, 97, 98, 99, 100, 101, 102, 103, 104, 105, 106, 107, 108, 109, 110, 111, 112, 113, 114, 115, 116, 117, 118, 119, 120, 121, 122]⟩

theorem dig_at (d : Nat) (hd16 : d < 16) (w : World) : (Instr.index 9 (.string DIG) (.int .u64 (d : Int))).run Tryz.prog w = .ok (.int .u8 (hd d)) w := by
  have h : d = 0 ∨ d = 1 ∨ d = 2 ∨ d = 3 ∨ d = 4 ∨ d = 5 ∨ d = 6 ∨ d = 7 ∨ d = 8 ∨ d = 9 ∨ d = 10 ∨ d = 11 ∨ d = 12 ∨ d = 13 ∨ d = 14 ∨ d = 15 := by omega
  rcases h with h | h | h | h | h | h | h | h | h | h | h | h | h | h | h | h <;> subst h <;>
    (rw [run_index_string w 9 DIG .u64 _ Tryz.underlying9]; rfl)

theorem loopI_store {w : World} {u k v i : Nat} {wr : World} (h : LoopI w u k v i wr) (hi : 1 ≤ i) :
    LoopI w u (k + 1) (v / 16) (i - 1) (wr.setCell ⟨w.heap.size, i - 1, none⟩ (.int .u8 (hd (v % 16)))) := by
  obtain ⟨h1, h2, h3, h4, h5, h6⟩ := h
  refine ⟨by omega, by rw [h2, Nat.pow_succ, Nat.div_div_eq_div_mul], h3.setCell (by simp) _, by simpa using h4, fun j hj => ?_, fun j hj => by simpa using h6 j hj⟩
  by_cases e : j = i - 1
  · subst e
    rw [World.cell?_setCell_same _ _ _ (h5 _ hj)]
    have e1 : gk u (k + 1) (i - 1) = hd (v % 16) := by
      unfold gk; rw [if_pos (by omega), show 64 - (i - 1) = k by omega, h2]
    rw [e1]
  · rw [World.cell?_setCell_other (h := by intro q; injection q; omega), h5 j hj]
    have e1 : gk u (k + 1) j = gk u k j := by
      unfold gk
      by_cases c : 65 ≤ j + k
      · rw [if_pos c, if_pos (by omega)]
      · rw [if_neg c, if_neg (by omega)]
    rw [e1]

theorem bits15 (v : Nat) (hv : v < 18446744073709551616) : bits BinOp.and IntKind.u64 (v : Int) 15 = ((v % 16 : Nat) : Int) := by
  have := u64_and_nat v 15 hv (by decide)
  rw [show ((15 : Nat) : Int) = 15 from rfl] at this
  rw [this, Nat.and_two_pow_sub_one_eq_mod v 4]

set_option maxRecDepth 100000 in
set_option maxHeartbeats 1000000 in
theorem fbits (u : Nat) (hu : u < 18446744073709551616) (w : World) (hc : w.cell? ⟨6, 15, none⟩ = some (.int .u8 4)) :
    Calls Tryz.prog 61 #[.slice none 0 0, .int .u64 u, .int .i64 16, .bool false, .bool false] w fun e w' => e = .returned (.tuple #[.slice none 0 0, .string ⟨(hexL u).toArray⟩]) ∧ Below w.heap.size w w' := by
  have hlt : 6 < w.heap.size := World.block_lt_of_cell? _ _ hc
  obtain ⟨W0, hW0⟩ : ∃ W0, W0 = w.alloc (Obj.cells Tryz.zeroCells106 106) := ⟨_, rfl⟩
  have hc0 : W0.cell? ⟨6, 15, none⟩ = some (.int .u8 4) := by rw [hW0, World.cell?_alloc_lt _ _ _ hlt]; exact hc
  have hs0 : w.heap.size + 1 ≤ W0.heap.size := by rw [hW0]; simp
  have z0 : LoopI w u 0 u 65 W0 := by
    refine ⟨rfl, by simp, by rw [hW0]; exact (Below.refl _ _).alloc (Nat.le_refl _) _, hs0, fun j hj => ?_, fun j hj => by rw [hW0, World.frozen?_alloc_new]⟩
    rw [hW0, World.cell?_alloc_new]
    have e : Tryz.zeroCells106 = Array.replicate 65 (.int .u8 0) := by kernel_rfl
    rw [e, Array.getElem?_replicate, if_pos hj]
    unfold gk; rw [if_neg (by omega)]
  have HW := Lib.hid hW0; clear hW0
  clear hc
  go_enter Tryz.func61, Tryz.ntmps61
  go_wp2_with fail
  rw [← HW.out]
  clear HW
  refine (ipow_16 _).mono ?_
  rintro e w1 ⟨rfl, hb⟩
  go_wp2_with fail
  refine (tz_16 _ ((hb.cell (by simp; omega)).trans hc0)).mono ?_
  rintro e w2 ⟨rfl, hb2⟩
  have hI : LoopI w u 0 u 65 w2 := by
    obtain ⟨h1, h2, h3, h4, h5, h6⟩ := z0
    have hb' := hb.trans (hb2.mono hb.size)
    have hs := hb'.size
    exact ⟨h1, h2, h3.trans (hb'.mono (by omega)), by omega, fun j hj => (hb'.cell (by simp; omega)).trans (h5 j hj), fun j hj => (hb'.frozen (by simp; omega)).trans (h6 j hj)⟩
  clear hb hb2 z0 hc0 hs0 hlt
  go_wp2_with fail
  go_name_bytes SM hSM
  have eSM : SM = DIG := by rw [← hSM]; rfl
  subst eSM
  clear hSM
  go_loopw [1, 13] (fun vu vi wr => ∃ k v i : Nat, vu = .int .u64 v ∧ vi = .int .i64 i ∧ LoopI w u k v i wr ∧ (k = 0 ∨ 16 ^ k ≤ u)) (fun vu _ _ => (intOf vu).toNat)
  case atStart => exact ⟨0, u, 65, rfl, rfl, hI, Or.inl rfl⟩
  case round =>
    obtain ⟨k, v, i, rfl, rfl, hL, hk⟩ := hrel
    rename World => W
    have hv64 : v < 18446744073709551616 := by rw [hL.2.1]; exact Nat.lt_of_le_of_lt (Nat.div_le_self _ _) hu
    by_cases h16 : 16 ≤ v
    · have hi : 1 ≤ i ∧ i ≤ 65 := by
        have := hL.1
        have h2 := hL.2.1
        refine ⟨?_, by omega⟩
        apply Classical.byContradiction
        intro hn
        have hk : k = 65 := by omega
        rw [hk] at h2
        have : u / 16 ^ 65 = 0 := Nat.div_eq_of_lt (Nat.lt_trans hu (by decide))
        omega
      have hcell : W.cell? ⟨w.heap.size, i - 1, none⟩ = some (.int .u8 (gk u k (i - 1))) := hL.2.2.2.2.1 _ (by omega)
      have hfro : W.frozen? ⟨w.heap.size, i - 1, none⟩ = false := hL.2.2.2.2.2 _ (by omega)
      have hb15 := bits15 v hv64
      rw [show (((v % 16 : Nat)) : Int) = (v : Int) % 16 by omega] at hb15
      have hX : ∀ w, (Instr.index 9 (.string DIG) (.int .u64 ((v : Int) % 16))).run Tryz.prog w = .ok (.int .u8 (hd (v % 16))) w := fun w => by
        have := dig_at (v % 16) (by omega) w
        rwa [show (((v % 16 : Nat)) : Int) = (v : Int) % 16 by omega] at this
      have hv16 : 0 ≤ (v : Int) % 16 ∧ (v : Int) % 16 < 16 := by omega
      have hoff : ((i : Int) - 1).toNat = i - 1 := by omega
      have HL := Lib.hid hL
      have HK : Hid (16 ^ (k + 1) ≤ u) := by
        have h2 := hL.2.1
        rw [h2, Nat.le_div_iff_mul_le (Nat.pow_pos (by decide))] at h16
        show 16 ^ (k + 1) ≤ u
        rw [Nat.pow_succ]; omega
      clear hL hI hk
      go_wp2
      exact ⟨⟨k + 1, v / 16, i - 1, congrArg (Value.int .u64) (by omega), congrArg (Value.int .i64) (by omega), loopI_store HL.out hi.1, Or.inr HK.out⟩, by simp [intOf]; omega⟩
    · have hkl := hex_last hk (by rw [← hL.2.1]; omega)
      have hi : 1 ≤ i ∧ i ≤ 65 ∧ i - 1 = 64 - k ∧ k ≤ 64 := by
        have := hL.1
        have h2 : u.log2 / 4 ≤ 15 := by
          by_cases hu0 : u = 0
          · subst hu0; decide
          · have : u.log2 < 64 := (Nat.log2_lt hu0).2 hu
            omega
        omega
      have hcell : W.cell? ⟨w.heap.size, i - 1, none⟩ = some (.int .u8 (gk u k (i - 1))) := hL.2.2.2.2.1 _ (by omega)
      have hfro : W.frozen? ⟨w.heap.size, i - 1, none⟩ = false := hL.2.2.2.2.2 _ (by omega)
      have hX : ∀ w, (Instr.index 9 (.string ⟨#[48, 49, 50, 51, 52, 53, 54, 55, 56, 57, 97, 98, 99, 100, 101, 102, 103, 104, 105, 106, 107, 108, 109, 110, 111, 112, 113, 114, 115, 116, 117, 118, 119, 120, 121, 122]⟩) (.int .u64 (v : Int))).run Tryz.prog w = .ok (.int .u8 (hd v)) w := fun w => dig_at v (by omega) w
      have hoff : ((i : Int) - 1).toNat = i - 1 := by omega
      have hsl : ∀ W, (Instr.sliceAt 106 (.pointer (some ⟨w.heap.size, 0, none⟩)) (some (.int .i64 ((i : Int) - 1))) none none).run Tryz.prog W = .ok (.slice (some ⟨w.heap.size, i - 1, none⟩) (66 - i) (66 - i)) W := fun W => by
        have hal : Tryz.prog.arrayLen 106 = 65 := by kernel_rfl
        rw [run_sliceAt_array_l W 106 ⟨w.heap.size, 0, none⟩ (by kernel_rfl) .i64 ((i : Int) - 1) (by omega) (by rw [hal]; omega)]
        rw [hal]
        go_simp
        omega
      have hL2 := loopI_store hL hi.1
      have hv16 : v % 16 = v := by omega
      rw [hv16] at hL2
      have hcv : (convert 61 9 (.slice (some ⟨w.heap.size, i - 1, none⟩) (66 - i) (66 - i))).run Tryz.prog (W.setCell ⟨w.heap.size, i - 1, none⟩ (.int .u8 (hd v))) = .ok (.string ⟨(hexL u).toArray⟩) (W.setCell ⟨w.heap.size, i - 1, none⟩ (.int .u8 (hd v))) := by
        have h := run_convert_bytes_back (P := Tryz.prog) (W.setCell ⟨w.heap.size, i - 1, none⟩ (.int .u8 (hd v))) 61 9 5 ⟨w.heap.size, i - 1, none⟩ (66 - i) (hexK u k) Tryz.underlying61 Tryz.underlying5 Tryz.underlying9 (fun j hj => by
          rw [hexK_length] at hj
          have ea : (⟨w.heap.size, i - 1, none⟩ : Addr).add j = ⟨w.heap.size, i - 1 + j, none⟩ := by
            unfold Addr.add
            split
            · rename_i h; subst h; rfl
            · rfl
          rw [ea, hL2.2.2.2.2.1 _ (by omega)]
          have e1 : gk u (k + 1) (i - 1 + j) = ((hexK u k)[j]'(by rw [hexK_length]; omega)).toNat := by
            unfold gk
            rw [if_pos (by omega)]
            simp only [hexK, List.getElem_map, List.getElem_range]
            rw [hdB_hd _ (Nat.mod_lt _ (by decide)), show 64 - (i - 1 + j) = k - j by omega]
          rw [e1])
        rw [hexK_length, show k + 1 = 66 - i by omega] at h
        unfold hexL
        rw [← hkl]
        exact h
      have HB : Hid (Below w.heap.size w (W.setCell ⟨w.heap.size, i - 1, none⟩ (.int .u8 (hd v)))) := hL2.2.2.1
      have hi1 := hi.1
      have hi2 := hi.2.1
      clear hL hL2 hI hk hkl hv16 hi
      go_wp2
      go_ret2
      exact ⟨rfl, HB.out⟩
end Go.Proofs.YtkipioojdlkbcaaGreatDoor
