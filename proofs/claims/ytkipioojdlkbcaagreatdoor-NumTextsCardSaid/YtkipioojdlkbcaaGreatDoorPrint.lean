/- Contracts of Print: what text it returns of an int, and of a float. -/
import Derived.Test.YtkipioojdlkbcaaGreatDoorNumA
import Derived.Test.YtkipioojdlkbcaaGreatDoorFmtA
import Derived.Test.YtkipioojdlkbcaaGreatDoorShelf
import Derived.Sort.Grow
namespace Go.Proofs.YtkipioojdlkbcaaGreatDoor
open Go.RowKit

theorem ret_str {a b : ByteArray} (h : a = b) : Ending.returned (.string a) = .returned (.string b) := by rw [h]

theorem below_grow (w : World) (k : Nat) (os : Array Obj) : Below w.heap.size w (Go.Sort.grow (w.drewN k) os) :=
  ⟨rfl, rfl, rfl, by simp [Go.Sort.grow, World.drewN], fun i hi => by simp [Go.Sort.grow, World.drewN, Array.getElem?_append, hi]⟩

set_option maxRecDepth 100000 in
set_option maxHeartbeats 1000000 in
theorem formatUint16_in (u : Nat) (hu : u < 18446744073709551616) (w : World) (hc : w.cell? ⟨6, 15, none⟩ = some (.int .u8 4)) :
    Calls Tryz.prog 30 #[.int .u64 u, .int .i64 16] w fun e w' => e = .returned (.string ⟨(hexL u).toArray⟩) ∧ Below w.heap.size w w' := by
  have H := Lib.hid (fbits u hu w hc)
  clear hc
  go_enter Tryz.func30, Tryz.ntmps30
  go_wp2_with (go_at_call 61; refine H.out.mono ?_; rintro e w' ⟨rfl, hb⟩)
  go_ret
  exact ⟨rfl, by assumption⟩

set_option maxRecDepth 100000 in
set_option maxHeartbeats 1000000 in
theorem formatUint16 (u : Nat) (hu : u < 18446744073709551616) (w : World) (hc : w.cell? ⟨6, 15, none⟩ = some (.int .u8 4)) :
    Calls Tryz.prog 19 #[.int .u64 u, .int .i64 16] w fun e w' => e = .returned (.string ⟨(hexL u).toArray⟩) ∧ Below w.heap.size w w' := by
  have H := Lib.hid (formatUint16_in u hu w hc)
  clear hc
  go_enter Tryz.func19, Tryz.ntmps19
  go_wp2_with (go_at_call 30; refine H.out.mono ?_; rintro e w' ⟨rfl, hb⟩)
  go_ret
  exact ⟨rfl, by assumption⟩

theorem tabIs_below {P : Program} {w w' : World} {name : String} {k : IntKind} {zs : List Int} (h : Lib.TabIs P w name k zs) (hb : Below w.heap.size w w') : Lib.TabIs P w' name k zs := by
  unfold Lib.TabIs World.var? at *
  cases hg : P.globalNamed name with
  | none => simp [hg] at h
  | some g =>
    simp only [hg, Option.bind_some] at h ⊢
    have hlt : g < w.heap.size := by
      rcases Nat.lt_or_ge g w.heap.size with h' | h'
      · exact h'
      · rw [Array.getElem?_eq_none h'] at h; simp at h
    rw [hb.block g hlt]
    exact h

theorem wrap64_range (x : Int) : -9223372036854775808 ≤ wrap64 x ∧ wrap64 x ≤ 9223372036854775807 := by unfold wrap64; omega

set_option maxRecDepth 100000 in
set_option maxHeartbeats 1000000 in
theorem print_int (x : Int) (w : World) (htab : Lib.TabIs Tryz.prog w "internal/strconv.uint64pow10" .u64 Lib.pow10Tab) :
    Calls Tryz.prog 7 #[.agg #[.bool false, .int .u64 x]] w fun e w' => e = .returned (.string ⟨(Lib.itoa (wrap64 x)).toArray⟩) ∧ Below w.heap.size w w' := by
  have ht := Lib.hid (Lib.tabIs_alloc htab)
  have hr := Lib.hid (wrap64_range x)
  clear htab
  go_enter Tryz.func7, Tryz.ntmps7
  go_wp2_with fail
  refine (toInt_any _ _ _).mono ?_
  rintro e w1 ⟨rfl, hb⟩
  have HT := Lib.hid (tabIs_below (ht.out _) hb)
  have hB : Below w.heap.size w w1 := ((Below.refl _ _).alloc (Nat.le_refl _) _).trans (hb.mono (by simp))
  clear hb
  go_wp2_with fail
  refine (Tryz.strconv_FormatInt_10 _ hr.out.1 hr.out.2 _ HT.out).mono ?_
  rintro e w2 ⟨rfl, k, os, rfl⟩
  have hB2 : Below w.heap.size w (Go.Sort.grow (w1.drewN k) os) := hB.trans ((below_grow w1 k os).mono hB.size)
  go_wp2_with fail
  go_ret
  exact ⟨rfl, hB2⟩

/-- A float's text: 0f, and its bits as sixteen digits. -/
def fltL (b : Nat) : List UInt8 := 48 :: 102 :: (List.replicate (16 - (hexL b).length) 48 ++ hexL b)

theorem hexL_length (u : Nat) (hu : u < 18446744073709551616) : (hexL u).length ≤ 16 ∧ 1 ≤ (hexL u).length := by
  unfold hexL; rw [hexK_length]
  by_cases h : u = 0
  · subst h; decide
  · have : u.log2 < 64 := (Nat.log2_lt h).2 hu
    omega

theorem repeatL_one (c : Nat) : Lib.repeatL [48] c = List.replicate c (48 : UInt8) := by
  induction c with
  | zero => rfl
  | succ n ih => rw [List.replicate_succ, ← ih]; rfl

set_option maxRecDepth 100000 in
set_option maxHeartbeats 1000000 in
theorem print_float (b : Nat) (hb64 : b < 18446744073709551616) (w : World) (hc : w.cell? ⟨6, 15, none⟩ = some (.int .u8 4)) :
    Calls Tryz.prog 7 #[.agg #[.bool true, .int .u64 b]] w fun e w' => e = .returned (.string ⟨(fltL b).toArray⟩) ∧ Below w.heap.size w w' := by
  have hlt := World.block_lt_of_cell? _ _ hc
  have H : ∀ o, Calls Tryz.prog 19 #[.int .u64 b, .int .i64 16] (w.alloc o) fun e w' => e = .returned (.string ⟨(hexL b).toArray⟩) ∧ Below (w.alloc o).heap.size (w.alloc o) w' := fun o =>
    formatUint16 b hb64 _ (by rw [World.cell?_alloc_lt _ _ _ hlt]; exact hc)
  have H := Lib.hid H
  have hL := hexL_length b hb64
  have HF : Hid (fltL b = 48 :: 102 :: (List.replicate (16 - (hexL b).length) 48 ++ hexL b)) := rfl
  clear hc hlt
  generalize fltL b = R at HF ⊢
  generalize hexL b = L at H hL HF ⊢
  have HR : ∀ w, Calls Tryz.prog 20 #[.string ⟨#[48]⟩, .int .i64 (16 - (L.length : Int))] w fun e w' => e = .returned (.string ⟨(List.replicate (16 - L.length) (48 : UInt8)).toArray⟩) ∧ Below w.heap.size w w' := fun w => by
    have := Tryz.strings_Repeat ⟨#[48]⟩ (16 - L.length) w (by omega) (by show 1 * _ ≤ _; omega)
    rw [show ((16 - L.length : Nat) : Int) = 16 - (L.length : Int) by omega] at this
    rw [show (⟨#[48]⟩ : ByteArray).data.toList = [48] from rfl, repeatL_one] at this
    exact this
  have HR := Lib.hid HR
  have hL2 : (0 : Int) ≤ 16 - (L.length : Int) ∧ 16 - (L.length : Int) ≤ 16 := by omega
  go_enter Tryz.func7, Tryz.ntmps7
  go_wp2_with fail
  refine (H.out _).mono ?_
  rintro e w1 ⟨rfl, hb⟩
  have hB : Below w.heap.size w w1 := ((Below.refl _ _).alloc (Nat.le_refl _) _).trans (hb.mono (by simp))
  clear hb
  go_wp2_with fail
  refine (HR.out _).mono ?_
  rintro e w2 ⟨rfl, hb2⟩
  have hB2 := hB.trans (hb2.mono hB.size)
  clear hb2 hB
  go_wp2_with fail
  go_ret
  refine ⟨ret_str ?_, hB2⟩
  rw [HF.out]
  apply ByteArray.ext
  rw [ByteArray.data_append, ByteArray.data_append]
  apply Array.ext'
  simp

end Go.Proofs.YtkipioojdlkbcaaGreatDoor
