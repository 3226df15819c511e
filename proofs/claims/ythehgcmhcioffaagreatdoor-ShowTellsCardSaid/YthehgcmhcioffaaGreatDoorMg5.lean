import Derived.WalkKit
import Derived.WalkSpells
import Derived.WalkLawsBesides
import Derived.Deep.RegionHeld3
import Derived.Deep.DeepCutAuto
import Derived.KernelRfl
import Derived.Lib.Hide
import Derived.Lib.ItoaWalk
import Derived.Sort.Grow
import Derived.Test.YthehgcmhcioffaaGreatDoorMg1
import Derived.Test.YthehgcmhcioffaaGreatDoorMg2
import Derived.Test.YthehgcmhcioffaaGreatDoorMg3
import Derived.Test.YthehgcmhcioffaaGreatDoorMg4
namespace Go.Proofs.YthehgcmhcioffaaGreatDoor
set_option maxHeartbeats 64000000
set_option maxRecDepth 100000
open Go.RowKit
theorem toInt_any (f : Bool) (n : Int) (w : World) :
    Calls Tryz.prog 152 #[.agg #[.bool f, .int .u64 n]] w fun e w' => e = .returned (.int .i64 (wrap64 n)) ∧ Below w.heap.size w w' := by
  go_enter Tryz.func152, Tryz.ntmps152
  go_wp2
  go_ret
  exact ⟨rfl, Br.alloc Nr _⟩
open Go.RowKit
theorem tz_16 (w : World) (hc : w.cell? ⟨22, 15, none⟩ = some (.int .u8 4)) :
    Calls Tryz.prog 160 #[.int .u64 16] w fun e w' => e = .returned (.int .i64 4) ∧ Below w.heap.size w w' := by
  have e1 : bits BinOp.and IntKind.u64 16 (IntKind.u64.wrap (-16)) = 16 := by decide
  have e2 : IntKind.u64.wrap (16 * 285870213051353865) = 4573923408821661840 := by decide
  go_enter Tryz.func160, Tryz.ntmps160
  go_wp2
  go_ret
  exact ⟨rfl, Below.refl _ _⟩
theorem ipow_16 (w : World) :
    Calls Tryz.prog 159 #[.int .i64 16] w fun e w' => e = .returned (.bool true) ∧ Below w.heap.size w w' := by
  have e1 : bits BinOp.and IntKind.i64 16 15 = 0 := by decide
  go_enter Tryz.func159, Tryz.ntmps159
  go_wp2
  go_ret
  exact ⟨rfl, Below.refl _ _⟩
def gk (u k j : Nat) : Int := if 65 ≤ j + k then hd (u / 16 ^ (64 - j) % 16) else 0
theorem hdB_hd (d : Nat) (h : d < 16) : ((hdB d).toNat : Int) = hd d := by
  have h : d = 0 ∨ d = 1 ∨ d = 2 ∨ d = 3 ∨ d = 4 ∨ d = 5 ∨ d = 6 ∨ d = 7 ∨ d = 8 ∨ d = 9 ∨ d = 10 ∨ d = 11 ∨ d = 12 ∨ d = 13 ∨ d = 14 ∨ d = 15 := by omega
  rcases h with h | h | h | h | h | h | h | h | h | h | h | h | h | h | h | h <;> subst h <;> rfl
theorem hex_last {u k : Nat} (h1 : k = 0 ∨ 16 ^ k ≤ u) (h2 : u / 16 ^ k < 16) : k = u.log2 / 4 := by
  have p : ∀ n, (16 : Nat) ^ n = 2 ^ (4 * n) := fun n => by rw [Nat.pow_mul]
  by_cases hu : u = 0
  · subst hu
    rcases h1 with h1 | h1
    · rw [h1]; rfl
    · have := Nat.two_pow_pos (4 * k); rw [p] at h1; omega
  · have a : 4 * k ≤ u.log2 := by
      rcases h1 with h1 | h1
      · omega
      · rw [p] at h1; exact (Nat.le_log2 hu).2 h1
    have b : u.log2 < 4 * (k + 1) := by
      rw [Nat.log2_lt hu, ← p, Nat.pow_succ]
      rw [Nat.div_lt_iff_lt_mul (Nat.pow_pos (by decide))] at h2
      omega
    omega
def LoopI (w : World) (u k v i : Nat) (wr : World) : Prop :=
  i + k = 65 ∧ v = u / 16 ^ k ∧ Below w.heap.size w wr ∧ w.heap.size + 1 ≤ wr.heap.size ∧ (∀ j, j < 65 → wr.cell? ⟨w.heap.size, j, none⟩ = some (.int .u8 (gk u k j))) ∧ (∀ j, j < 65 → wr.frozen? ⟨w.heap.size, j, none⟩ = false)
def DIG : ByteArray := ⟨#[48, 49, 50, 51, 52, 53, 54, 55, 56, 57, 97, 98, 99, 100, 101, 102, 103, 104, 105, 106, 107, 108, 109, 110, 111, 112, 113, 114, 115, 116, 117, 118, 119, 120, 121, 122]⟩
theorem dig_at (d : Nat) (hd16 : d < 16) (w : World) : (Instr.index 9 (.string DIG) (.int .u64 (d : Int))).run Tryz.prog w = .ok (.int .u8 (hd d)) w := by
  have h : d = 0 ∨ d = 1 ∨ d = 2 ∨ d = 3 ∨ d = 4 ∨ d = 5 ∨ d = 6 ∨ d = 7 ∨ d = 8 ∨ d = 9 ∨ d = 10 ∨ d = 11 ∨ d = 12 ∨ d = 13 ∨ d = 14 ∨ d = 15 := by omega
  rcases h with h | h | h | h | h | h | h | h | h | h | h | h | h | h | h | h <;> subst h <;>
    (rw [run_index_string w 9 DIG .u64 _ Tryz.underlying9]; rfl)
theorem loopI_store {w : World} {u k v i : Nat} {wr : World} (h : LoopI w u k v i wr) (hi : 1 ≤ i) :
    LoopI w u (k + 1) (v / 16) (i - 1) (wr.setCell ⟨w.heap.size, i - 1, none⟩ (.int .u8 (hd (v % 16)))) := by
  obtain ⟨h1, h2, h3, h4, h5, h6⟩ := h
  refine ⟨by omega, by rw [h2, Nat.pow_succ, Nat.div_div_eq_div_mul], h3.setCell (by simp) _, by simpa using h4, fun j hj => ?_, fun j hj => by simpa using h6 j hj⟩
  by_cases e : j = i - 1
  · subst e
    rw [World.cell?_setCell_same _ _ _ (h5 _ hj)]
    have e1 : gk u (k + 1) (i - 1) = hd (v % 16) := by
      unfold gk; rw [if_pos (by omega), show 64 - (i - 1) = k by omega, h2]
    rw [e1]
  · rw [World.cell?_setCell_other (h := by intro q; injection q; omega), h5 j hj]
    have e1 : gk u (k + 1) j = gk u k j := by
      unfold gk
      by_cases c : 65 ≤ j + k
      · rw [if_pos c, if_pos (by omega)]
      · rw [if_neg c, if_neg (by omega)]
    rw [e1]
theorem bits15 (v : Nat) (hv : v < 18446744073709551616) : bits BinOp.and IntKind.u64 (v : Int) 15 = ((v % 16 : Nat) : Int) := by
  have := u64_and_nat v 15 hv (by decide)
  rw [show ((15 : Nat) : Int) = 15 from rfl] at this
  rw [this, Nat.and_two_pow_sub_one_eq_mod v 4]
theorem fbits (u : Nat) (hu : u < 18446744073709551616) (w : World) (hc : w.cell? ⟨22, 15, none⟩ = some (.int .u8 4)) :
    Calls Tryz.prog 138 #[.slice none 0 0, .int .u64 u, .int .i64 16, .bool false, .bool false] w fun e w' => e = .returned (.tuple #[.slice none 0 0, .string ⟨(hexL u).toArray⟩]) ∧ Below w.heap.size w w' := by
  have hlt : 22 < w.heap.size := Bl hc
  obtain ⟨W0, hW0⟩ : ∃ W0, W0 = w.alloc (Obj.cells Tryz.zeroCells180 180) := ⟨_, rfl⟩
  have hc0 : W0.cell? ⟨22, 15, none⟩ = some (.int .u8 4) := by rw [hW0, World.cell?_alloc_lt _ _ _ hlt]; exact hc
  have hs0 : w.heap.size + 1 ≤ W0.heap.size := by rw [hW0]; simp
  have z0 : LoopI w u 0 u 65 W0 := by
    refine ⟨rfl, by simp, by rw [hW0]; exact Br.alloc Nr _, hs0, fun j hj => ?_, fun j hj => by rw [hW0, World.frozen?_alloc_new]⟩
    rw [hW0, World.cell?_alloc_new]
    have e : Tryz.zeroCells180 = Array.replicate 65 (.int .u8 0) := by kernel_rfl
    rw [e, Array.getElem?_replicate, if_pos hj]
    unfold gk; rw [if_neg (by omega)]
  have HW := Hd hW0; clear hW0
  clear hc
  go_enter Tryz.func138, Tryz.ntmps138
  go_wp2_with fail
  rw [← HW.out]
  clear HW
  refine (ipow_16 _).mono ?_
  rintro e w1 ⟨rfl, hb⟩
  go_wp2_with fail
  refine (tz_16 _ ((hb.cell (by simp; omega)).trans hc0)).mono ?_
  rintro e w2 ⟨rfl, hb2⟩
  have hI : LoopI w u 0 u 65 w2 := by
    obtain ⟨h1, h2, h3, h4, h5, h6⟩ := z0
    have hb' := hb.trans (hb2.mono hb.size)
    have hs := hb'.size
    exact ⟨h1, h2, h3.trans (hb'.mono (by omega)), by omega, fun j hj => (hb'.cell (by simp; omega)).trans (h5 j hj), fun j hj => (hb'.frozen (by simp; omega)).trans (h6 j hj)⟩
  clear hb hb2 z0 hc0 hs0 hlt
  go_wp2_with fail
  go_name_bytes SM hSM
  have eSM : SM = DIG := by rw [← hSM]; rfl
  subst eSM
  clear hSM
  go_loopw [1, 13] (fun vu vi wr => ∃ k v i : Nat, vu = .int .u64 v ∧ vi = .int .i64 i ∧ LoopI w u k v i wr ∧ (k = 0 ∨ 16 ^ k ≤ u)) (fun vu _ _ => (intOf vu).toNat)
  case atStart => exact ⟨0, u, 65, rfl, rfl, hI, Or.inl rfl⟩
  case round =>
    obtain ⟨k, v, i, rfl, rfl, hL, hk⟩ := hrel
    rename World => W
    have hv64 : v < 18446744073709551616 := by rw [hL.2.1]; exact Nat.lt_of_le_of_lt (Nat.div_le_self _ _) hu
    by_cases h16 : 16 ≤ v
    · have hi : 1 ≤ i ∧ i ≤ 65 := by
        have := hL.1
        have h2 := hL.2.1
        refine ⟨?_, by omega⟩
        apply Classical.byContradiction
        intro hn
        have hk : k = 65 := by omega
        rw [hk] at h2
        have : u / 16 ^ 65 = 0 := Nat.div_eq_of_lt (Nat.lt_trans hu (by decide))
        omega
      have hcell : W.cell? ⟨w.heap.size, i - 1, none⟩ = some (.int .u8 (gk u k (i - 1))) := hL.2.2.2.2.1 _ (by omega)
      have hfro : W.frozen? ⟨w.heap.size, i - 1, none⟩ = false := hL.2.2.2.2.2 _ (by omega)
      have hb15 := bits15 v hv64
      rw [show (((v % 16 : Nat)) : Int) = (v : Int) % 16 by omega] at hb15
      have hX : ∀ w, (Instr.index 9 (.string DIG) (.int .u64 ((v : Int) % 16))).run Tryz.prog w = .ok (.int .u8 (hd (v % 16))) w := fun w => by
        have := dig_at (v % 16) (by omega) w
        rwa [show (((v % 16 : Nat)) : Int) = (v : Int) % 16 by omega] at this
      have hv16 : 0 ≤ (v : Int) % 16 ∧ (v : Int) % 16 < 16 := by omega
      have hoff : ((i : Int) - 1).toNat = i - 1 := by omega
      have HL := Hd hL
      have HK : Hid (16 ^ (k + 1) ≤ u) := by
        have h2 := hL.2.1
        rw [h2, Nat.le_div_iff_mul_le (Nat.pow_pos (by decide))] at h16
        show 16 ^ (k + 1) ≤ u
        rw [Nat.pow_succ]; omega
      clear hL hI hk
      go_wp2
      exact ⟨⟨k + 1, v / 16, i - 1, congrArg (Value.int .u64) (by omega), congrArg (Value.int .i64) (by omega), loopI_store HL.out hi.1, Or.inr HK.out⟩, by simp [intOf]; omega⟩
    · have hkl := hex_last hk (by rw [← hL.2.1]; omega)
      have hi : 1 ≤ i ∧ i ≤ 65 ∧ i - 1 = 64 - k ∧ k ≤ 64 := by
        have := hL.1
        have h2 : u.log2 / 4 ≤ 15 := by
          by_cases hu0 : u = 0
          · subst hu0; decide
          · have : u.log2 < 64 := (Nat.log2_lt hu0).2 hu
            omega
        omega
      have hcell : W.cell? ⟨w.heap.size, i - 1, none⟩ = some (.int .u8 (gk u k (i - 1))) := hL.2.2.2.2.1 _ (by omega)
      have hfro : W.frozen? ⟨w.heap.size, i - 1, none⟩ = false := hL.2.2.2.2.2 _ (by omega)
      have hX : ∀ w, (Instr.index 9 (.string ⟨#[48, 49, 50, 51, 52, 53, 54, 55, 56, 57, 97, 98, 99, 100, 101, 102, 103, 104, 105, 106, 107, 108, 109, 110, 111, 112, 113, 114, 115, 116, 117, 118, 119, 120, 121, 122]⟩) (.int .u64 (v : Int))).run Tryz.prog w = .ok (.int .u8 (hd v)) w := fun w => dig_at v (by omega) w
      have hoff : ((i : Int) - 1).toNat = i - 1 := by omega
      have hsl : ∀ W, (Instr.sliceAt 180 (.pointer (some ⟨w.heap.size, 0, none⟩)) (some (.int .i64 ((i : Int) - 1))) none none).run Tryz.prog W = .ok (.slice (some ⟨w.heap.size, i - 1, none⟩) (66 - i) (66 - i)) W := fun W => by
        have hal : Tryz.prog.arrayLen 180 = 65 := by kernel_rfl
        rw [run_sliceAt_array_l W 180 ⟨w.heap.size, 0, none⟩ (by kernel_rfl) .i64 ((i : Int) - 1) (by omega) (by rw [hal]; omega)]
        rw [hal]
        go_simp
        omega
      have hL2 := loopI_store hL hi.1
      have hv16 : v % 16 = v := by omega
      rw [hv16] at hL2
      have hcv : (convert 58 9 (.slice (some ⟨w.heap.size, i - 1, none⟩) (66 - i) (66 - i))).run Tryz.prog (W.setCell ⟨w.heap.size, i - 1, none⟩ (.int .u8 (hd v))) = .ok (.string ⟨(hexL u).toArray⟩) (W.setCell ⟨w.heap.size, i - 1, none⟩ (.int .u8 (hd v))) := by
        have h := run_convert_bytes_back (P := Tryz.prog) (W.setCell ⟨w.heap.size, i - 1, none⟩ (.int .u8 (hd v))) 58 9 5 ⟨w.heap.size, i - 1, none⟩ (66 - i) (hexK u k) Tryz.underlying58 Tryz.underlying5 Tryz.underlying9 (fun j hj => by
          rw [hexK_length] at hj
          have ea : (⟨w.heap.size, i - 1, none⟩ : Addr).add j = ⟨w.heap.size, i - 1 + j, none⟩ := by
            unfold Addr.add
            split
            · rename_i h; subst h; rfl
            · rfl
          rw [ea, hL2.2.2.2.2.1 _ (by omega)]
          have e1 : gk u (k + 1) (i - 1 + j) = ((hexK u k)[j]'(by rw [hexK_length]; omega)).toNat := by
            unfold gk
            rw [if_pos (by omega)]
            simp only [hexK, List.getElem_map, List.getElem_range]
            rw [hdB_hd _ (Nat.mod_lt _ (by decide)), show 64 - (i - 1 + j) = k - j by omega]
          rw [e1])
        rw [hexK_length, show k + 1 = 66 - i by omega] at h
        unfold hexL
        rw [← hkl]
        exact h
      have HB : Hid (Below w.heap.size w (W.setCell ⟨w.heap.size, i - 1, none⟩ (.int .u8 (hd v)))) := hL2.2.2.1
      have hi1 := hi.1
      have hi2 := hi.2.1
      clear hL hL2 hI hk hkl hv16 hi
      go_wp2
      go_ret2
      exact ⟨rfl, HB.out⟩
open Go.RowKit
theorem ret_str {a b : ByteArray} (h : a = b) : Ending.returned (.string a) = .returned (.string b) := by rw [h]
theorem below_grow (w : World) (k : Nat) (os : Array Obj) : Below w.heap.size w (Go.Sort.grow (w.drewN k) os) :=
  ⟨rfl, rfl, rfl, by simp [Go.Sort.grow, World.drewN], fun i hi => by simp [Go.Sort.grow, World.drewN, Array.getElem?_append, hi]⟩
theorem formatUint16_in (u : Nat) (hu : u < 18446744073709551616) (w : World) (hc : w.cell? ⟨22, 15, none⟩ = some (.int .u8 4)) :
    Calls Tryz.prog 170 #[.int .u64 u, .int .i64 16] w fun e w' => e = .returned (.string ⟨(hexL u).toArray⟩) ∧ Below w.heap.size w w' := by
  have H := Hd (fbits u hu w hc)
  clear hc
  go_enter Tryz.func170, Tryz.ntmps170
  go_wp2_with (go_at_call 138; refine H.out.mono ?_; rintro e w' ⟨rfl, hb⟩)
  go_ret
  exact ⟨rfl, by assumption⟩
theorem formatUint16 (u : Nat) (hu : u < 18446744073709551616) (w : World) (hc : w.cell? ⟨22, 15, none⟩ = some (.int .u8 4)) :
    Calls Tryz.prog 153 #[.int .u64 u, .int .i64 16] w fun e w' => e = .returned (.string ⟨(hexL u).toArray⟩) ∧ Below w.heap.size w w' := by
  have H := Hd (formatUint16_in u hu w hc)
  clear hc
  go_enter Tryz.func153, Tryz.ntmps153
  go_wp2_with (go_at_call 170; refine H.out.mono ?_; rintro e w' ⟨rfl, hb⟩)
  go_ret
  exact ⟨rfl, by assumption⟩
theorem tabIs_below {P : Program} {w w' : World} {name : String} {k : IntKind} {zs : List Int} (h : Lib.TabIs P w name k zs) (hb : Below w.heap.size w w') : Lib.TabIs P w' name k zs := by
  unfold Lib.TabIs World.var? at *
  cases hg : P.globalNamed name with
  | none => simp [hg] at h
  | some g =>
    simp only [hg, Option.bind_some] at h ⊢
    have hlt : g < w.heap.size := by
      rcases Nat.lt_or_ge g w.heap.size with h' | h'
      · exact h'
      · rw [Array.getElem?_eq_none h'] at h; simp at h
    rw [hb.block g hlt]
    exact h
theorem print_int (x : Int) (w : World) (htab : Lib.TabIs Tryz.prog w "internal/strconv.uint64pow10" .u64 Lib.pow10Tab) :
    Calls Tryz.prog 133 #[.agg #[.bool false, .int .u64 x]] w fun e w' => e = .returned (.string ⟨(Lib.itoa (wrap64 x)).toArray⟩) ∧ Below w.heap.size w w' := by
  have ht := Hd (Lib.tabIs_alloc htab)
  have hr := Hd (wrap64_range x)
  clear htab
  go_enter Tryz.func133, Tryz.ntmps133
  go_wp2_with fail
  refine (toInt_any _ _ _).mono ?_
  rintro e w1 ⟨rfl, hb⟩
  have HT := Hd (tabIs_below (ht.out _) hb)
  have hB : Below w.heap.size w w1 := (Br.alloc Nr _).trans (hb.mono (by simp))
  clear hb
  go_wp2_with fail
  refine (Tryz.strconv_FormatInt_10 _ hr.out.1 hr.out.2 _ HT.out).mono ?_
  rintro e w2 ⟨rfl, k, os, rfl⟩
  have hB2 : Below w.heap.size w (Go.Sort.grow (w1.drewN k) os) := hB.trans ((below_grow w1 k os).mono hB.size)
  go_wp2_with fail
  go_ret
  exact ⟨rfl, hB2⟩
theorem repeatL_one (c : Nat) : Lib.repeatL [48] c = List.replicate c (48 : UInt8) := by
  induction c with
  | zero => rfl
  | succ n ih => rw [List.replicate_succ, ← ih]; rfl
theorem print_float (b : Nat) (hb64 : b < 18446744073709551616) (w : World) (hc : w.cell? ⟨22, 15, none⟩ = some (.int .u8 4)) :
    Calls Tryz.prog 133 #[.agg #[.bool true, .int .u64 b]] w fun e w' => e = .returned (.string ⟨(fltL b).toArray⟩) ∧ Below w.heap.size w w' := by
  have hlt := Bl hc
  have H : ∀ o, Calls Tryz.prog 153 #[.int .u64 b, .int .i64 16] (w.alloc o) fun e w' => e = .returned (.string ⟨(hexL b).toArray⟩) ∧ Below (w.alloc o).heap.size (w.alloc o) w' := fun o =>
    formatUint16 b hb64 _ (by rw [World.cell?_alloc_lt _ _ _ hlt]; exact hc)
  have H := Hd H
  have hL := hexL_length b hb64
  have HF : Hid (fltL b = 48 :: 102 :: (List.replicate (16 - (hexL b).length) 48 ++ hexL b)) := rfl
  clear hc hlt
  generalize fltL b = R at HF ⊢
  generalize hexL b = L at H hL HF ⊢
  have HR : ∀ w, Calls Tryz.prog 154 #[.string ⟨#[48]⟩, .int .i64 (16 - (L.length : Int))] w fun e w' => e = .returned (.string ⟨(List.replicate (16 - L.length) (48 : UInt8)).toArray⟩) ∧ Below w.heap.size w w' := fun w => by
    have := Tryz.strings_Repeat ⟨#[48]⟩ (16 - L.length) w (by omega) (by show 1 * _ ≤ _; omega)
    rw [show ((16 - L.length : Nat) : Int) = 16 - (L.length : Int) by omega] at this
    rw [show (⟨#[48]⟩ : ByteArray).data.toList = [48] from rfl, repeatL_one] at this
    exact this
  have HR := Hd HR
  have hL2 : (0 : Int) ≤ 16 - (L.length : Int) ∧ 16 - (L.length : Int) ≤ 16 := by omega
  go_enter Tryz.func133, Tryz.ntmps133
  go_wp2_with fail
  refine (H.out _).mono ?_
  rintro e w1 ⟨rfl, hb⟩
  have hB : Below w.heap.size w w1 := (Br.alloc Nr _).trans (hb.mono (by simp))
  clear hb
  go_wp2_with fail
  refine (HR.out _).mono ?_
  rintro e w2 ⟨rfl, hb2⟩
  have hB2 := hB.trans (hb2.mono hB.size)
  clear hb2 hB
  go_wp2_with fail
  go_ret
  refine ⟨ret_str ?_, hB2⟩
  rw [HF.out]
  apply ByteArray.ext
  rw [ByteArray.data_append, ByteArray.data_append]
  apply Array.ext'
  simp
end Go.Proofs.YthehgcmhcioffaaGreatDoor
namespace Go.Proofs.YthehgcmhcioffaaGreatDoor
set_option maxHeartbeats 64000000
set_option maxRecDepth 100000
open Go.RowKit Go.Lib
def PE (w : World) : Prop := Lib.TabIs Tryz.prog w "internal/strconv.uint64pow10" .u64 Lib.pow10Tab ∧ w.cell? ⟨22, 15, none⟩ = some (.int .u8 4)
theorem PE.below {w w' : World} (h : PE w) (hb : Below w.heap.size w w') : PE w' := ⟨tabIs_below h.1 hb, later' hb h.2⟩
theorem join_eq (sep : List UInt8) (o : List (List UInt8)) : Lib.join o sep = joinL sep o := by
  cases o with
  | nil => rfl
  | cons x r =>
    rw [Lib.join_cons]
    show x ++ Lib.joinTail sep r = x ++ r.flatMap (fun x => sep ++ x)
    unfold Lib.joinTail
    rw [List.flatMap_def]
theorem join_any (sep : List UInt8) (o : List (List UInt8)) (hn : o.length ≤ 1000000) (a : Option Addr) (c : Nat) (K : Nat → Prop) (w : World) (hr : RowAt w K 9 1 (.slice a o.length c) o.length (namesV o)) (hlen : (joinL sep o).length ≤ 140737488355328) :
    Calls Tryz.prog 107 #[.slice a o.length c, .string (tx sep)] w fun e w' => e = .returned (.string (tx (joinL sep o))) ∧ Below w.heap.size w w' := by
  obtain ⟨h0, ⟨e1, hz⟩ | ⟨g, q, c', cur, e1, -, hc, h1, h2, h3⟩⟩ := hr
  · have ho : o = [] := List.length_eq_zero_iff.1 hz
    subst ho
    cases e1
    exact (Tryz.strings_Join_none none 0 (tx sep) w).mono fun e w' ⟨he, hw⟩ => ⟨he, hw ▸ Below.refl _ _⟩
  · cases e1
    have hm : (o.map tx).map (·.data.toList) = o := by rw [List.map_map]; exact (List.map_congr_left fun x _ => tx_list' x).trans (List.map_id o)
    have hlt : g < w.heap.size := by
      rcases Nat.lt_or_ge g w.heap.size with h' | h'
      · exact h'
      · rw [Array.getElem?_eq_none h'] at hc; cases hc
    have h := Tryz.strings_Join g q c (o.map tx) (tx sep) w (fun j x hj => h3 j _ (by rw [List.getElem?_map] at hj; simp only [namesV, List.getElem?_map]; cases hoj : o[j]? with
      | none => rw [hoj] at hj; cases hj
      | some y => rw [hoj] at hj; simp only [Option.map_some, Option.some.injEq] at hj ⊢; rw [hj])) hlt (by rw [List.length_map]; omega) (by rw [List.length_map]; exact h1) (by rw [hm, tx_list', join_eq]; exact hlen)
    rw [hm, tx_list', join_eq, List.length_map] at h
    exact h
theorem enc_any (x : List UInt8) (hx : x.length ≤ 100000000000) (w : World) : Calls Tryz.prog 106 #[.string (tx x)] w fun e w' => e = .returned (.string (tx (encL x))) ∧ Below w.heap.size w w' := by
  have hs : (tx x).size ≤ 100000000000 := by rw [tx_size]; exact hx
  have hs2 : (⟨#[40]⟩ ++ tx x : ByteArray).size ≤ 100000000001 := by rw [show (⟨#[40]⟩ : ByteArray) = tx [40] from rfl, tx_app, tx_size]; simp only [List.length_append, List.length_cons, List.length_nil]; omega
  have he : (⟨#[40]⟩ ++ tx x ++ ⟨#[41]⟩ : ByteArray) = tx (encL x) := by rw [show (⟨#[40]⟩ : ByteArray) = tx [40] from rfl, show (⟨#[41]⟩ : ByteArray) = tx [41] from rfl, tx_app, tx_app]; rfl
  have HE := Hd he
  clear hx he
  go_enter Tryz.func106, Tryz.ntmps106
  go_wp2_with fail
  go_ret
  exact ⟨ret_str HE.out, Below.refl _ _⟩
theorem irow_any (o : List (List UInt8)) (hn : o.length ≤ 1000000) (a : Option Addr) (c : Nat) (K : Nat → Prop) (w : World) (hr : RowAt w K 9 1 (.slice a o.length c) o.length (namesV o)) (hlen : (joinL [59, 32] o).length ≤ 140737488355328) :
    Calls Tryz.prog 109 #[.slice a o.length c] w fun e w' => e = .returned (.string (tx (joinL [59, 32] o))) ∧ Below w.heap.size w w' := by
  have HJ := Hd (join_any [59, 32] o hn a c K w hr hlen)
  have h2 : tx [59, 32] = ⟨#[59, 32]⟩ := rfl
  rw [h2] at HJ
  clear hr hlen h2 hn
  go_enter Tryz.func109, Tryz.ntmps109
  go_wp2_with fail
  refine HJ.out.mono ?_
  rintro e w2 ⟨rfl, hb⟩
  have HB := Hd hb
  clear hb
  go_wp2_with fail
  go_ret
  exact ⟨rfl, HB.out⟩
def lettersB : ByteArray := ⟨#[65, 66, 67, 68, 69, 70, 71, 72, 73, 74, 75, 76, 77, 78, 79, 80, 81, 82, 83, 84, 85, 86, 87, 88, 89, 90, 97, 98, 99, 100, 101, 102, 103, 104, 105, 106, 107, 108, 109, 110, 111, 112, 113, 114, 115, 116, 117, 118, 119, 120, 121, 122]⟩
theorem letter_fin : ∀ c : Fin 256, lettersB.data.toList.contains (UInt8.ofNat c.val) = letterB (UInt8.ofNat c.val) := by decide +kernel
theorem letter_in (c : UInt8) : lettersB.data.toList.contains c = letterB c := by
  have h := letter_fin ⟨c.toNat, c.toNat_lt⟩
  simpa using h
theorem letters_nil (n : Nm) : (Lib.trimLeftS n lettersB.data.toList = []) ↔ isLet n = true := by
  rw [trim_nil]
  unfold madeOf isLet
  rw [show (lettersB.data.toList.contains ·) = letterB from funext letter_in]
theorem isLet_any (n : Nm) (w : World) : Calls Tryz.prog 108 #[.string (tx n)] w fun e w' => e = .returned (.bool (isLet n)) ∧ Below w.heap.size w w' := by
  have HT := Hd (trimLeft_laid (tx n) lettersB w (by decide) (fun j b h => by
    have hm : b ∈ lettersB.data.toList := List.mem_of_getElem? h
    exact (by decide : ∀ b, b ∈ lettersB.data.toList → b.toNat < 128) b hm))
  rw [tx_list'] at HT
  have hl := letters_nil n
  generalize Lib.trimLeftS n lettersB.data.toList = t at *
  unfold lettersB at HT
  go_enter Tryz.func108, Tryz.ntmps108
  go_wp2_with fail
  refine HT.out.mono ?_
  rintro e w2 ⟨rfl, hb⟩
  have HB := Hd hb
  clear hb HT
  by_cases g : t = []
  · have HF := Hd (hl.1 g)
    subst g
    clear hl
    go_wp2_with fail
    go_ret
    exact ⟨by rw [HF.out]; rfl, HB.out⟩
  · have HF := Hd (show isLet n = false from Bool.eq_false_iff.2 fun h => g (hl.2 h))
    have he : t.isEmpty = false := by
      cases t with
      | nil => exact absurd rfl g
      | cons a r => rfl
    have HE := Hd he
    clear hl g he
    go_wp2_with fail
    go_ret
    exact ⟨by rw [HF.out]; exact congrArg (fun b => Ending.returned (.bool b)) HE.out, HB.out⟩
theorem map_step {α : Type} (G : α → List UInt8) (L : List α) {j : Nat} (h : j < L.length) : (L.take (j + 1)).map G = (L.take j).map G ++ [G L[j]] := by
  rw [List.take_succ_eq_append_getElem h, List.map_append]
  rfl
theorem each_ex (fid : Nat) (eg : ∀ args w, (callFunc fid args).run Tryz.prog w = .ok (.enter fid args) w) (G : Ex → List UInt8) (L : List Ex) (hn : L.length ≤ 1000000) (a : Option Addr) (c : Nat) (K K2 : Nat → Prop) (xs : List Value) (w : World) (hr : RowAt w K 37 8 (.slice a L.length c) L.length xs) (ht : ExsAt w K2 L xs)
    (HC : ∀ j (hj : j < L.length) (k : Int) (nm : Nm) (f : Bool) (u : Int) (ap : Option Addr) (np cp : Nat) (ak : Option Addr) (nk ck : Nat) (ab : Option Addr) (nb cb : Nat) (aa : Option Addr) (na ca : Nat) (V : World), Below w.heap.size w V → ExAt V K2 L[j] [.int .i64 k, .string (tx nm), .bool f, .int .u64 u, .slice ap np cp, .slice ak nk ck, .slice ab nb cb, .slice aa na ca] → Calls Tryz.prog fid #[.agg #[.int .i64 k, .string (tx nm), .bool f, .int .u64 u, .slice ap np cp, .slice ak nk ck, .slice ab nb cb, .slice aa na ca]] V fun e w' => e = .returned (.string (tx (G L[j]))) ∧ Below V.heap.size V w') :
    Calls Tryz.prog 130 #[.slice a L.length c, .func (.func fid) #[] #[]] w fun e w' => (∃ v, e = .returned v ∧ w'.ownsRow w.heap.size 9 1 v (L.map G).length (namesV (L.map G))) ∧ Below w.heap.size w w' := by
  have HO := Hd (Ai hr ht)
  replace HC := Hd HC
  obtain ⟨i0, hi0, hz0, hzs, hzb⟩ := info_parts Tryz.info_text
  have hmx := hr.cap
  unfold maxLen at hmx
  clear hr ht
  go_enter Tryz.func130, Tryz.ntmps130
  go_wp2_with fail
  go_loopw [5, 10] (fun s5 s10 wr => ∃ (j : Nat) (vv : Value), j ≤ L.length ∧ vv = s5 ∧ s10 = .int .i64 j ∧ wr.ownsRow w.heap.size 9 1 vv ((L.take j).map G).length (namesV ((L.take j).map G)) ∧ Below w.heap.size w wr) (fun _ s10 _ => L.length - (RowKit.intOf s10).toNat)
  case atStart => exact ⟨0, _, Nat.zero_le _, rfl, rfl, by rw [List.take_zero]; exact World.ownsRow_nil _ _ _ _, Below.refl _ _⟩
  case round =>
    obtain ⟨j, vv, hj, rfl, rfl, hown, hbr⟩ := hrel
    obtain ⟨av, cc, rfl, hlow⟩ := own_shape hown
    have hln : ((L.take j).map G).length ≤ j := by rw [List.length_map, List.length_take]; omega
    have HR := Hd (Ai hown (Ai hbr hlow))
    clear hown hbr hlow
    by_cases gj : j < L.length
    · have gj' : (j : Int) < (L.length : Int) := by omega
      obtain ⟨k, nm, f, u, ap, np, cp, ak, nk, ck, ab, nb, cb, aa, na, ca, hE, hc⟩ := HO.out.2.cells j gj
      obtain ⟨g1, o1, ea1, k1, m1', -, ht1⟩ := HO.out.1.at (by omega)
      subst ea1
      have HP := Hd (fun i v h => later' HR.out.2.1 (ht1 _ _ (hc i v h)))
      have HT := Hd (map_step G L gj)
      have HCj := Hd (fun (V : World) (hb : Below w.heap.size w V) => HC.out j gj k nm f u ap np cp ak nk ck ab nb cb aa na ca V hb (hE.move fun g hk lt => ⟨hk, hb.block g lt⟩))
      clear ht1 hc hE
      generalize G L[j] = tk at *
      have p0 : wr.cell? ⟨g1, o1 + j * 8, none⟩ = some (.int .i64 k) := HP.out 0 _ rfl
      have p1 : wr.cell? ⟨g1, o1 + j * 8 + 1, none⟩ = some (.string (tx nm)) := by rw [Nat.add_assoc]; exact HP.out 1 _ rfl
      have p2 : wr.cell? ⟨g1, o1 + j * 8 + 2, none⟩ = some (.bool f) := by rw [Nat.add_assoc]; exact HP.out 2 _ rfl
      have p3 : wr.cell? ⟨g1, o1 + j * 8 + 3, none⟩ = some (.int .u64 u) := by rw [Nat.add_assoc]; exact HP.out 3 _ rfl
      have p4 : wr.cell? ⟨g1, o1 + j * 8 + 4, none⟩ = some (.slice ap np cp) := by rw [Nat.add_assoc]; exact HP.out 4 _ rfl
      have p5 : wr.cell? ⟨g1, o1 + j * 8 + 5, none⟩ = some (.slice ak nk ck) := by rw [Nat.add_assoc]; exact HP.out 5 _ rfl
      have p6 : wr.cell? ⟨g1, o1 + j * 8 + 6, none⟩ = some (.slice ab nb cb) := by rw [Nat.add_assoc]; exact HP.out 6 _ rfl
      have p7 : wr.cell? ⟨g1, o1 + j * 8 + 7, none⟩ = some (.slice aa na ca) := by rw [Nat.add_assoc]; exact HP.out 7 _ rfl
      have ej : IntKind.i64.wrap ((j : Int) + 1) = (j : Int) + 1 := by rw [IntKind.wrap_i64]; omega
      have b0 : (0 : Int) ≤ (j : Int) := by omega
      have HX := Hd ((Below.refl wr.heap.size wr).alloc Nr (.cells #[.int .i64 k, .string (tx nm), .bool f, .int .u64 u, .slice ap np cp, .slice ak nk ck, .slice ab nb cb, .slice aa na ca] 37))
      go_wp2_with fail
      refine (HCj.out _ (onB' HR.out.2.1 HX.out)).mono ?_
      rintro e w2 ⟨rfl, hb2⟩
      have HB := Hd (Ai (onB' (onB' HR.out.2.1 HX.out) hb2) (own_below HR.out.1 (onB' HX.out hb2)))
      have hzw := HR.out.2.1.size
      have hz2 := (onB' HX.out hb2).size
      clear hb2 HCj p0 p1 p2 p3 p4 p5 p6 p7 HP
      have one1 : ∀ u ∈ [Value.string (tx tk)], u.oneCell' = true := by intro u hu; simp at hu; rw [hu]; rfl
      have m9 : ((L.take j).map G).length + 1 ≤ maxLen := by unfold maxLen; omega
      have m8 : (((L.take j).map G).length + 1) * 16 ≤ 140737488355328 := by omega
      have H5 := Hd ((Below.refl w2.heap.size w2).alloc Nr (.cells #[.string (tx tk)] 9))
      have hz5 : w.heap.size ≤ (w2.alloc (.cells #[.string (tx tk)] 9)).heap.size := Nt HB.out.1.size H5.out.size
      have HO5 := Hd (own_below HB.out.2 H5.out)
      generalize hdd : ((L.take j).map G).length = N at *
      have HN := Hd hdd
      clear hdd
      go_wp2_with (at_builtin; refine wpList_append_lies _ rfl _ _ 30 rfl w.heap.size 9 i0 (.string ⟨#[]⟩) 1 16 Tryz.underlying30 hi0 hz0 hzs hzb rfl (by decide) (.slice av N cc) N (namesV ((L.take j).map G)) rfl HO5.out ⟨w2.heap.size, 0, none⟩ 1 1 [.string (tx tk)] rfl rfl (World.news_of_block (heap_alloc_new _ _)) one1 (by decide) m9 m8 hz5 _ rfl ?_; intro g9 cap9 w9 y1 y2 y3 y4)
      refine ⟨⟨j + 1, _, by omega, rfl, by go_num, ?_, ?_⟩, by simp [RowKit.intOf]; omega⟩
      · rw [HT.out, List.length_append, HN.out]
        simpa [namesV] using y1
      · have hx := onB' HB.out.1 H5.out
        exact ⟨y2.os.trans hx.os, y2.tape.trans hx.tape, y2.output.trans hx.output, Nt hx.size y2.size, fun q hq => (y2.block q (Nat.lt_of_lt_of_le hq hx.size) (fun e => by have := HR.out.2.2 q e.symm; omega)).trans (hx.block q hq)⟩
    · obtain rfl : j = L.length := by omega
      rw [List.take_length] at HR ⊢
      go_wp2_with fail
      go_ret
      exact ⟨⟨_, rfl, HR.out.1⟩, HR.out.2.1⟩
theorem each_bd (fid : Nat) (eg : ∀ args w, (callFunc fid args).run Tryz.prog w = .ok (.enter fid args) w) (G : Bnd → List UInt8) (L : List Bnd) (hn : L.length ≤ 1000000) (a : Option Addr) (c : Nat) (K K2 : Nat → Prop) (xs : List Value) (w : World) (hr : RowAt w K 39 10 (.slice a L.length c) L.length xs) (ht : BndsAt w K2 L xs)
    (HC : ∀ j (hj : j < L.length) (aq : Option Addr) (cq : Nat) (k : Int) (nm : Nm) (f : Bool) (u : Int) (ap : Option Addr) (np cp : Nat) (ak : Option Addr) (nk ck : Nat) (ab : Option Addr) (nb cb : Nat) (aa : Option Addr) (na ca : Nat) (V : World), Below w.heap.size w V → RowAt V K2 9 1 (.slice aq L[j].2.1.length cq) L[j].2.1.length (namesV L[j].2.1) → ExAt V K2 L[j].2.2 [.int .i64 k, .string (tx nm), .bool f, .int .u64 u, .slice ap np cp, .slice ak nk ck, .slice ab nb cb, .slice aa na ca] → Calls Tryz.prog fid #[.agg #[.string (tx L[j].1), .slice aq L[j].2.1.length cq, .int .i64 k, .string (tx nm), .bool f, .int .u64 u, .slice ap np cp, .slice ak nk ck, .slice ab nb cb, .slice aa na ca]] V fun e w' => e = .returned (.string (tx (G L[j]))) ∧ Below V.heap.size V w') :
    Calls Tryz.prog 110 #[.slice a L.length c, .func (.func fid) #[] #[]] w fun e w' => (∃ v, e = .returned v ∧ w'.ownsRow w.heap.size 9 1 v (L.map G).length (namesV (L.map G))) ∧ Below w.heap.size w w' := by
  have HO := Hd (Ai hr ht)
  replace HC := Hd HC
  obtain ⟨i0, hi0, hz0, hzs, hzb⟩ := info_parts Tryz.info_text
  have hmx := hr.cap
  unfold maxLen at hmx
  clear hr ht
  go_enter Tryz.func110, Tryz.ntmps110
  go_wp2_with fail
  go_loopw [5, 10] (fun s5 s10 wr => ∃ (j : Nat) (vv : Value), j ≤ L.length ∧ vv = s5 ∧ s10 = .int .i64 j ∧ wr.ownsRow w.heap.size 9 1 vv ((L.take j).map G).length (namesV ((L.take j).map G)) ∧ Below w.heap.size w wr) (fun _ s10 _ => L.length - (RowKit.intOf s10).toNat)
  case atStart => exact ⟨0, _, Nat.zero_le _, rfl, rfl, by rw [List.take_zero]; exact World.ownsRow_nil _ _ _ _, Below.refl _ _⟩
  case round =>
    obtain ⟨j, vv, hj, rfl, rfl, hown, hbr⟩ := hrel
    obtain ⟨av, cc, rfl, hlow⟩ := own_shape hown
    have hln : ((L.take j).map G).length ≤ j := by rw [List.length_map, List.length_take]; omega
    have HR := Hd (Ai hown (Ai hbr hlow))
    clear hown hbr hlow
    by_cases gj : j < L.length
    · have gj' : (j : Int) < (L.length : Int) := by omega
      obtain ⟨aq, cq, k, nm, f, u, ap, np, cp, ak, nk, ck, ab, nb, cb, aa, na, ca, hQ, hE, hc⟩ := HO.out.2.cells j gj
      obtain ⟨g1, o1, ea1, k1, m1', -, ht1⟩ := HO.out.1.at (by omega)
      subst ea1
      have HP := Hd (fun i v h => later' HR.out.2.1 (ht1 _ _ (hc i v h)))
      have HT := Hd (map_step G L gj)
      have HCj := Hd (fun (V : World) (hb : Below w.heap.size w V) => HC.out j gj aq cq k nm f u ap np cp ak nk ck ab nb cb aa na ca V hb (hQ.move fun g hk lt => ⟨hk, hb.block g lt⟩) (hE.move fun g hk lt => ⟨hk, hb.block g lt⟩))
      clear ht1 hc hE hQ
      obtain ⟨npl, hnpl⟩ : ∃ npl, npl = L[j].2.1.length := ⟨_, rfl⟩
      rw [← hnpl] at HCj HP
      clear hnpl
      obtain ⟨tnm, htnm⟩ : ∃ tnm, tnm = tx L[j].1 := ⟨_, rfl⟩
      rw [← htnm] at HCj HP
      clear htnm
      generalize G L[j] = tk at *
      have p0 : wr.cell? ⟨g1, o1 + j * 10, none⟩ = some (.string (tnm)) := HP.out 0 _ rfl
      have p1 : wr.cell? ⟨g1, o1 + j * 10 + 1, none⟩ = some (.slice aq npl cq) := by rw [Nat.add_assoc]; exact HP.out 1 _ rfl
      have p2 : wr.cell? ⟨g1, o1 + j * 10 + 2, none⟩ = some (.int .i64 k) := by rw [Nat.add_assoc]; exact HP.out 2 _ rfl
      have p3 : wr.cell? ⟨g1, o1 + j * 10 + 3, none⟩ = some (.string (tx nm)) := by rw [Nat.add_assoc]; exact HP.out 3 _ rfl
      have p4 : wr.cell? ⟨g1, o1 + j * 10 + 4, none⟩ = some (.bool f) := by rw [Nat.add_assoc]; exact HP.out 4 _ rfl
      have p5 : wr.cell? ⟨g1, o1 + j * 10 + 5, none⟩ = some (.int .u64 u) := by rw [Nat.add_assoc]; exact HP.out 5 _ rfl
      have p6 : wr.cell? ⟨g1, o1 + j * 10 + 6, none⟩ = some (.slice ap np cp) := by rw [Nat.add_assoc]; exact HP.out 6 _ rfl
      have p7 : wr.cell? ⟨g1, o1 + j * 10 + 7, none⟩ = some (.slice ak nk ck) := by rw [Nat.add_assoc]; exact HP.out 7 _ rfl
      have p8 : wr.cell? ⟨g1, o1 + j * 10 + 8, none⟩ = some (.slice ab nb cb) := by rw [Nat.add_assoc]; exact HP.out 8 _ rfl
      have p9 : wr.cell? ⟨g1, o1 + j * 10 + 9, none⟩ = some (.slice aa na ca) := by rw [Nat.add_assoc]; exact HP.out 9 _ rfl
      have ej : IntKind.i64.wrap ((j : Int) + 1) = (j : Int) + 1 := by rw [IntKind.wrap_i64]; omega
      have b0 : (0 : Int) ≤ (j : Int) := by omega
      have HX := Hd ((Below.refl wr.heap.size wr).alloc Nr (.cells #[.string (tnm), .slice aq npl cq, .int .i64 k, .string (tx nm), .bool f, .int .u64 u, .slice ap np cp, .slice ak nk ck, .slice ab nb cb, .slice aa na ca] 39))
      go_wp2_with fail
      refine (HCj.out _ (onB' HR.out.2.1 HX.out)).mono ?_
      rintro e w2 ⟨rfl, hb2⟩
      have HB := Hd (Ai (onB' (onB' HR.out.2.1 HX.out) hb2) (own_below HR.out.1 (onB' HX.out hb2)))
      have hzw := HR.out.2.1.size
      have hz2 := (onB' HX.out hb2).size
      clear hb2 HCj p0 p1 p2 p3 p4 p5 p6 p7 p8 p9 HP
      have one1 : ∀ u ∈ [Value.string (tx tk)], u.oneCell' = true := by intro u hu; simp at hu; rw [hu]; rfl
      have m9 : ((L.take j).map G).length + 1 ≤ maxLen := by unfold maxLen; omega
      have m8 : (((L.take j).map G).length + 1) * 16 ≤ 140737488355328 := by omega
      have H5 := Hd ((Below.refl w2.heap.size w2).alloc Nr (.cells #[.string (tx tk)] 9))
      have hz5 : w.heap.size ≤ (w2.alloc (.cells #[.string (tx tk)] 9)).heap.size := Nt HB.out.1.size H5.out.size
      have HO5 := Hd (own_below HB.out.2 H5.out)
      generalize hdd : ((L.take j).map G).length = N at *
      have HN := Hd hdd
      clear hdd
      go_wp2_with (at_builtin; refine wpList_append_lies _ rfl _ _ 30 rfl w.heap.size 9 i0 (.string ⟨#[]⟩) 1 16 Tryz.underlying30 hi0 hz0 hzs hzb rfl (by decide) (.slice av N cc) N (namesV ((L.take j).map G)) rfl HO5.out ⟨w2.heap.size, 0, none⟩ 1 1 [.string (tx tk)] rfl rfl (World.news_of_block (heap_alloc_new _ _)) one1 (by decide) m9 m8 hz5 _ rfl ?_; intro g9 cap9 w9 y1 y2 y3 y4)
      refine ⟨⟨j + 1, _, by omega, rfl, by go_num, ?_, ?_⟩, by simp [RowKit.intOf]; omega⟩
      · rw [HT.out, List.length_append, HN.out]
        simpa [namesV] using y1
      · have hx := onB' HB.out.1 H5.out
        exact ⟨y2.os.trans hx.os, y2.tape.trans hx.tape, y2.output.trans hx.output, Nt hx.size y2.size, fun q hq => (y2.block q (Nat.lt_of_lt_of_le hq hx.size) (fun e => by have := HR.out.2.2 q e.symm; omega)).trans (hx.block q hq)⟩
    · obtain rfl : j = L.length := by omega
      rw [List.take_length] at HR ⊢
      go_wp2_with fail
      go_ret
      exact ⟨⟨_, rfl, HR.out.1⟩, HR.out.2.1⟩
theorem each_al (fid : Nat) (eg : ∀ args w, (callFunc fid args).run Tryz.prog w = .ok (.enter fid args) w) (G : Alt → List UInt8) (L : List Alt) (hn : L.length ≤ 1000000) (a : Option Addr) (c : Nat) (K K2 : Nat → Prop) (xs : List Value) (w : World) (hr : RowAt w K 56 13 (.slice a L.length c) L.length xs) (ht : AltsAt w K2 L xs)
    (HC : ∀ j (hj : j < L.length) (aq : Option Addr) (cq : Nat) (k : Int) (nm : Nm) (f : Bool) (u : Int) (ap : Option Addr) (np cp : Nat) (ak : Option Addr) (nk ck : Nat) (ab : Option Addr) (nb cb : Nat) (aa : Option Addr) (na ca : Nat) (V : World), Below w.heap.size w V → RowAt V K2 9 1 (.slice aq L[j].2.2.2.2.1.length cq) L[j].2.2.2.2.1.length (namesV L[j].2.2.2.2.1) → ExAt V K2 L[j].2.2.2.2.2 [.int .i64 k, .string (tx nm), .bool f, .int .u64 u, .slice ap np cp, .slice ak nk ck, .slice ab nb cb, .slice aa na ca] → Calls Tryz.prog fid #[.agg #[.int .i64 L[j].1, .string (tx L[j].2.1), .bool L[j].2.2.1, .int .u64 L[j].2.2.2.1, .slice aq L[j].2.2.2.2.1.length cq, .int .i64 k, .string (tx nm), .bool f, .int .u64 u, .slice ap np cp, .slice ak nk ck, .slice ab nb cb, .slice aa na ca]] V fun e w' => e = .returned (.string (tx (G L[j]))) ∧ Below V.heap.size V w') :
    Calls Tryz.prog 112 #[.slice a L.length c, .func (.func fid) #[] #[]] w fun e w' => (∃ v, e = .returned v ∧ w'.ownsRow w.heap.size 9 1 v (L.map G).length (namesV (L.map G))) ∧ Below w.heap.size w w' := by
  have HO := Hd (Ai hr ht)
  replace HC := Hd HC
  obtain ⟨i0, hi0, hz0, hzs, hzb⟩ := info_parts Tryz.info_text
  have hmx := hr.cap
  unfold maxLen at hmx
  clear hr ht
  go_enter Tryz.func112, Tryz.ntmps112
  go_wp2_with fail
  go_loopw [5, 10] (fun s5 s10 wr => ∃ (j : Nat) (vv : Value), j ≤ L.length ∧ vv = s5 ∧ s10 = .int .i64 j ∧ wr.ownsRow w.heap.size 9 1 vv ((L.take j).map G).length (namesV ((L.take j).map G)) ∧ Below w.heap.size w wr) (fun _ s10 _ => L.length - (RowKit.intOf s10).toNat)
  case atStart => exact ⟨0, _, Nat.zero_le _, rfl, rfl, by rw [List.take_zero]; exact World.ownsRow_nil _ _ _ _, Below.refl _ _⟩
  case round =>
    obtain ⟨j, vv, hj, rfl, rfl, hown, hbr⟩ := hrel
    obtain ⟨av, cc, rfl, hlow⟩ := own_shape hown
    have hln : ((L.take j).map G).length ≤ j := by rw [List.length_map, List.length_take]; omega
    have HR := Hd (Ai hown (Ai hbr hlow))
    clear hown hbr hlow
    by_cases gj : j < L.length
    · have gj' : (j : Int) < (L.length : Int) := by omega
      obtain ⟨aq, cq, k, nm, f, u, ap, np, cp, ak, nk, ck, ab, nb, cb, aa, na, ca, hQ, hE, hc⟩ := HO.out.2.cells j gj
      obtain ⟨g1, o1, ea1, k1, m1', -, ht1⟩ := HO.out.1.at (by omega)
      subst ea1
      have HP := Hd (fun i v h => later' HR.out.2.1 (ht1 _ _ (hc i v h)))
      have HT := Hd (map_step G L gj)
      have HCj := Hd (fun (V : World) (hb : Below w.heap.size w V) => HC.out j gj aq cq k nm f u ap np cp ak nk ck ab nb cb aa na ca V hb (hQ.move fun g hk lt => ⟨hk, hb.block g lt⟩) (hE.move fun g hk lt => ⟨hk, hb.block g lt⟩))
      clear ht1 hc hE hQ
      obtain ⟨npl, hnpl⟩ : ∃ npl, npl = L[j].2.2.2.2.1.length := ⟨_, rfl⟩
      rw [← hnpl] at HCj HP
      clear hnpl
      obtain ⟨tnm, htnm⟩ : ∃ tnm, tnm = tx L[j].2.1 := ⟨_, rfl⟩
      rw [← htnm] at HCj HP
      clear htnm
      obtain ⟨unum, hunum⟩ : ∃ unum, unum = L[j].2.2.2.1 := ⟨_, rfl⟩
      rw [← hunum] at HCj HP
      clear hunum
      obtain ⟨fl, hfl⟩ : ∃ fl, fl = L[j].2.2.1 := ⟨_, rfl⟩
      rw [← hfl] at HCj HP
      clear hfl
      obtain ⟨kk, hkk⟩ : ∃ kk, kk = L[j].1 := ⟨_, rfl⟩
      rw [← hkk] at HCj HP
      clear hkk
      generalize G L[j] = tk at *
      have p0 : wr.cell? ⟨g1, o1 + j * 13, none⟩ = some (.int .i64 kk) := HP.out 0 _ rfl
      have p1 : wr.cell? ⟨g1, o1 + j * 13 + 1, none⟩ = some (.string (tnm)) := by rw [Nat.add_assoc]; exact HP.out 1 _ rfl
      have p2 : wr.cell? ⟨g1, o1 + j * 13 + 2, none⟩ = some (.bool fl) := by rw [Nat.add_assoc]; exact HP.out 2 _ rfl
      have p3 : wr.cell? ⟨g1, o1 + j * 13 + 3, none⟩ = some (.int .u64 unum) := by rw [Nat.add_assoc]; exact HP.out 3 _ rfl
      have p4 : wr.cell? ⟨g1, o1 + j * 13 + 4, none⟩ = some (.slice aq npl cq) := by rw [Nat.add_assoc]; exact HP.out 4 _ rfl
      have p5 : wr.cell? ⟨g1, o1 + j * 13 + 5, none⟩ = some (.int .i64 k) := by rw [Nat.add_assoc]; exact HP.out 5 _ rfl
      have p6 : wr.cell? ⟨g1, o1 + j * 13 + 6, none⟩ = some (.string (tx nm)) := by rw [Nat.add_assoc]; exact HP.out 6 _ rfl
      have p7 : wr.cell? ⟨g1, o1 + j * 13 + 7, none⟩ = some (.bool f) := by rw [Nat.add_assoc]; exact HP.out 7 _ rfl
      have p8 : wr.cell? ⟨g1, o1 + j * 13 + 8, none⟩ = some (.int .u64 u) := by rw [Nat.add_assoc]; exact HP.out 8 _ rfl
      have p9 : wr.cell? ⟨g1, o1 + j * 13 + 9, none⟩ = some (.slice ap np cp) := by rw [Nat.add_assoc]; exact HP.out 9 _ rfl
      have p10 : wr.cell? ⟨g1, o1 + j * 13 + 10, none⟩ = some (.slice ak nk ck) := by rw [Nat.add_assoc]; exact HP.out 10 _ rfl
      have p11 : wr.cell? ⟨g1, o1 + j * 13 + 11, none⟩ = some (.slice ab nb cb) := by rw [Nat.add_assoc]; exact HP.out 11 _ rfl
      have p12 : wr.cell? ⟨g1, o1 + j * 13 + 12, none⟩ = some (.slice aa na ca) := by rw [Nat.add_assoc]; exact HP.out 12 _ rfl
      have ej : IntKind.i64.wrap ((j : Int) + 1) = (j : Int) + 1 := by rw [IntKind.wrap_i64]; omega
      have b0 : (0 : Int) ≤ (j : Int) := by omega
      have HX := Hd ((Below.refl wr.heap.size wr).alloc Nr (.cells #[.int .i64 kk, .string (tnm), .bool fl, .int .u64 unum, .slice aq npl cq, .int .i64 k, .string (tx nm), .bool f, .int .u64 u, .slice ap np cp, .slice ak nk ck, .slice ab nb cb, .slice aa na ca] 56))
      go_wp2_with fail
      refine (HCj.out _ (onB' HR.out.2.1 HX.out)).mono ?_
      rintro e w2 ⟨rfl, hb2⟩
      have HB := Hd (Ai (onB' (onB' HR.out.2.1 HX.out) hb2) (own_below HR.out.1 (onB' HX.out hb2)))
      have hzw := HR.out.2.1.size
      have hz2 := (onB' HX.out hb2).size
      clear hb2 HCj p0 p1 p2 p3 p4 p5 p6 p7 p8 p9 p10 p11 p12 HP
      have one1 : ∀ u ∈ [Value.string (tx tk)], u.oneCell' = true := by intro u hu; simp at hu; rw [hu]; rfl
      have m9 : ((L.take j).map G).length + 1 ≤ maxLen := by unfold maxLen; omega
      have m8 : (((L.take j).map G).length + 1) * 16 ≤ 140737488355328 := by omega
      have H5 := Hd ((Below.refl w2.heap.size w2).alloc Nr (.cells #[.string (tx tk)] 9))
      have hz5 : w.heap.size ≤ (w2.alloc (.cells #[.string (tx tk)] 9)).heap.size := Nt HB.out.1.size H5.out.size
      have HO5 := Hd (own_below HB.out.2 H5.out)
      generalize hdd : ((L.take j).map G).length = N at *
      have HN := Hd hdd
      clear hdd
      go_wp2_with (at_builtin; refine wpList_append_lies _ rfl _ _ 30 rfl w.heap.size 9 i0 (.string ⟨#[]⟩) 1 16 Tryz.underlying30 hi0 hz0 hzs hzb rfl (by decide) (.slice av N cc) N (namesV ((L.take j).map G)) rfl HO5.out ⟨w2.heap.size, 0, none⟩ 1 1 [.string (tx tk)] rfl rfl (World.news_of_block (heap_alloc_new _ _)) one1 (by decide) m9 m8 hz5 _ rfl ?_; intro g9 cap9 w9 y1 y2 y3 y4)
      refine ⟨⟨j + 1, _, by omega, rfl, by go_num, ?_, ?_⟩, by simp [RowKit.intOf]; omega⟩
      · rw [HT.out, List.length_append, HN.out]
        simpa [namesV] using y1
      · have hx := onB' HB.out.1 H5.out
        exact ⟨y2.os.trans hx.os, y2.tape.trans hx.tape, y2.output.trans hx.output, Nt hx.size y2.size, fun q hq => (y2.block q (Nat.lt_of_lt_of_le hq hx.size) (fun e => by have := HR.out.2.2 q e.symm; omega)).trans (hx.block q hq)⟩
    · obtain rfl : j = L.length := by omega
      rw [List.take_length] at HR ⊢
      go_wp2_with fail
      go_ret
      exact ⟨⟨_, rfl, HR.out.1⟩, HR.out.2.1⟩
abbrev Fo := Option (Int × Nm)
def twiceL : List Nm → List Nm → Option Nm
  | _, [] => none
  | seen, x :: r => if x ∈ seen then some x else twiceL (seen ++ [x]) r
def twF (l : List Nm) : Fo := (twiceL [] l).map fun n => (5, n)
def hasF (l : List Nm) (n : Nm) : Fo := if n ∈ l then none else some (4, n)
def bNames (bs : List (Nm × List Nm × Ex)) : List Nm := bs.map (·.1)
mutual
def scE (cs sc : List Nm) : Ex → Fo
  | .mk k n _ _ ps ks bs al =>
    if k = 1 then hasF sc n
    else if k = 2 then (hasF cs n).or (scEs cs sc ks)
    else if k = 6 then (twF (bNames bs)).or ((scBs cs (sc ++ bNames bs) bs).or (scEs cs (sc ++ bNames bs) ks))
    else if k = 7 then (scEs cs sc ks).or (scAs cs sc al)
    else if k = 8 then (twF ps).or (scEs cs (sc ++ ps) ks)
    else scEs cs sc ks
def scEs (cs sc : List Nm) : List Ex → Fo
  | [] => none
  | e :: r => (scE cs sc e).or (scEs cs sc r)
def scBs (cs sc : List Nm) : List (Nm × List Nm × Ex) → Fo
  | [] => none
  | (_, ps, e) :: r => ((twF ps).or (scE cs (sc ++ ps) e)).or (scBs cs sc r)
def scAs (cs sc : List Nm) : List (Int × Nm × Bool × Int × List Nm × Ex) → Fo
  | [] => none
  | (k, n, _, _, ns, e) :: r => (if k = 0 then (hasF cs n).or ((twF ns).or (scE cs (sc ++ ns) e)) else if k = 2 then scE cs (sc ++ [n]) e else scE cs sc e).or (scAs cs sc r)
end
mutual
def sdE (cs sc : List Nm) : Ex → Fo
  | .mk k n _ _ ps ks bs al =>
    if k = 1 then (hasF sc n).or ((sdEs cs sc ks).or (sdAs cs sc al))
    else if k = 2 then (hasF cs n).or ((sdEs cs sc ks).or (sdAs cs sc al))
    else if k = 6 then (twF (bNames bs)).or ((sdBs cs (sc ++ bNames bs) bs).or ((sdEs cs (sc ++ bNames bs) ks).or (sdAs cs (sc ++ bNames bs) al)))
    else if k = 8 then (twF ps).or ((sdEs cs (sc ++ ps) ks).or (sdAs cs (sc ++ ps) al))
    else (sdEs cs sc ks).or (sdAs cs sc al)
def sdEs (cs sc : List Nm) : List Ex → Fo
  | [] => none
  | e :: r => (sdE cs sc e).or (sdEs cs sc r)
def sdBs (cs sc : List Nm) : List (Nm × List Nm × Ex) → Fo
  | [] => none
  | (_, ps, e) :: r => ((twF ps).or (sdE cs (sc ++ ps) e)).or (sdBs cs sc r)
def sdAs (cs sc : List Nm) : List (Int × Nm × Bool × Int × List Nm × Ex) → Fo
  | [] => none
  | (k, n, _, _, ns, e) :: r => (if k = 0 then (hasF cs n).or ((twF ns).or (sdE cs (sc ++ ns) e)) else if k = 2 then sdE cs (sc ++ [n]) e else sdE cs sc e).or (sdAs cs sc r)
end
def four : List (Nm × Int) := [([70, 97, 108, 115, 101], 0), ([84, 114, 117, 101], 0), ([78, 111, 116, 104, 105, 110, 103], 0), ([74, 117, 115, 116], 1)]
def mainL : Nm := [109, 97, 105, 110]
def conNames (m : Md) : List Nm := (four ++ m.1).map (·.1)
def scM (m : Md) : Fo := (twF (conNames m)).or ((twF (bNames m.2)).or ((if mainL ∈ bNames m.2 then none else some (10, mainL)).or (scBs (conNames m) (bNames m.2) m.2)))
def sdM (m : Md) : Fo := (twF (conNames m)).or ((twF (bNames m.2)).or ((if mainL ∈ bNames m.2 then none else some (10, mainL)).or (sdBs (conNames m) (bNames m.2) m.2)))
def SetEq (a b : List Nm) : Prop := ∀ x, x ∈ a ↔ x ∈ b
def Sub (a b : List Nm) : Prop := ∀ x, x ∈ a → x ∈ b
def NmOk (x : Nm) : Prop := x ≠ [] ∧ x.length ≤ 100000
def Nms (l : List Nm) : Prop := ∀ x, x ∈ l → NmOk x
mutual
def wfE : Ex → Prop
  | .mk k n _ _ ps ks bs al => (k = 1 → ks = []) ∧ (k ≠ 7 → al = []) ∧ (k = 1 ∨ k = 2 ∨ k = 5 → NmOk n) ∧ Nms ps ∧ wfEs ks ∧ wfBs bs ∧ wfAs al ∧ (k ≠ 6 → bs = []) ∧ (k ≠ 8 → ps = [])
def wfEs : List Ex → Prop
  | [] => True
  | e :: r => wfE e ∧ wfEs r
def wfBs : List (Nm × List Nm × Ex) → Prop
  | [] => True
  | (n, ps, e) :: r => (NmOk n ∧ Nms ps ∧ wfE e) ∧ wfBs r
def wfAs : List (Int × Nm × Bool × Int × List Nm × Ex) → Prop
  | [] => True
  | (k, n, _, _, ns, e) :: r => ((k = 0 ∨ k = 2 → NmOk n) ∧ (Nms ns ∧ (k ≠ 0 → ns = [])) ∧ wfE e) ∧ wfAs r
end
theorem or_nil (a : Fo) : a.or none = a := by cases a <;> rfl
mutual
theorem sdE_eq {cs : List Nm} : ∀ (e : Ex) (sc : List Nm), wfE e → sdE cs sc e = scE cs sc e
  | .mk k n f x ps ks bs al, sc, h => by
    unfold wfE at h
    obtain ⟨h1, h2, -, -, h5, h6, h7, -⟩ := h
    have a0 : ∀ sc, sdAs cs sc [] = none := fun sc => by unfold sdAs; rfl
    have k0 : ∀ sc, sdEs cs sc [] = none := fun sc => by unfold sdEs; rfl
    unfold sdE scE
    by_cases g1 : k = 1
    · rw [if_pos g1, if_pos g1, h1 g1, h2 (by omega), a0, k0]
      simp
    rw [if_neg g1, if_neg g1]
    by_cases g2 : k = 2
    · rw [if_pos g2, if_pos g2, h2 (by omega), a0, or_nil, sdEs_eq ks _ h5]
    rw [if_neg g2, if_neg g2]
    by_cases g3 : k = 6
    · rw [if_pos g3, if_pos g3, h2 (by omega), a0, or_nil, sdBs_eq bs _ h6, sdEs_eq ks _ h5]
    rw [if_neg g3, if_neg g3]
    by_cases g5 : k = 8
    · rw [if_pos g5, if_neg (by omega), if_pos g5, h2 (by omega), a0, or_nil, sdEs_eq ks _ h5]
    rw [if_neg g5]
    by_cases g4 : k = 7
    · rw [if_pos g4, sdEs_eq ks _ h5, sdAs_eq al _ h7]
    · rw [if_neg g4, if_neg g5, h2 g4, a0, or_nil, sdEs_eq ks _ h5]
theorem sdEs_eq {cs : List Nm} : ∀ (l : List Ex) (sc : List Nm), wfEs l → sdEs cs sc l = scEs cs sc l
  | [], _, _ => by unfold sdEs scEs; rfl
  | e :: r, sc, h => by
    unfold wfEs at h
    unfold sdEs scEs
    rw [sdE_eq e sc h.1, sdEs_eq r sc h.2]
theorem sdBs_eq {cs : List Nm} : ∀ (l : List (Nm × List Nm × Ex)) (sc : List Nm), wfBs l → sdBs cs sc l = scBs cs sc l
  | [], _, _ => by unfold sdBs scBs; rfl
  | (n, ps, e) :: r, sc, h => by
    unfold wfBs at h
    unfold sdBs scBs
    rw [sdE_eq e _ h.1.2.2, sdBs_eq r sc h.2]
theorem sdAs_eq {cs : List Nm} : ∀ (l : List (Int × Nm × Bool × Int × List Nm × Ex)) (sc : List Nm), wfAs l → sdAs cs sc l = scAs cs sc l
  | [], _, _ => by unfold sdAs scAs; rfl
  | (k, n, f, x, ns, e) :: r, sc, h => by
    unfold wfAs at h
    unfold sdAs scAs
    rw [sdE_eq e _ h.1.2.2, sdE_eq e _ h.1.2.2, sdE_eq e _ h.1.2.2, sdAs_eq r sc h.2]
end
theorem sdM_eq {m : Md} (h : wfBs m.2) : sdM m = scM m := by
  unfold sdM scM
  rw [sdBs_eq m.2 _ h]
def FoOk (o : Fo) : Prop := ∀ e n, o = some (e, n) → e ≠ 0 ∧ n ≠ []
theorem FoOk.or {a b : Fo} (ha : FoOk a) (hb : FoOk b) : FoOk (a.or b) := by
  cases a with
  | none => simpa using hb
  | some x => intro e n h; exact ha e n (by simpa using h)
theorem hasF_ok {l : List Nm} {n : Nm} (h : n ≠ []) : FoOk (hasF l n) := by
  intro e m he
  unfold hasF at he
  split at he
  · cases he
  · cases he; exact ⟨by decide, h⟩
theorem twiceL_mem : ∀ (l seen : List Nm) (x : Nm), twiceL seen l = some x → x ∈ l
  | [], _, _, h => by cases h
  | y :: r, seen, x, h => by
    unfold twiceL at h
    split at h
    · cases h; exact List.mem_cons_self ..
    · exact List.mem_cons_of_mem _ (twiceL_mem r _ x h)
theorem twF_ok {l : List Nm} (h : Nms l) : FoOk (twF l) := by
  intro e m he
  unfold twF at he
  obtain ⟨x, hx, hy⟩ := Option.map_eq_some_iff.1 he
  cases hy
  exact ⟨by decide, (h _ (twiceL_mem _ _ _ hx)).1⟩
theorem none_ok : FoOk none := fun _ _ h => by cases h
theorem bNames_ok : ∀ {bs : List (Nm × List Nm × Ex)}, wfBs bs → Nms (bNames bs)
  | [], _ => fun _ hx => by cases hx
  | (n, ps, e) :: r, h => fun x hx => by
    unfold wfBs at h
    rcases List.mem_cons.1 hx with rfl | hx
    · exact h.1.1
    · exact bNames_ok h.2 x hx
mutual
theorem scE_ok {cs : List Nm} : ∀ (e : Ex) (sc : List Nm), wfE e → FoOk (scE cs sc e)
  | .mk k n f x ps ks bs al, sc, h => by
    unfold wfE at h
    obtain ⟨h1, h2, h3, h4, h5, h6, h7, -⟩ := h
    unfold scE
    split
    · rename_i g; exact hasF_ok (h3 (Or.inl g)).1
    split
    · rename_i g; exact (hasF_ok (h3 (Or.inr (Or.inl g))).1).or (scEs_ok ks sc h5)
    split
    · exact (twF_ok (bNames_ok h6)).or ((scBs_ok bs _ h6).or (scEs_ok ks _ h5))
    split
    · exact (scEs_ok ks sc h5).or (scAs_ok al sc h7)
    split
    · exact (twF_ok h4).or (scEs_ok ks _ h5)
    · exact scEs_ok ks sc h5
theorem scEs_ok {cs : List Nm} : ∀ (l : List Ex) (sc : List Nm), wfEs l → FoOk (scEs cs sc l)
  | [], _, _ => by unfold scEs; exact none_ok
  | e :: r, sc, h => by
    unfold wfEs at h
    unfold scEs
    exact (scE_ok e sc h.1).or (scEs_ok r sc h.2)
theorem scBs_ok {cs : List Nm} : ∀ (l : List (Nm × List Nm × Ex)) (sc : List Nm), wfBs l → FoOk (scBs cs sc l)
  | [], _, _ => by unfold scBs; exact none_ok
  | (n, ps, e) :: r, sc, h => by
    unfold wfBs at h
    unfold scBs
    exact ((twF_ok h.1.2.1).or (scE_ok e _ h.1.2.2)).or (scBs_ok r sc h.2)
theorem scAs_ok {cs : List Nm} : ∀ (l : List (Int × Nm × Bool × Int × List Nm × Ex)) (sc : List Nm), wfAs l → FoOk (scAs cs sc l)
  | [], _, _ => by unfold scAs; exact none_ok
  | (k, n, f, x, ns, e) :: r, sc, h => by
    unfold wfAs at h
    unfold scAs
    refine FoOk.or ?_ (scAs_ok r sc h.2)
    split
    · rename_i g; exact (hasF_ok (h.1.1 (Or.inl g)).1).or ((twF_ok h.1.2.1.1).or (scE_ok e _ h.1.2.2))
    split
    · exact scE_ok e _ h.1.2.2
    · exact scE_ok e _ h.1.2.2
end
theorem scM_ok {m : Md} (h : wfBs m.2) (hc : ∀ d, d ∈ m.1 → NmOk d.1) : FoOk (scM m) := by
  have hn : Nms (conNames m) := fun x hx => by
    obtain ⟨d, hd, rfl⟩ := List.mem_map.1 hx
    rcases List.mem_append.1 hd with hd | hd
    · simp only [four, List.mem_cons, List.not_mem_nil, or_false] at hd
      rcases hd with rfl | rfl | rfl | rfl <;> exact ⟨by decide, by decide⟩
    · exact hc d hd
  refine (twF_ok hn).or ((twF_ok (bNames_ok h)).or (FoOk.or ?_ (scBs_ok _ _ h)))
  split
  · exact none_ok
  · intro e n he; cases he; exact ⟨by decide, by decide⟩
structure St where
  r : List Tok
  e : Int
  ln : Int
def kindL : List Tok → Int
  | [] => 0
  | y :: _ => y.1.k
def seesL (t : Nm) : List Tok → Bool
  | [] => false
  | y :: _ => decide ((y.1.k = 5 ∨ y.1.k = 6) ∧ y.1.t = t)
def St.bad (ll er : Int) (s : St) : St :=
  if s.e ≠ 0 then s else
  match s.r with
  | [] => ⟨[], 17, ll⟩
  | y :: r => ⟨y :: r, er, y.2⟩
def St.next (s : St) : St := ⟨s.r.tail, s.e, s.ln⟩
def needD (ll : Int) (t : Nm) (s : St) : St := if s.e = 0 ∧ seesL t s.r = true then s.next else s.bad ll 3
def tokD (ll k : Int) (s : St) : Tok × St := if s.e = 0 ∧ kindL s.r = k then (tokO s.r, s.next) else (tokO [], s.bad ll 3)
def loopN (ll : Int) : Nat → Bool → List Nm → St → List Nm × St
  | 0, _, acc, s => (acc, s)
  | n + 1, least, acc, s => if s.e = 0 ∧ (least = true ∨ kindL s.r = 1) then loopN ll n false (acc ++ [(tokD ll 1 s).1.1.t]) (tokD ll 1 s).2 else (acc, s)
def namesD (ll : Int) (least : Bool) (s : St) : List Nm × St := loopN ll (s.r.length + 2) least [] s
abbrev Dp (α : Type) := St → α × St
def bindD (ll : Int) (ex : Dp Ex) : Dp Bnd := fun s =>
  (((namesD ll true s).1.headD [], (namesD ll true s).1.tail, (ex (needD ll [61] (namesD ll true s).2)).1), (ex (needD ll [61] (namesD ll true s).2)).2)
def moreD {α : Type} (item : Dp α) : Nat → List α → Dp (List α)
  | 0, acc => fun s => (acc, s)
  | n + 1, acc => fun s => if s.e = 0 ∧ seesL [59] s.r = true then moreD item n (acc ++ [(item s.next).1]) (item s.next).2 else (acc, s)
def someD {α : Type} (item : Dp α) : Dp (List α) := fun s => moreD item ((item s).2.r.length + 1) [(item s).1] (item s).2
def atomD (ll : Int) (ex : Dp Ex) : Dp Ex := fun s =>
  if kindL s.r = 1 then (.leaf 1 (tokD ll 1 s).1.1.t, (tokD ll 1 s).2)
  else if kindL s.r = 2 then (.leaf 2 (tokD ll 2 s).1.1.t, (tokD ll 2 s).2)
  else if kindL s.r = 7 then (.leaf 5 (tokD ll 7 s).1.1.t, (tokD ll 7 s).2)
  else if kindL s.r = 3 then (.num (tokD ll 3 s).1.1.f (tokD ll 3 s).1.1.x, (tokD ll 3 s).2)
  else ((ex s.next).1, needD ll [41] (ex s.next).2)
def begins (r : List Tok) : Prop := kindL r = 1 ∨ kindL r = 2 ∨ kindL r = 7 ∨ kindL r = 3 ∨ seesL [40] r = true
instance (r : List Tok) : Decidable (begins r) := inferInstanceAs (Decidable (_ ∨ _))
def atomsD (ll : Int) (ex : Dp Ex) : Nat → List Ex → Dp (List Ex)
  | 0, acc => fun s => (acc, s)
  | n + 1, acc => fun s => if s.e = 0 ∧ begins s.r then atomsD ll ex n (acc ++ [(atomD ll ex s).1]) (atomD ll ex s).2 else (acc, s)
def blankX : Ex := .leaf 0 []
def rowX (k : Int) : List Ex → Ex
  | [] => blankX
  | [x] => x
  | x :: y :: xs => if k = 2 ∨ k = 7 then x.withKids (y :: xs) else .mk 4 [] false 0 [] (x :: y :: xs) [] []
def rowD (ll : Int) (ex : Dp Ex) : Dp Ex := fun s =>
  (rowX (kindL s.r) (atomsD ll ex (s.r.length + 1) [] s).1, if (atomsD ll ex (s.r.length + 1) [] s).1 = [] then (atomsD ll ex (s.r.length + 1) [] s).2.bad ll 3 else (atomsD ll ex (s.r.length + 1) [] s).2)
def startsL (r : List Tok) : Prop := kindL r = 1 ∨ kindL r = 2 ∨ kindL r = 3 ∨ kindL r = 7 ∨ seesL [108, 101, 116] r = true ∨ seesL [99, 97, 115, 101] r = true ∨ seesL [40] r = true ∨ seesL [92] r = true
instance (r : List Tok) : Decidable (startsL r) := inferInstanceAs (Decidable (_ ∨ _))
def altD (ll : Int) (ex : Dp Ex) : Dp Alt := fun s =>
  if kindL s.r = 2 then
    ((0, (tokD ll 2 s).1.1.t, false, 0, (namesD ll false (tokD ll 2 s).2).1, (ex (needD ll [45, 62] (namesD ll false (tokD ll 2 s).2).2)).1), (ex (needD ll [45, 62] (namesD ll false (tokD ll 2 s).2).2)).2)
  else if kindL s.r = 3 then
    ((1, [], (tokD ll 3 s).1.1.f, (tokD ll 3 s).1.1.x, [], (ex (needD ll [45, 62] (tokD ll 3 s).2)).1), (ex (needD ll [45, 62] (tokD ll 3 s).2)).2)
  else
    ((2, (tokD ll 1 s).1.1.t, false, 0, [], (ex (needD ll [45, 62] (tokD ll 1 s).2)).1), (ex (needD ll [45, 62] (tokD ll 1 s).2)).2)
def letD (ll : Int) (ex : Dp Ex) : Dp Ex := fun s =>
  (.mk 6 [] false 0 [] [(ex (needD ll [105, 110] (someD (bindD ll ex) s).2)).1] (someD (bindD ll ex) s).1 [], (ex (needD ll [105, 110] (someD (bindD ll ex) s).2)).2)
def ofD (ll : Int) (s : St) : St := needD ll [123] (needD ll [111, 102] s)
def caseD (ll : Int) (ex : Dp Ex) : Dp Ex := fun s =>
  if (ofD ll (ex s).2).e = 0 ∧ seesL [125] (ofD ll (ex s).2).r = true then (.mk 7 [] false 0 [] [(ex s).1] [] [], (ofD ll (ex s).2).next)
  else (.mk 7 [] false 0 [] [(ex s).1] [] (someD (altD ll ex) (ofD ll (ex s).2)).1, needD ll [125] (someD (altD ll ex) (ofD ll (ex s).2)).2)
def lamD (ll : Int) (ex : Dp Ex) : Dp Ex := fun s =>
  (.mk 8 [] false 0 (namesD ll true s).1 [(ex (needD ll [45, 62] (namesD ll true s).2)).1] [] [], (ex (needD ll [45, 62] (namesD ll true s).2)).2)
def rowsD (ll : Int) (ex : Dp Ex) : Dp Ex := fun s =>
  if (rowD ll ex s).2.e = 0 ∧ kindL (rowD ll ex s).2.r = 4 then
    (.mk 5 (tokD ll 4 (rowD ll ex s).2).1.1.t false 0 [] [(rowD ll ex s).1, (rowD ll ex (tokD ll 4 (rowD ll ex s).2).2).1] [] [], (rowD ll ex (tokD ll 4 (rowD ll ex s).2).2).2)
  else rowD ll ex s
def exprD (ll : Int) : Nat → Dp Ex
  | 0 => fun s => if s.e ≠ 0 then (blankX, s) else (blankX, (if startsL s.r then s.bad ll 12 else s).bad ll 3)
  | k + 1 => fun s =>
    if s.e ≠ 0 then (blankX, s)
    else if seesL [108, 101, 116] s.r = true then letD ll (exprD ll k) s.next
    else if seesL [99, 97, 115, 101] s.r = true then caseD ll (exprD ll k) s.next
    else if seesL [92] s.r = true then lamD ll (exprD ll k) s.next
    else rowsD ll (exprD ll k) s
def declD (ll : Int) (s : St) : St := if kindL s.r = 3 ∧ ((tokO s.r).1.f = true ∨ 24 < (tokO s.r).1.x) then s.bad ll 1 else s
def declsD (ll : Int) : Nat → List (Nm × Int) → Dp (List (Nm × Int))
  | 0, acc => fun s => (acc, s)
  | n + 1, acc => fun s => if s.e = 0 ∧ kindL s.r = 2 then declsD ll n (acc ++ [((tokD ll 2 s).1.1.t, (tokD ll 3 (declD ll (tokD ll 2 s).2)).1.1.x)]) (tokD ll 3 (declD ll (tokD ll 2 s).2)).2 else (acc, s)
def dataD (ll : Int) : Dp (List (Nm × Int)) := fun s => ((declsD ll (s.r.length + 1) [] s).1, needD ll [59] (declsD ll (s.r.length + 1) [] s).2)
def moduleD (ll : Int) : Nat → List (Nm × Int) → List Bnd → Dp Md
  | 0, cs, bs => fun s => ((cs, bs), s)
  | n + 1, cs, bs => fun s =>
    if s.e = 0 ∧ s.r ≠ [] then
      (if seesL [100, 97, 116, 97] s.r = true then moduleD ll n (cs ++ (dataD ll s.next).1) bs (dataD ll s.next).2
       else moduleD ll n cs (bs ++ [(bindD ll (exprD ll 200) s).1]) (needD ll [59] (bindD ll (exprD ll 200) s).2))
    else ((cs, bs), s)
def Dead {α : Type} (d : Dp α) : Prop := ∀ s, s.e ≠ 0 → (d s).2.e = s.e ∧ (d s).2.ln = s.ln
theorem bad_dead {ll er : Int} {s : St} (h : s.e ≠ 0) : s.bad ll er = s := by unfold St.bad; rw [if_pos h]
theorem need_dead {ll : Int} {t : Nm} {s : St} (h : s.e ≠ 0) : needD ll t s = s := by unfold needD; rw [if_neg (fun g => h g.1), bad_dead h]
theorem tok_dead {ll k : Int} {s : St} (h : s.e ≠ 0) : tokD ll k s = (tokO [], s) := by unfold tokD; rw [if_neg (fun g => h g.1), bad_dead h]
theorem names_dead {ll : Int} {b : Bool} {s : St} (h : s.e ≠ 0) : namesD ll b s = ([], s) := by unfold namesD loopN; rw [if_neg (fun g => h g.1)]
theorem bind_dead {ll : Int} {ex : Dp Ex} (hx : Dead ex) : Dead (bindD ll ex) := fun s h => by
  unfold bindD; rw [names_dead h, need_dead h]; exact hx s h
theorem more_dead {α : Type} {item : Dp α} (n : Nat) (acc : List α) {s : St} (h : s.e ≠ 0) : moreD item n acc s = (acc, s) := by
  cases n with
  | zero => rfl
  | succ n => unfold moreD; rw [if_neg (fun g => h g.1)]
theorem some_dead {α : Type} {item : Dp α} (hx : Dead item) : Dead (someD item) := fun s h => by
  have h1 := hx s h
  unfold someD
  rw [more_dead _ _ (by rw [h1.1]; exact h)]
  exact h1
theorem atoms_dead {ll : Int} {ex : Dp Ex} (n : Nat) (acc : List Ex) {s : St} (h : s.e ≠ 0) : atomsD ll ex n acc s = (acc, s) := by
  cases n with
  | zero => rfl
  | succ n => unfold atomsD; rw [if_neg (fun g => h g.1)]
theorem expr_dead {ll : Int} : ∀ k, Dead (exprD ll k)
  | 0 => fun s h => by unfold exprD; rw [if_pos h]; exact ⟨rfl, rfl⟩
  | k + 1 => fun s h => by unfold exprD; rw [if_pos h]; exact ⟨rfl, rfl⟩
theorem alt_dead {ll : Int} {ex : Dp Ex} (hx : Dead ex) : Dead (altD ll ex) := fun s h => by
  unfold altD
  split
  · rw [tok_dead h, names_dead h, need_dead h]; exact hx s h
  split
  · rw [tok_dead h, need_dead h]; exact hx s h
  · rw [tok_dead h, need_dead h]; exact hx s h
end Go.Proofs.YthehgcmhcioffaaGreatDoor
