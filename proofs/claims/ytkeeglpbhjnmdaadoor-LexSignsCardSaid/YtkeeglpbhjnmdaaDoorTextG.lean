/- What the document's reading of hexadecimal digits answers. -/
import Derived.Test.YtkeeglpbhjnmdaaDoorTextF
namespace Go.Proofs.YtkeeglpbhjnmdaaDoor
open Go.RowKit

theorem digV_hex (c : UInt8) (h : isHex c = true) : digV c.toNat = hexV c ∧ hexV c < 16 := by
  have h2 := digit_hex c h
  simp only [isHex, Bool.or_eq_true, decide_eq_true_eq] at h
  refine ⟨?_, h2.1⟩
  unfold digV hexV
  rcases h with h | h
  · rw [if_pos h, if_pos h.2]
  · rw [if_neg (by omega), if_pos h, if_neg (by omega)]
theorem digV_nohex (c : UInt8) (h : ¬ isHex c = true) : digV c.toNat = 99 := by
  simp only [isHex, Bool.or_eq_true, decide_eq_true_eq, not_or] at h
  unfold digV
  rw [if_neg h.1, if_neg h.2]

set_option maxRecDepth 100000 in
set_option maxHeartbeats 1000000 in
theorem bits_good (s : ByteArray) (hs : s.size = 16) (hall : ∀ c ∈ s.data.toList, isHex c = true) (w : World) :
    Calls Tryd.prog 53 #[.string s] w fun e w' => e = .returned (.tuple #[.agg #[.bool true, .int .u64 (hexN 0 s.data.toList : Nat)], .int .i64 0]) ∧ Below w.heap.size w w' := by
  have hB := fun k hk W => letter_at s k hk W
  have hLn := Lib.size_eq s
  obtain ⟨bs, hL⟩ : ∃ bs, bs = s.data.toList := ⟨_, rfl⟩
  rw [← hL] at hB hall hLn ⊢
  clear hL
  have hs' : (s.size : Int) = 16 := by omega
  replace hB := Lib.hid hB
  replace hall := Lib.hid hall
  go_enter Tryd.func53, Tryd.ntmps53
  go_wp2_with fail
  have hal : Below w.heap.size w (w.alloc (Obj.cells #[Value.bool false, Value.int IntKind.u64 0] 33)) := (Below.refl _ _).alloc (Nat.le_refl _) _
  have c0 : (w.alloc (Obj.cells #[Value.bool false, Value.int IntKind.u64 0] 33)).cell? ⟨w.heap.size, 0, none⟩ = some (.bool false) := by simp
  have c1 : (w.alloc (Obj.cells #[Value.bool false, Value.int IntKind.u64 0] 33)).cell? ⟨w.heap.size, 1, none⟩ = some (.int .u64 0) := by simp
  have z0 : (w.alloc (Obj.cells #[Value.bool false, Value.int IntKind.u64 0] 33)).frozen? ⟨w.heap.size, 0, none⟩ = false := by simp
  have z1 : (w.alloc (Obj.cells #[Value.bool false, Value.int IntKind.u64 0] 33)).frozen? ⟨w.heap.size, 1, none⟩ = false := by simp
  generalize (w.alloc (Obj.cells #[Value.bool false, Value.int IntKind.u64 0] 33)) = w0 at *
  go_loop [4, 5] (fun vn vi => ∃ (k acc : Nat) (a : Int), vn = .int .u64 a ∧ vi = .int .i64 k ∧ k ≤ 16 ∧ Hid (a = (acc : Int) ∧ acc < 16 ^ k ∧ hexN 0 bs = hexN acc (bs.drop k)))
    (fun _ vi => 16 - (intOf vi).toNat)
  case atStart => exact ⟨0, 0, 0, rfl, rfl, by omega, rfl, by decide, rfl⟩
  case round =>
    obtain ⟨k, acc, a, rfl, rfl, hk, hh⟩ := hrel
    obtain ⟨ha, hacc, hdec⟩ := hh.out
    clear hh
    by_cases hkn : k < 16
    · have hp := pow16 (show k ≤ 15 by omega)
      have hps : 16 ^ (k + 1) = 16 ^ k * 16 := Nat.pow_succ 16 k
      have a0 : 0 ≤ a := by omega
      have a1 : a < 1152921504606846976 := by omega
      have hc := hB.out k (by omega)
      have hdrop : bs.drop k = bs[k]'(by omega) :: bs.drop (k + 1) := List.drop_eq_getElem_cons (by omega)
      have hget : bs.getD k 0 = bs[k]'(by omega) := by simp [List.getD, List.getElem?_eq_getElem (show k < bs.length by omega)]
      have hx : isHex (bs[k]'(by omega)) = true := hall.out _ (List.getElem_mem _)
      rw [hdrop] at hdec
      rw [hget] at hc
      generalize bs[k]'(by omega) = c at hc hdec hx
      obtain ⟨hv, hv16⟩ := digV_hex c hx
      have hD := Lib.hid (fun W => digit_any c.toNat W c.toNat_lt)
      rw [hv] at hD
      have HN : Hid (a * 16 + (hexV c : Int) = ((acc * 16 + hexV c : Nat) : Int) ∧ acc * 16 + hexV c < 16 ^ (k + 1) ∧ hexN 0 bs = hexN (acc * 16 + hexV c) (bs.drop (k + 1))) :=
        Lib.hid ⟨by omega, by omega, hdec⟩
      have hkn' : (k : Int) < 16 := by omega
      have hv' : (0 : Int) ≤ (hexV c : Int) ∧ (hexV c : Int) ≤ 15 := by omega
      clear hacc hdec ha hp hps hv hv16 hx hdrop hget hB hall
      generalize (hexV c : Int) = d at HN hv' hD
      go_wp2_with (go_at_call 54; refine (hD.out _).mono ?_; rintro e w' ⟨rfl, rfl⟩)
      refine ⟨⟨k + 1, acc * 16 + hexV c, a * 16 + d, (by first | rfl | (congr 1; omega)), (by first | rfl | (congr 1; omega)), by omega, HN⟩, by simp [intOf]; omega⟩
    · have hkk : k = 16 := by omega
      subst hkk
      have hF : hexN acc (bs.drop 16) = acc := by rw [List.drop_eq_nil_of_le (by omega)]; rfl
      rw [hF] at hdec
      subst ha
      clear hacc hF hB hall
      replace hdec := Lib.hid hdec
      go_wp2
      refine bodyPost_ret (v := .tuple #[.agg #[.bool true, .int .u64 (acc : Int)], .int .i64 0]) (by simp [results, Tryd.results53, go_sem, c0, c1]) rfl ⟨by rw [hdec.out], (hal.setCell (Nat.le_refl _) _).setCell (Nat.le_refl _) _⟩

set_option maxRecDepth 100000 in
set_option maxHeartbeats 1000000 in
theorem bits_bad (s : ByteArray) (hmax : s.size ≤ 100000) (hbad : ¬ (s.size = 16 ∧ ∀ c ∈ s.data.toList, isHex c = true)) (w : World) :
    Calls Tryd.prog 53 #[.string s] w fun e w' => e = .returned (.tuple #[.agg #[.bool false, .int .u64 0], .int .i64 3]) ∧ Below w.heap.size w w' := by
  have hB := fun k hk W => letter_at s k hk W
  have hLn := Lib.size_eq s
  obtain ⟨bs, hL⟩ : ∃ bs, bs = s.data.toList := ⟨_, rfl⟩
  rw [← hL] at hB hbad hLn
  clear hL
  have hs' : (s.size : Int) ≤ 100000 := by omega
  replace hB := Lib.hid hB
  replace hbad := Lib.hid hbad
  clear hmax
  go_enter Tryd.func53, Tryd.ntmps53
  go_wp2_with fail
  have hal : Below w.heap.size w (w.alloc (Obj.cells #[Value.bool false, Value.int IntKind.u64 0] 33)) := (Below.refl _ _).alloc (Nat.le_refl _) _
  have c0 : (w.alloc (Obj.cells #[Value.bool false, Value.int IntKind.u64 0] 33)).cell? ⟨w.heap.size, 0, none⟩ = some (.bool false) := by simp
  have c1 : (w.alloc (Obj.cells #[Value.bool false, Value.int IntKind.u64 0] 33)).cell? ⟨w.heap.size, 1, none⟩ = some (.int .u64 0) := by simp
  have z0 : (w.alloc (Obj.cells #[Value.bool false, Value.int IntKind.u64 0] 33)).frozen? ⟨w.heap.size, 0, none⟩ = false := by simp
  have z1 : (w.alloc (Obj.cells #[Value.bool false, Value.int IntKind.u64 0] 33)).frozen? ⟨w.heap.size, 1, none⟩ = false := by simp
  generalize (w.alloc (Obj.cells #[Value.bool false, Value.int IntKind.u64 0] 33)) = w0 at *
  go_loop [4, 5] (fun vn vi => ∃ (k : Nat) (a : Int), vn = .int .u64 a ∧ vi = .int .i64 k ∧ k ≤ s.size ∧ Hid (∀ j, j < k → isHex (bs.getD j 0) = true))
    (fun _ vi => s.size - (intOf vi).toNat)
  case atStart => exact ⟨0, 0, rfl, rfl, by omega, fun j hj => absurd hj (by omega)⟩
  case round =>
    obtain ⟨k, a, rfl, rfl, hk, hh⟩ := hrel
    by_cases hkn : k < s.size
    · have hc := hB.out k hkn
      have hkn' : (k : Int) < (s.size : Int) := by omega
      by_cases hx : isHex (bs.getD k 0) = true
      · have HN : Hid (∀ j, j < k + 1 → isHex (bs.getD j 0) = true) := fun j hj => by
          by_cases e : j = k
          · rw [e]; exact hx
          · exact hh.out j (by omega)
        generalize bs.getD k 0 = c at hc hx
        obtain ⟨hv, hv16⟩ := digV_hex c hx
        have hD := Lib.hid (fun W => digit_any c.toNat W c.toNat_lt)
        rw [hv] at hD
        have hv' : (0 : Int) ≤ (hexV c : Int) ∧ (hexV c : Int) ≤ 15 := by omega
        clear hx hv hv16 hB hh hbad
        generalize (hexV c : Int) = d at hv' hD
        go_wp2_with (go_at_call 54; refine (hD.out _).mono ?_; rintro e w' ⟨rfl, rfl⟩)
        exact ⟨⟨k + 1, _, rfl, rfl, by omega, HN⟩, by simp [intOf]; omega⟩
      · generalize bs.getD k 0 = c at hc hx
        have hv := digV_nohex c hx
        have hD := Lib.hid (fun W => digit_any c.toNat W c.toNat_lt)
        rw [hv] at hD
        clear hx hv hB hh hbad
        go_wp2_with (go_at_call 54; refine (hD.out _).mono ?_; rintro e w' ⟨rfl, rfl⟩)
        refine bodyPost_ret (v := .tuple #[.agg #[.bool false, .int .u64 0], .int .i64 3]) (by simp [results, Tryd.results53, go_sem, c0, c1]) rfl ⟨rfl, (hal.setCell (Nat.le_refl _) _).setCell (Nat.le_refl _) _⟩
    · have hkk : k = s.size := by omega
      subst hkk
      have hne : ¬ (s.size : Int) = 16 := fun e => hbad.out ⟨by omega, fun c hc => by
        obtain ⟨j, hj, rfl⟩ := List.mem_iff_getElem.1 hc
        have := hh.out j (by omega)
        rwa [List.getD, List.getElem?_eq_getElem hj] at this⟩
      clear hB hh hbad
      go_wp2
      refine bodyPost_ret (v := .tuple #[.agg #[.bool false, .int .u64 0], .int .i64 3]) (by simp [results, Tryd.results53, go_sem, c0, c1]) rfl ⟨rfl, (hal.setCell (Nat.le_refl _) _).setCell (Nat.le_refl _) _⟩

end Go.Proofs.YtkeeglpbhjnmdaaDoor
