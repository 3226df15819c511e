import Derived.Laws.DeepStrings4
import Derived.Test.YthehgcmhcioffaaGreatDoorMg3
import Derived.Test.YthehgcmhcioffaaGreatDoorMg18
namespace Go.Proofs.YthehgcmhcioffaaGreatDoor
set_option maxHeartbeats 64000000
set_option maxRecDepth 100000
open Go.RowKit
theorem digV_hex (c : UInt8) (h : isHex c = true) : digV c.toNat = hexV c ∧ hexV c < 16 := by
  have h2 := digit_hex c h
  simp only [isHex, Bool.or_eq_true, decide_eq_true_eq] at h
  refine ⟨?_, h2.1⟩
  unfold digV hexV
  rcases h with h | h
  · rw [if_pos h, if_pos h.2]
  · rw [if_neg (by omega), if_pos h, if_neg (by omega)]
theorem digV_nohex (c : UInt8) (h : ¬ isHex c = true) : digV c.toNat = 99 := by
  simp only [isHex, Bool.or_eq_true, decide_eq_true_eq, not_or] at h
  unfold digV
  rw [if_neg h.1, if_neg h.2]
theorem bits_good (s : ByteArray) (hs : s.size = 16) (hall : ∀ c ∈ s.data.toList, isHex c = true) (w : World) :
    Calls Tryz.prog 147 #[.string s] w fun e w' => e = .returned (.tuple #[.agg #[.bool true, .int .u64 (hexN 0 s.data.toList : Nat)], .int .i64 0]) ∧ Below w.heap.size w w' := by
  have hB := fun k hk W => letter_at s k hk W
  have hLn := Lib.size_eq s
  obtain ⟨bs, hL⟩ : ∃ bs, bs = s.data.toList := ⟨_, rfl⟩
  rw [← hL] at hB hall hLn ⊢
  clear hL
  have hs' : (s.size : Int) = 16 := by omega
  replace hB := Hd hB
  replace hall := Hd hall
  go_enter Tryz.func147, Tryz.ntmps147
  go_wp2_with fail
  have hal : Below w.heap.size w (w.alloc (.cells #[.bool false, .int .u64 0] 33)) := Br.alloc Nr _
  have c0 : (w.alloc (.cells #[.bool false, .int .u64 0] 33)).cell? ⟨w.heap.size, 0, none⟩ = some (.bool false) := by simp
  have c1 : (w.alloc (.cells #[.bool false, .int .u64 0] 33)).cell? ⟨w.heap.size, 1, none⟩ = some (.int .u64 0) := by simp
  have z0 : (w.alloc (.cells #[.bool false, .int .u64 0] 33)).frozen? ⟨w.heap.size, 0, none⟩ = false := by simp
  have z1 : (w.alloc (.cells #[.bool false, .int .u64 0] 33)).frozen? ⟨w.heap.size, 1, none⟩ = false := by simp
  generalize (w.alloc (.cells #[.bool false, .int .u64 0] 33)) = w0 at *
  go_loop [4, 5] (fun vn vi => ∃ (k acc : Nat) (a : Int), vn = .int .u64 a ∧ vi = .int .i64 k ∧ k ≤ 16 ∧ Hid (a = (acc : Int) ∧ acc < 16 ^ k ∧ hexN 0 bs = hexN acc (bs.drop k)))
    (fun _ vi => 16 - (intOf vi).toNat)
  case atStart => exact ⟨0, 0, 0, rfl, rfl, by omega, rfl, by decide, rfl⟩
  case round =>
    obtain ⟨k, acc, a, rfl, rfl, hk, hh⟩ := hrel
    obtain ⟨ha, hacc, hdec⟩ := hh.out
    clear hh
    by_cases hkn : k < 16
    · have hp := pow16 (show k ≤ 15 by omega)
      have hps : 16 ^ (k + 1) = 16 ^ k * 16 := Nat.pow_succ 16 k
      have a0 : 0 ≤ a := by omega
      have a1 : a < 1152921504606846976 := by omega
      have hc := hB.out k (by omega)
      have hdrop : bs.drop k = bs[k]'(by omega) :: bs.drop (k + 1) := List.drop_eq_getElem_cons (by omega)
      have hget : bs.getD k 0 = bs[k]'(by omega) := by simp [List.getD, List.getElem?_eq_getElem (show k < bs.length by omega)]
      have hx : isHex (bs[k]'(by omega)) = true := hall.out _ (List.getElem_mem _)
      rw [hdrop] at hdec
      rw [hget] at hc
      generalize bs[k]'(by omega) = c at hc hdec hx
      obtain ⟨hv, hv16⟩ := digV_hex c hx
      have hD := Hd (fun W => digit_any c.toNat W c.toNat_lt)
      rw [hv] at hD
      have HN : Hid (a * 16 + (hexV c : Int) = ((acc * 16 + hexV c : Nat) : Int) ∧ acc * 16 + hexV c < 16 ^ (k + 1) ∧ hexN 0 bs = hexN (acc * 16 + hexV c) (bs.drop (k + 1))) :=
        Hd ⟨by omega, by omega, hdec⟩
      have hkn' : (k : Int) < 16 := by omega
      have hv' : (0 : Int) ≤ (hexV c : Int) ∧ (hexV c : Int) ≤ 15 := by omega
      clear hacc hdec ha hp hps hv hv16 hx hdrop hget hB hall
      generalize (hexV c : Int) = d at HN hv' hD
      go_wp2_with (go_at_call 148; refine (hD.out _).mono ?_; rintro e w' ⟨rfl, rfl⟩)
      refine ⟨⟨k + 1, acc * 16 + hexV c, a * 16 + d, (by first | rfl | (congr 1; omega)), (by first | rfl | (congr 1; omega)), by omega, HN⟩, by simp [intOf]; omega⟩
    · have hkk : k = 16 := by omega
      subst hkk
      have hF : hexN acc (bs.drop 16) = acc := by rw [List.drop_eq_nil_of_le (by omega)]; rfl
      rw [hF] at hdec
      subst ha
      clear hacc hF hB hall
      replace hdec := Hd hdec
      go_wp2
      refine bodyPost_ret (v := .tuple #[.agg #[.bool true, .int .u64 (acc : Int)], .int .i64 0]) (by simp [results, Tryz.results147, go_sem, c0, c1]) rfl ⟨by rw [hdec.out], (hal.setCell Nr _).setCell Nr _⟩
theorem bits_bad (s : ByteArray) (hmax : s.size ≤ 100000) (hbad : ¬ (s.size = 16 ∧ ∀ c ∈ s.data.toList, isHex c = true)) (w : World) :
    Calls Tryz.prog 147 #[.string s] w fun e w' => e = .returned (.tuple #[.agg #[.bool false, .int .u64 0], .int .i64 3]) ∧ Below w.heap.size w w' := by
  have hB := fun k hk W => letter_at s k hk W
  have hLn := Lib.size_eq s
  obtain ⟨bs, hL⟩ : ∃ bs, bs = s.data.toList := ⟨_, rfl⟩
  rw [← hL] at hB hbad hLn
  clear hL
  have hs' : (s.size : Int) ≤ 100000 := by omega
  replace hB := Hd hB
  replace hbad := Hd hbad
  clear hmax
  go_enter Tryz.func147, Tryz.ntmps147
  go_wp2_with fail
  have hal : Below w.heap.size w (w.alloc (.cells #[.bool false, .int .u64 0] 33)) := Br.alloc Nr _
  have c0 : (w.alloc (.cells #[.bool false, .int .u64 0] 33)).cell? ⟨w.heap.size, 0, none⟩ = some (.bool false) := by simp
  have c1 : (w.alloc (.cells #[.bool false, .int .u64 0] 33)).cell? ⟨w.heap.size, 1, none⟩ = some (.int .u64 0) := by simp
  have z0 : (w.alloc (.cells #[.bool false, .int .u64 0] 33)).frozen? ⟨w.heap.size, 0, none⟩ = false := by simp
  have z1 : (w.alloc (.cells #[.bool false, .int .u64 0] 33)).frozen? ⟨w.heap.size, 1, none⟩ = false := by simp
  generalize (w.alloc (.cells #[.bool false, .int .u64 0] 33)) = w0 at *
  go_loop [4, 5] (fun vn vi => ∃ (k : Nat) (a : Int), vn = .int .u64 a ∧ vi = .int .i64 k ∧ k ≤ s.size ∧ Hid (∀ j, j < k → isHex (bs.getD j 0) = true))
    (fun _ vi => s.size - (intOf vi).toNat)
  case atStart => exact ⟨0, 0, rfl, rfl, by omega, fun j hj => absurd hj (by omega)⟩
  case round =>
    obtain ⟨k, a, rfl, rfl, hk, hh⟩ := hrel
    by_cases hkn : k < s.size
    · have hc := hB.out k hkn
      have hkn' : (k : Int) < (s.size : Int) := by omega
      by_cases hx : isHex (bs.getD k 0) = true
      · have HN : Hid (∀ j, j < k + 1 → isHex (bs.getD j 0) = true) := fun j hj => by
          by_cases e : j = k
          · rw [e]; exact hx
          · exact hh.out j (by omega)
        generalize bs.getD k 0 = c at hc hx
        obtain ⟨hv, hv16⟩ := digV_hex c hx
        have hD := Hd (fun W => digit_any c.toNat W c.toNat_lt)
        rw [hv] at hD
        have hv' : (0 : Int) ≤ (hexV c : Int) ∧ (hexV c : Int) ≤ 15 := by omega
        clear hx hv hv16 hB hh hbad
        generalize (hexV c : Int) = d at hv' hD
        go_wp2_with (go_at_call 148; refine (hD.out _).mono ?_; rintro e w' ⟨rfl, rfl⟩)
        exact ⟨⟨k + 1, _, rfl, rfl, by omega, HN⟩, by simp [intOf]; omega⟩
      · generalize bs.getD k 0 = c at hc hx
        have hv := digV_nohex c hx
        have hD := Hd (fun W => digit_any c.toNat W c.toNat_lt)
        rw [hv] at hD
        clear hx hv hB hh hbad
        go_wp2_with (go_at_call 148; refine (hD.out _).mono ?_; rintro e w' ⟨rfl, rfl⟩)
        refine bodyPost_ret (v := .tuple #[.agg #[.bool false, .int .u64 0], .int .i64 3]) (by simp [results, Tryz.results147, go_sem, c0, c1]) rfl ⟨rfl, (hal.setCell Nr _).setCell Nr _⟩
    · have hkk : k = s.size := by omega
      subst hkk
      have hne : ¬ (s.size : Int) = 16 := fun e => hbad.out ⟨by omega, fun c hc => by
        obtain ⟨j, hj, rfl⟩ := List.mem_iff_getElem.1 hc
        have := hh.out j (by omega)
        rwa [List.getD, List.getElem?_eq_getElem hj] at this⟩
      clear hB hh hbad
      go_wp2
      refine bodyPost_ret (v := .tuple #[.agg #[.bool false, .int .u64 0], .int .i64 3]) (by simp [results, Tryz.results147, go_sem, c0, c1]) rfl ⟨rfl, (hal.setCell Nr _).setCell Nr _⟩
theorem digV_dig (c : UInt8) (h : isDig c = true) : digV c.toNat = c.toNat - 48 ∧ digV c.toNat ≤ 9 := by
  have h := (dig_iff c).1 h
  unfold digV
  rw [if_pos h]
  omega
theorem digV_nodig (c : UInt8) (h : ¬ isDig c = true) : 9 < digV c.toNat := by
  rw [dig_iff] at h
  unfold digV
  rw [if_neg h]
  split <;> omega
theorem refParse_bad_minus (s d : ByteArray) (hmax : (d.size : Int) ≤ 100000) (w : World) (hP : ((s.extract 0 2).toList == [48, 102]) = false) (hx : Hid (0 < (s.size : Int) ∧ ∀ W, (Instr.index 9 (.string s) (.int .i64 0)).run Tryz.prog W = .ok (.int .u8 45) W)) (hd : Hid (s.extract 1 s.size = d))
    (hbad : Hid (((∃ c ∈ d.data.toList, isDig c = false) ∨ d = ⟨#[]⟩) ∨ (d.data.toList.head? = some 48 ∧ (s.toList == [48]) = false))) :
    Calls Tryz.prog 126 #[.string s] w fun e w' => e = .returned (.tuple #[.agg #[.bool false, .int .u64 0], .int .i64 3]) ∧ Below w.heap.size w w' := by
  have hB := fun k hk W => letter_at d k hk W
  have hLn := Lib.size_eq d
  replace hB := Hd hB
  replace hLn := Hd hLn
  go_enter Tryz.func126, Tryz.ntmps126
  go_upto_region 1 with (fail)
  have hal : Below w.heap.size w (w.alloc (.cells #[.bool false, .int .u64 0] 33)) := Br.alloc Nr _
  have c0 : (w.alloc (.cells #[.bool false, .int .u64 0] 33)).cell? ⟨w.heap.size, 0, none⟩ = some (.bool false) := by simp
  have c1 : (w.alloc (.cells #[.bool false, .int .u64 0] 33)).cell? ⟨w.heap.size, 1, none⟩ = some (.int .u64 0) := by simp
  have z0 : (w.alloc (.cells #[.bool false, .int .u64 0] 33)).frozen? ⟨w.heap.size, 0, none⟩ = false := by simp
  have z1 : (w.alloc (.cells #[.bool false, .int .u64 0] 33)).frozen? ⟨w.heap.size, 1, none⟩ = false := by simp
  generalize (w.alloc (.cells #[.bool false, .int .u64 0] 33)) = w0 at *
  go_cut [16] (fun v wx => v = .bool false ∧ w0 = wx)
  case first =>
    by_cases h2 : 2 ≤ (s.size : Int)
    · go_wp2_with fail
      go_meet
      exact ⟨rfl, rfl⟩
    · go_wp2_with fail
      go_meet
      exact ⟨rfl, rfl⟩
  case rest =>
    obtain ⟨rfl, rfl⟩ := hcut
    clear hP
    go_upto_region 3 with (fail)
    go_cut [4] (fun v wx => v = .bool true ∧ w0 = wx)
    case first =>
      have hx1 := hx.out.1
      have hx2 := hx.out.2
      go_wp2_with fail
      go_meet
      exact ⟨rfl, rfl⟩
    case rest =>
      obtain ⟨rfl, rfl⟩ := hcut
      have hx1 := hx.out.1
      clear hx
      go_wp2_with fail
      clear hx1
      rw [hd.out]
      clear hd
      go_loop [6] (fun vi => ∃ k : Nat, vi = .int .i64 k ∧ k ≤ d.size ∧ Hid (∀ j, j < k → isDig (d.data.toList.getD j 0) = true)) (fun vi => d.size - (intOf vi).toNat)
      case atStart => exact ⟨0, rfl, by omega, fun j hj => absurd hj (by omega)⟩
      case round =>
        obtain ⟨k, rfl, hk, hh⟩ := hrel
        by_cases hkn : k < d.size
        · have hc := hB.out k hkn
          have hkn' : (k : Int) < (d.size : Int) := by omega
          by_cases hq : isDig (d.data.toList.getD k 0) = true
          · have HN : Hid (∀ j, j < k + 1 → isDig (d.data.toList.getD j 0) = true) := fun j hj => by
              by_cases e : j = k
              · rw [e]; exact hq
              · exact hh.out j (by omega)
            generalize d.data.toList.getD k 0 = c at hc hq
            obtain ⟨hv, hv9⟩ := digV_dig c hq
            have hD := Hd (fun W => digit_any c.toNat W c.toNat_lt)
            clear hq hv hB hh hbad hLn
            have hv' : (digV c.toNat : Int) ≤ 9 := by omega
            clear hv9
            generalize (digV c.toNat : Int) = x at hv' hD
            go_wp2_with (go_at_call 148; refine (hD.out _).mono ?_; rintro e w' ⟨rfl, rfl⟩)
            exact ⟨⟨k + 1, rfl, by omega, HN⟩, by simp [intOf]; omega⟩
          · generalize d.data.toList.getD k 0 = c at hc hq
            have hv := digV_nodig c hq
            have hD := Hd (fun W => digit_any c.toNat W c.toNat_lt)
            clear hq hB hh hbad hLn
            have hv' : (9 : Int) < (digV c.toNat : Int) := by omega
            clear hv
            generalize (digV c.toNat : Int) = x at hv' hD
            go_wp2_with (go_at_call 148; refine (hD.out _).mono ?_; rintro e w' ⟨rfl, rfl⟩)
            refine bodyPost_ret (v := .tuple #[.agg #[.bool false, .int .u64 0], .int .i64 3]) (by simp [results, Tryz.results126, go_sem, c0, c1]) rfl ⟨rfl, (hal.setCell Nr _).setCell Nr _⟩
        · have hkk : k = d.size := by omega
          subst hkk
          rcases hbad.out with (⟨c, hc, hc'⟩ | h) | ⟨h1, h2⟩
          · obtain ⟨j, hj, rfl⟩ := List.mem_iff_getElem.1 hc
            have hl := hLn.out
            have := hh.out j (by omega)
            rw [List.getD, List.getElem?_eq_getElem hj, Option.getD_some, hc'] at this
            cases this
          · clear hB hh hbad hLn
            subst h
            go_wp2
            refine bodyPost_ret (v := .tuple #[.agg #[.bool false, .int .u64 0], .int .i64 3]) (by simp [results, Tryz.results126, go_sem, c0, c1]) rfl ⟨rfl, (hal.setCell Nr _).setCell Nr _⟩
          · have hl := hLn.out
            have hpos : 0 < d.size := by
              cases hq : d.data.toList with
              | nil => rw [hq] at h1; cases h1
              | cons a r => rw [hq] at hl; simp at hl; omega
            have hx0 := hB.out 0 hpos
            have e48 : d.data.toList.getD 0 0 = 48 := by rw [List.head?_eq_getElem?] at h1; rw [List.getD, h1]; rfl
            rw [e48] at hx0
            have hx0' : ∀ W, (Instr.index 9 (.string d) (.int .i64 0)).run Tryz.prog W = .ok (.int .u8 48) W := hx0
            have hemp : d.toList.isEmpty = false := by
              rw [← decide_eq_emptyBytes]
              exact decide_eq_false (fun e => by rw [e] at hpos; exact absurd hpos (by decide))
            clear hB hh hbad hLn hl h1 hpos hx0 e48
            go_wp2
            refine bodyPost_ret (v := .tuple #[.agg #[.bool false, .int .u64 0], .int .i64 3]) (by simp [results, Tryz.results126, go_sem, c0, c1]) rfl ⟨rfl, (hal.setCell Nr _).setCell Nr _⟩
theorem refParse_bad_plain (d : ByteArray) (hmax : (d.size : Int) ≤ 100000) (w : World) (hP : ((d.extract 0 2).toList == [48, 102]) = false) (hx : Hid (¬ 0 < (d.size : Int) ∨ (0 < (d.size : Int) ∧ ∃ c : Int, (∀ W, (Instr.index 9 (.string d) (.int .i64 0)).run Tryz.prog W = .ok (.int .u8 c) W) ∧ (c == 45) = false)))
    (hbad : Hid (((∃ c ∈ d.data.toList, isDig c = false) ∨ d = ⟨#[]⟩) ∨ (d.data.toList.head? = some 48 ∧ (d.toList == [48]) = false))) :
    Calls Tryz.prog 126 #[.string d] w fun e w' => e = .returned (.tuple #[.agg #[.bool false, .int .u64 0], .int .i64 3]) ∧ Below w.heap.size w w' := by
  have hB := fun k hk W => letter_at d k hk W
  have hLn := Lib.size_eq d
  replace hB := Hd hB
  replace hLn := Hd hLn
  go_enter Tryz.func126, Tryz.ntmps126
  go_upto_region 1 with (fail)
  have hal : Below w.heap.size w (w.alloc (.cells #[.bool false, .int .u64 0] 33)) := Br.alloc Nr _
  have c0 : (w.alloc (.cells #[.bool false, .int .u64 0] 33)).cell? ⟨w.heap.size, 0, none⟩ = some (.bool false) := by simp
  have c1 : (w.alloc (.cells #[.bool false, .int .u64 0] 33)).cell? ⟨w.heap.size, 1, none⟩ = some (.int .u64 0) := by simp
  have z0 : (w.alloc (.cells #[.bool false, .int .u64 0] 33)).frozen? ⟨w.heap.size, 0, none⟩ = false := by simp
  have z1 : (w.alloc (.cells #[.bool false, .int .u64 0] 33)).frozen? ⟨w.heap.size, 1, none⟩ = false := by simp
  generalize (w.alloc (.cells #[.bool false, .int .u64 0] 33)) = w0 at *
  go_cut [16] (fun v wx => v = .bool false ∧ w0 = wx)
  case first =>
    by_cases h2 : 2 ≤ (d.size : Int)
    · go_wp2_with fail
      go_meet
      exact ⟨rfl, rfl⟩
    · go_wp2_with fail
      go_meet
      exact ⟨rfl, rfl⟩
  case rest =>
    obtain ⟨rfl, rfl⟩ := hcut
    clear hP
    go_upto_region 3 with (fail)
    go_cut [4] (fun v wx => v = .bool false ∧ w0 = wx)
    case first =>
      rcases hx.out with hx1 | ⟨hx1, c, hx2, hx3⟩
      · go_wp2_with fail
        go_meet
        exact ⟨rfl, rfl⟩
      · go_wp2_with fail
        go_meet
        exact ⟨rfl, rfl⟩
    case rest =>
      obtain ⟨rfl, rfl⟩ := hcut
      clear hx
      go_wp2_with fail
      go_loop [6] (fun vi => ∃ k : Nat, vi = .int .i64 k ∧ k ≤ d.size ∧ Hid (∀ j, j < k → isDig (d.data.toList.getD j 0) = true)) (fun vi => d.size - (intOf vi).toNat)
      case atStart => exact ⟨0, rfl, by omega, fun j hj => absurd hj (by omega)⟩
      case round =>
        obtain ⟨k, rfl, hk, hh⟩ := hrel
        by_cases hkn : k < d.size
        · have hc := hB.out k hkn
          have hkn' : (k : Int) < (d.size : Int) := by omega
          by_cases hq : isDig (d.data.toList.getD k 0) = true
          · have HN : Hid (∀ j, j < k + 1 → isDig (d.data.toList.getD j 0) = true) := fun j hj => by
              by_cases e : j = k
              · rw [e]; exact hq
              · exact hh.out j (by omega)
            generalize d.data.toList.getD k 0 = c at hc hq
            obtain ⟨hv, hv9⟩ := digV_dig c hq
            have hD := Hd (fun W => digit_any c.toNat W c.toNat_lt)
            clear hq hv hB hh hbad hLn
            have hv' : (digV c.toNat : Int) ≤ 9 := by omega
            clear hv9
            generalize (digV c.toNat : Int) = x at hv' hD
            go_wp2_with (go_at_call 148; refine (hD.out _).mono ?_; rintro e w' ⟨rfl, rfl⟩)
            exact ⟨⟨k + 1, rfl, by omega, HN⟩, by simp [intOf]; omega⟩
          · generalize d.data.toList.getD k 0 = c at hc hq
            have hv := digV_nodig c hq
            have hD := Hd (fun W => digit_any c.toNat W c.toNat_lt)
            clear hq hB hh hbad hLn
            have hv' : (9 : Int) < (digV c.toNat : Int) := by omega
            clear hv
            generalize (digV c.toNat : Int) = x at hv' hD
            go_wp2_with (go_at_call 148; refine (hD.out _).mono ?_; rintro e w' ⟨rfl, rfl⟩)
            refine bodyPost_ret (v := .tuple #[.agg #[.bool false, .int .u64 0], .int .i64 3]) (by simp [results, Tryz.results126, go_sem, c0, c1]) rfl ⟨rfl, (hal.setCell Nr _).setCell Nr _⟩
        · have hkk : k = d.size := by omega
          subst hkk
          rcases hbad.out with (⟨c, hc, hc'⟩ | h) | ⟨h1, h2⟩
          · obtain ⟨j, hj, rfl⟩ := List.mem_iff_getElem.1 hc
            have hl := hLn.out
            have := hh.out j (by omega)
            rw [List.getD, List.getElem?_eq_getElem hj, Option.getD_some, hc'] at this
            cases this
          · clear hB hh hbad hLn
            subst h
            go_wp2
            refine bodyPost_ret (v := .tuple #[.agg #[.bool false, .int .u64 0], .int .i64 3]) (by simp [results, Tryz.results126, go_sem, c0, c1]) rfl ⟨rfl, (hal.setCell Nr _).setCell Nr _⟩
          · have hl := hLn.out
            have hpos : 0 < d.size := by
              cases hq : d.data.toList with
              | nil => rw [hq] at h1; cases h1
              | cons a r => rw [hq] at hl; simp at hl; omega
            have hx0 := hB.out 0 hpos
            have e48 : d.data.toList.getD 0 0 = 48 := by rw [List.head?_eq_getElem?] at h1; rw [List.getD, h1]; rfl
            rw [e48] at hx0
            have hx0' : ∀ W, (Instr.index 9 (.string d) (.int .i64 0)).run Tryz.prog W = .ok (.int .u8 48) W := hx0
            have hemp : d.toList.isEmpty = false := by
              rw [← decide_eq_emptyBytes]
              exact decide_eq_false (fun e => by rw [e] at hpos; exact absurd hpos (by decide))
            clear hB hh hbad hLn hl h1 hpos hx0 e48
            go_wp2
            refine bodyPost_ret (v := .tuple #[.agg #[.bool false, .int .u64 0], .int .i64 3]) (by simp [results, Tryz.results126, go_sem, c0, c1]) rfl ⟨rfl, (hal.setCell Nr _).setCell Nr _⟩
theorem refParse_good_minus (s d : ByteArray) (x e0 : Int) (hmax : (d.size : Int) ≤ 100000) (w : World) (hP : ((s.extract 0 2).toList == [48, 102]) = false) (hx : Hid (0 < (s.size : Int) ∧ ∀ W, (Instr.index 9 (.string s) (.int .i64 0)).run Tryz.prog W = .ok (.int .u8 45) W)) (hd : Hid (s.extract 1 s.size = d))
    (hall : Hid (∀ c ∈ d.data.toList, isDig c = true)) (hpos : 0 < (d.size : Int)) (hform : Hid (d.data.toList.head? ≠ some 48))
    (hr : Hid ((decN 0 d.data.toList ≤ 9223372036854775808 → x = U (-(decN 0 d.data.toList : Int)) ∧ e0 = 0) ∧ (9223372036854775808 < decN 0 d.data.toList → x = 0 ∧ e0 = 1))) :
    Calls Tryz.prog 126 #[.string s] w fun e w' => e = .returned (.tuple #[.agg #[.bool false, .int .u64 x], .int .i64 e0]) ∧ Below w.heap.size w w' := by
  have hB := fun k hk W => letter_at d k hk W
  have hLn := Lib.size_eq d
  have h0 := hB 0 (by omega)
  have hz : d.data.toList.head? = some (d.data.toList.getD 0 0) := by
    rw [List.head?_eq_getElem?, List.getD, List.getElem?_eq_getElem (by omega)]; rfl
  have hemp : d.toList.isEmpty = false := by
    rw [← decide_eq_emptyBytes]
    refine decide_eq_false (fun e => ?_)
    rw [e] at hpos
    exact absurd hpos (by decide)
  have hC : Hid (∃ c : Int, (∀ W, (Instr.index 9 (.string d) (.int .i64 0)).run Tryz.prog W = .ok (.int .u8 c) W) ∧ (c == 48) = false) := by
    refine ⟨((d.data.toList.getD 0 0).toNat : Int), h0, ?_⟩
    generalize d.data.toList.getD 0 0 = c at hz
    rcases (Or.inl hform.out : _ ∨ False) with h | h
    · refine beq_eq_false_iff_ne.2 fun e => h ?_
      rw [hz]
      congr 1
      apply UInt8.toNat_inj.1
      have h48 : (48 : UInt8).toNat = 48 := rfl
      omega
    · exact h.elim
  clear h0 hz hform
  replace hB := Hd hB
  replace hLn := Hd hLn
  replace hemp := Hd hemp
  go_enter Tryz.func126, Tryz.ntmps126
  go_upto_region 1 with (fail)
  have hal : Below w.heap.size w (w.alloc (.cells #[.bool false, .int .u64 0] 33)) := Br.alloc Nr _
  have c0 : (w.alloc (.cells #[.bool false, .int .u64 0] 33)).cell? ⟨w.heap.size, 0, none⟩ = some (.bool false) := by simp
  have c1 : (w.alloc (.cells #[.bool false, .int .u64 0] 33)).cell? ⟨w.heap.size, 1, none⟩ = some (.int .u64 0) := by simp
  have z0 : (w.alloc (.cells #[.bool false, .int .u64 0] 33)).frozen? ⟨w.heap.size, 0, none⟩ = false := by simp
  have z1 : (w.alloc (.cells #[.bool false, .int .u64 0] 33)).frozen? ⟨w.heap.size, 1, none⟩ = false := by simp
  generalize (w.alloc (.cells #[.bool false, .int .u64 0] 33)) = w0 at *
  go_cut [16] (fun v wx => v = .bool false ∧ w0 = wx)
  case first =>
    by_cases h2 : 2 ≤ (s.size : Int)
    · go_wp2_with fail
      go_meet
      exact ⟨rfl, rfl⟩
    · go_wp2_with fail
      go_meet
      exact ⟨rfl, rfl⟩
  case rest =>
    obtain ⟨rfl, rfl⟩ := hcut
    clear hP
    go_upto_region 3 with (fail)
    go_cut [4] (fun v wx => v = .bool true ∧ w0 = wx)
    case first =>
      have hx1 := hx.out.1
      have hx2 := hx.out.2
      go_wp2_with fail
      go_meet
      exact ⟨rfl, rfl⟩
    case rest =>
      obtain ⟨rfl, rfl⟩ := hcut
      have hx1 := hx.out.1
      clear hx
      go_wp2_with fail
      clear hx1
      rw [hd.out]
      clear hd
      go_loop [6] (fun vi => ∃ k : Nat, vi = .int .i64 k ∧ k ≤ d.size) (fun vi => d.size - (intOf vi).toNat)
      case atStart => exact ⟨0, rfl, by omega⟩
      case round =>
        obtain ⟨k, rfl, hk⟩ := hrel
        by_cases hkn : k < d.size
        · have hc := hB.out k hkn
          have hkn' : (k : Int) < (d.size : Int) := by omega
          have hq : isDig (d.data.toList.getD k 0) = true := by
            have hl := hLn.out
            have e : d.data.toList.getD k 0 = d.data.toList[k]'(by omega) := by rw [List.getD, List.getElem?_eq_getElem (by omega)]; rfl
            rw [e]
            exact hall.out _ (List.getElem_mem _)
          generalize d.data.toList.getD k 0 = c at hc hq
          obtain ⟨hv, hv9⟩ := digV_dig c hq
          have hD := Hd (fun W => digit_any c.toNat W c.toNat_lt)
          clear hq hv hB hall hLn hC hemp hr
          have hv' : (digV c.toNat : Int) ≤ 9 := by omega
          clear hv9
          generalize (digV c.toNat : Int) = y at hv' hD
          go_wp2_with (go_at_call 148; refine (hD.out _).mono ?_; rintro e w' ⟨rfl, rfl⟩)
          exact ⟨⟨k + 1, rfl, by omega⟩, by simp [intOf]; omega⟩
        · have hkk : k = d.size := by omega
          subst hkk
          go_upto_region 12 with (fail)
          go_cut [56] (fun v wx => v = .bool false ∧ w0 = wx)
          case first =>
            have hemp1 := hemp.out
            obtain ⟨c, hc1, hc2⟩ := hC.out
            clear hC hemp hB hall hLn hr
            go_wp2_with fail
            go_meet
            exact ⟨rfl, rfl⟩
          case rest =>
            obtain ⟨rfl, rfl⟩ := hcut
            clear hC hemp
            go_wp2_with fail
            go_loop [7, 8] (fun vn vi => ∃ (k acc : Nat) (a : Int), vn = .int .u64 a ∧ vi = .int .i64 k ∧ k ≤ d.size ∧ Hid (a = (acc : Int) ∧ acc ≤ 9223372036854775808 ∧ decN 0 d.data.toList = decN acc (d.data.toList.drop k)))
              (fun _ vi => d.size - (intOf vi).toNat)
            case atStart => exact ⟨0, 0, 0, rfl, rfl, by omega, rfl, by decide, rfl⟩
            case round =>
              obtain ⟨k, acc, a, rfl, rfl, hk, hh⟩ := hrel
              by_cases hkn : k < d.size
              · have hc := hB.out k hkn
                have hkn' : (k : Int) < (d.size : Int) := by omega
                have hl := hLn.out
                have hq : isDig (d.data.toList[k]'(by omega)) = true := hall.out _ (List.getElem_mem _)
                have hdec := hh.out.2.2
                have hget : d.data.toList.getD k 0 = d.data.toList[k]'(by omega) := by rw [List.getD, List.getElem?_eq_getElem (by omega)]; rfl
                rw [List.drop_eq_getElem_cons (by omega : k < d.data.toList.length)] at hdec
                rw [hget] at hc
                generalize d.data.toList[k]'(by omega) = c at hc hq hdec
                obtain ⟨hv, hv9⟩ := digV_dig c hq
                have hD := Hd (fun W => digit_any c.toNat W c.toNat_lt)
                have hge := decN_ge (d.data.toList.drop (k + 1)) (acc * 10 + (c.toNat - 48))
                have hdec' : decN 0 d.data.toList = decN (acc * 10 + (c.toNat - 48)) (d.data.toList.drop (k + 1)) := hdec
                rw [← hdec', ← hv] at hge
                have HN : Hid (decN 0 d.data.toList = decN (acc * 10 + digV c.toNat) (d.data.toList.drop (k + 1))) := by rw [hv]; exact hdec'
                have hv' : (digV c.toNat : Int) ≤ 9 ∧ 0 ≤ (digV c.toNat : Int) := by omega
                have hA : a = (acc : Int) := hh.out.1
                have hA2 : 0 ≤ a ∧ a ≤ 9223372036854775808 := by have := hh.out.2.1; omega
                clear hq hv hall hB hLn hl hget hdec hdec' hh hv9
                generalize hY : digV c.toNat = Y at hv' hD HN hge
                clear hY
                by_cases ho : (9223372036854775808 - (Y : Int)) / 10 < a
                · have hres := hr.out.2 (by omega)
                  obtain ⟨rfl, rfl⟩ := hres
                  clear hr hge HN hA
                  generalize (Y : Int) = y at hv' hD ho
                  go_wp2_with (go_at_call 148; refine (hD.out _).mono ?_; rintro e w' ⟨rfl, rfl⟩)
                  refine bodyPost_ret (v := .tuple #[.agg #[.bool false, .int .u64 0], .int .i64 1]) (by simp [results, Tryz.results126, go_sem, c0, c1]) rfl ⟨rfl, (hal.setCell Nr _).setCell Nr _⟩
                · have HN2 : Hid (a * 10 + (Y : Int) = ((acc * 10 + Y : Nat) : Int) ∧ acc * 10 + Y ≤ 9223372036854775808 ∧ decN 0 d.data.toList = decN (acc * 10 + Y) (d.data.toList.drop (k + 1))) := ⟨by omega, by omega, HN.out⟩
                  clear hr hge HN hA
                  have ho' : a * 10 + (Y : Int) ≤ 9223372036854775808 ∧ 0 ≤ a * 10 + (Y : Int) := by omega
                  generalize (Y : Int) = y at hv' hD ho ho' HN2
                  go_wp2_with (go_at_call 148; refine (hD.out _).mono ?_; rintro e w' ⟨rfl, rfl⟩)
                  exact ⟨⟨k + 1, acc * 10 + Y, a * 10 + y, (by first | rfl | (congr 1; omega)), (by first | rfl | (congr 1; omega)), by omega, HN2⟩, by simp [intOf]; omega⟩
              · have hkk : k = d.size := by omega
                subst hkk
                obtain ⟨ha, hacc, hdec⟩ := hh.out
                rw [List.drop_eq_nil_of_le (by have := hLn.out; omega)] at hdec
                have hdec' : decN 0 d.data.toList = acc := hdec
                have hA2 : 0 ≤ a ∧ a ≤ 9223372036854775808 := by omega
                obtain ⟨hr1, rfl⟩ := hr.out.1 (by omega)
                have hU : x = IntKind.u64.wrap (0 - a) := by rw [hr1, hdec', ha, Int.zero_sub]; rfl
                have hU' : x = IntKind.u64.wrap (-a) := by rw [hU, Int.zero_sub]
                clear hr hr1 hdec hdec' hh hacc ha hall hB hLn
                generalize hG : IntKind.u64.wrap (0 - a) = g at hU
                generalize hG' : IntKind.u64.wrap (-a) = g' at hU'
                subst hU
                subst hU'
                go_wp2
                refine bodyPost_ret (v := .tuple #[.agg #[.bool false, .int .u64 x], .int .i64 0]) (by simp [results, Tryz.results126, go_sem, c0, c1]) rfl ⟨rfl, (hal.setCell Nr _).setCell Nr _⟩
theorem refParse_good_plain (d : ByteArray) (x e0 : Int) (hmax : (d.size : Int) ≤ 100000) (w : World) (hP : ((d.extract 0 2).toList == [48, 102]) = false) (hx : Hid (¬ 0 < (d.size : Int) ∨ (0 < (d.size : Int) ∧ ∃ c : Int, (∀ W, (Instr.index 9 (.string d) (.int .i64 0)).run Tryz.prog W = .ok (.int .u8 c) W) ∧ (c == 45) = false)))
    (hall : Hid (∀ c ∈ d.data.toList, isDig c = true)) (hpos : 0 < (d.size : Int)) (hform : Hid (d.data.toList.head? ≠ some 48 ∨ (d.toList == [48]) = true))
    (hr : Hid ((decN 0 d.data.toList < 9223372036854775808 → x = (decN 0 d.data.toList : Int) ∧ e0 = 0) ∧ (9223372036854775808 ≤ decN 0 d.data.toList → x = 0 ∧ e0 = 1))) :
    Calls Tryz.prog 126 #[.string d] w fun e w' => e = .returned (.tuple #[.agg #[.bool false, .int .u64 x], .int .i64 e0]) ∧ Below w.heap.size w w' := by
  have hB := fun k hk W => letter_at d k hk W
  have hLn := Lib.size_eq d
  have h0 := hB 0 (by omega)
  have hz : d.data.toList.head? = some (d.data.toList.getD 0 0) := by
    rw [List.head?_eq_getElem?, List.getD, List.getElem?_eq_getElem (by omega)]; rfl
  have hemp : d.toList.isEmpty = false := by
    rw [← decide_eq_emptyBytes]
    refine decide_eq_false (fun e => ?_)
    rw [e] at hpos
    exact absurd hpos (by decide)
  have hC : Hid (∃ c : Int, (∀ W, (Instr.index 9 (.string d) (.int .i64 0)).run Tryz.prog W = .ok (.int .u8 c) W) ∧ ((c == 48) = false ∨ (d.toList == [48]) = true)) := by
    refine ⟨((d.data.toList.getD 0 0).toNat : Int), h0, ?_⟩
    generalize d.data.toList.getD 0 0 = c at hz
    rcases hform.out with h | h
    · refine Or.inl ?_
      refine beq_eq_false_iff_ne.2 fun e => h ?_
      rw [hz]
      congr 1
      apply UInt8.toNat_inj.1
      have h48 : (48 : UInt8).toNat = 48 := rfl
      omega
    · exact Or.inr h
  clear h0 hz hform
  replace hB := Hd hB
  replace hLn := Hd hLn
  replace hemp := Hd hemp
  go_enter Tryz.func126, Tryz.ntmps126
  go_upto_region 1 with (fail)
  have hal : Below w.heap.size w (w.alloc (.cells #[.bool false, .int .u64 0] 33)) := Br.alloc Nr _
  have c0 : (w.alloc (.cells #[.bool false, .int .u64 0] 33)).cell? ⟨w.heap.size, 0, none⟩ = some (.bool false) := by simp
  have c1 : (w.alloc (.cells #[.bool false, .int .u64 0] 33)).cell? ⟨w.heap.size, 1, none⟩ = some (.int .u64 0) := by simp
  have z0 : (w.alloc (.cells #[.bool false, .int .u64 0] 33)).frozen? ⟨w.heap.size, 0, none⟩ = false := by simp
  have z1 : (w.alloc (.cells #[.bool false, .int .u64 0] 33)).frozen? ⟨w.heap.size, 1, none⟩ = false := by simp
  generalize (w.alloc (.cells #[.bool false, .int .u64 0] 33)) = w0 at *
  go_cut [16] (fun v wx => v = .bool false ∧ w0 = wx)
  case first =>
    by_cases h2 : 2 ≤ (d.size : Int)
    · go_wp2_with fail
      go_meet
      exact ⟨rfl, rfl⟩
    · go_wp2_with fail
      go_meet
      exact ⟨rfl, rfl⟩
  case rest =>
    obtain ⟨rfl, rfl⟩ := hcut
    clear hP
    go_upto_region 3 with (fail)
    go_cut [4] (fun v wx => v = .bool false ∧ w0 = wx)
    case first =>
      rcases hx.out with hx1 | ⟨hx1, c, hx2, hx3⟩
      · exact absurd hpos hx1
      · go_wp2_with fail
        go_meet
        exact ⟨rfl, rfl⟩
    case rest =>
      obtain ⟨rfl, rfl⟩ := hcut
      clear hx
      go_wp2_with fail
      go_loop [6] (fun vi => ∃ k : Nat, vi = .int .i64 k ∧ k ≤ d.size) (fun vi => d.size - (intOf vi).toNat)
      case atStart => exact ⟨0, rfl, by omega⟩
      case round =>
        obtain ⟨k, rfl, hk⟩ := hrel
        by_cases hkn : k < d.size
        · have hc := hB.out k hkn
          have hkn' : (k : Int) < (d.size : Int) := by omega
          have hq : isDig (d.data.toList.getD k 0) = true := by
            have hl := hLn.out
            have e : d.data.toList.getD k 0 = d.data.toList[k]'(by omega) := by rw [List.getD, List.getElem?_eq_getElem (by omega)]; rfl
            rw [e]
            exact hall.out _ (List.getElem_mem _)
          generalize d.data.toList.getD k 0 = c at hc hq
          obtain ⟨hv, hv9⟩ := digV_dig c hq
          have hD := Hd (fun W => digit_any c.toNat W c.toNat_lt)
          clear hq hv hB hall hLn hC hemp hr
          have hv' : (digV c.toNat : Int) ≤ 9 := by omega
          clear hv9
          generalize (digV c.toNat : Int) = y at hv' hD
          go_wp2_with (go_at_call 148; refine (hD.out _).mono ?_; rintro e w' ⟨rfl, rfl⟩)
          exact ⟨⟨k + 1, rfl, by omega⟩, by simp [intOf]; omega⟩
        · have hkk : k = d.size := by omega
          subst hkk
          go_upto_region 12 with (fail)
          go_cut [56] (fun v wx => v = .bool false ∧ w0 = wx)
          case first =>
            have hemp1 := hemp.out
            obtain ⟨c, hc1, hc2⟩ := hC.out
            clear hC hemp hB hall hLn hr
            by_cases hc3 : (c == 48) = false
            · clear hc2
              go_wp2_with fail
              go_meet
              exact ⟨rfl, rfl⟩
            · have hc4 := hc2.resolve_left hc3
              have hc5 : (c == 48) = true := by simpa using hc3
              clear hc2 hc3
              go_wp2_with fail
              go_meet
              exact ⟨rfl, rfl⟩
          case rest =>
            obtain ⟨rfl, rfl⟩ := hcut
            clear hC hemp
            go_wp2_with fail
            go_loop [7, 8] (fun vn vi => ∃ (k acc : Nat) (a : Int), vn = .int .u64 a ∧ vi = .int .i64 k ∧ k ≤ d.size ∧ Hid (a = (acc : Int) ∧ acc ≤ 9223372036854775808 ∧ decN 0 d.data.toList = decN acc (d.data.toList.drop k)))
              (fun _ vi => d.size - (intOf vi).toNat)
            case atStart => exact ⟨0, 0, 0, rfl, rfl, by omega, rfl, by decide, rfl⟩
            case round =>
              obtain ⟨k, acc, a, rfl, rfl, hk, hh⟩ := hrel
              by_cases hkn : k < d.size
              · have hc := hB.out k hkn
                have hkn' : (k : Int) < (d.size : Int) := by omega
                have hl := hLn.out
                have hq : isDig (d.data.toList[k]'(by omega)) = true := hall.out _ (List.getElem_mem _)
                have hdec := hh.out.2.2
                have hget : d.data.toList.getD k 0 = d.data.toList[k]'(by omega) := by rw [List.getD, List.getElem?_eq_getElem (by omega)]; rfl
                rw [List.drop_eq_getElem_cons (by omega : k < d.data.toList.length)] at hdec
                rw [hget] at hc
                generalize d.data.toList[k]'(by omega) = c at hc hq hdec
                obtain ⟨hv, hv9⟩ := digV_dig c hq
                have hD := Hd (fun W => digit_any c.toNat W c.toNat_lt)
                have hge := decN_ge (d.data.toList.drop (k + 1)) (acc * 10 + (c.toNat - 48))
                have hdec' : decN 0 d.data.toList = decN (acc * 10 + (c.toNat - 48)) (d.data.toList.drop (k + 1)) := hdec
                rw [← hdec', ← hv] at hge
                have HN : Hid (decN 0 d.data.toList = decN (acc * 10 + digV c.toNat) (d.data.toList.drop (k + 1))) := by rw [hv]; exact hdec'
                have hv' : (digV c.toNat : Int) ≤ 9 ∧ 0 ≤ (digV c.toNat : Int) := by omega
                have hA : a = (acc : Int) := hh.out.1
                have hA2 : 0 ≤ a ∧ a ≤ 9223372036854775808 := by have := hh.out.2.1; omega
                clear hq hv hall hB hLn hl hget hdec hdec' hh hv9
                generalize hY : digV c.toNat = Y at hv' hD HN hge
                clear hY
                by_cases ho : (9223372036854775808 - (Y : Int)) / 10 < a
                · have hres := hr.out.2 (by omega)
                  obtain ⟨rfl, rfl⟩ := hres
                  clear hr hge HN hA
                  generalize (Y : Int) = y at hv' hD ho
                  go_wp2_with (go_at_call 148; refine (hD.out _).mono ?_; rintro e w' ⟨rfl, rfl⟩)
                  refine bodyPost_ret (v := .tuple #[.agg #[.bool false, .int .u64 0], .int .i64 1]) (by simp [results, Tryz.results126, go_sem, c0, c1]) rfl ⟨rfl, (hal.setCell Nr _).setCell Nr _⟩
                · have HN2 : Hid (a * 10 + (Y : Int) = ((acc * 10 + Y : Nat) : Int) ∧ acc * 10 + Y ≤ 9223372036854775808 ∧ decN 0 d.data.toList = decN (acc * 10 + Y) (d.data.toList.drop (k + 1))) := ⟨by omega, by omega, HN.out⟩
                  clear hr hge HN hA
                  have ho' : a * 10 + (Y : Int) ≤ 9223372036854775808 ∧ 0 ≤ a * 10 + (Y : Int) := by omega
                  generalize (Y : Int) = y at hv' hD ho ho' HN2
                  go_wp2_with (go_at_call 148; refine (hD.out _).mono ?_; rintro e w' ⟨rfl, rfl⟩)
                  exact ⟨⟨k + 1, acc * 10 + Y, a * 10 + y, (by first | rfl | (congr 1; omega)), (by first | rfl | (congr 1; omega)), by omega, HN2⟩, by simp [intOf]; omega⟩
              · have hkk : k = d.size := by omega
                subst hkk
                obtain ⟨ha, hacc, hdec⟩ := hh.out
                rw [List.drop_eq_nil_of_le (by have := hLn.out; omega)] at hdec
                have hdec' : decN 0 d.data.toList = acc := hdec
                have hA2 : 0 ≤ a ∧ a ≤ 9223372036854775808 := by omega
                by_cases he : a = 9223372036854775808
                · obtain ⟨rfl, rfl⟩ := hr.out.2 (by omega)
                  clear hr hdec hdec' hh hacc ha hall hB hLn hA2
                  subst he
                  go_wp2
                  refine bodyPost_ret (v := .tuple #[.agg #[.bool false, .int .u64 0], .int .i64 1]) (by simp [results, Tryz.results126, go_sem, c0, c1]) rfl ⟨rfl, (hal.setCell Nr _).setCell Nr _⟩
                · obtain ⟨hr1, rfl⟩ := hr.out.1 (by omega)
                  rw [hdec', ← ha] at hr1
                  subst hr1
                  have he' : (x == 9223372036854775808) = false := beq_eq_false_iff_ne.2 he
                  clear hr hdec hdec' hh hacc ha hall hB hLn hA2 he
                  go_wp2
                  refine bodyPost_ret (v := .tuple #[.agg #[.bool false, .int .u64 x], .int .i64 0]) (by simp [results, Tryz.results126, go_sem, c0, c1]) rfl ⟨rfl, (hal.setCell Nr _).setCell Nr _⟩
end Go.Proofs.YthehgcmhcioffaaGreatDoor
namespace Go.Proofs.YthehgcmhcioffaaGreatDoor
set_option maxHeartbeats 64000000
set_option maxRecDepth 100000
open Go.RowKit
open Go.Lib (NumEnd parseIntB)
theorem piece_list (s : ByteArray) (a b : Nat) : (s.extract a b).data.toList = (s.data.toList.drop a).take (b - a) := by
  rcases s with ⟨⟨l⟩⟩
  rw [ByteArray.extract_mk]
theorem prefix_two (s : ByteArray) : ((s.extract 0 2).toList == [48, 102]) = Lib.hasPrefix s.data.toList [48, 102] := by
  rw [ByteArray.toList_eq, piece_list, List.drop_zero]
  show (s.data.toList.take 2 == [48, 102]) = List.isPrefixOf [48, 102] s.data.toList
  rw [Bool.eq_iff_iff, beq_iff_eq, List.isPrefixOf_iff_prefix, List.prefix_iff_eq_take]
  exact eq_comm
theorem rest_one (s : ByteArray) (c : UInt8) (r : List UInt8) (h : s.data.toList = c :: r) : (s.extract 1 s.size).data.toList = r := by
  rw [piece_list, h, List.drop_succ_cons, List.drop_zero, Lib.size_eq, h]
  simp
theorem rest_two (s : ByteArray) : (s.extract 2 s.size).data.toList = s.data.toList.drop 2 := by
  rw [piece_list, Lib.size_eq]
  exact List.take_of_length_le (by simp)
theorem refParse_flt (s t : ByteArray) (b : Bool) (x e0 : Int) (w : World) (h2 : 2 ≤ (s.size : Int)) (hP : ((s.extract 0 2).toList == [48, 102]) = true) (ht : Hid (s.extract 2 s.size = t))
    (hbits : Hid (∀ W, Calls Tryz.prog 147 #[.string t] W fun e w' => e = .returned (.tuple #[.agg #[.bool b, .int .u64 x], .int .i64 e0]) ∧ Below W.heap.size W w')) :
    Calls Tryz.prog 126 #[.string s] w fun e w' => e = .returned (.tuple #[.agg #[.bool b, .int .u64 x], .int .i64 e0]) ∧ Below w.heap.size w w' := by
  go_enter Tryz.func126, Tryz.ntmps126
  go_upto_region 1 with (fail)
  have hal : Below w.heap.size w (w.alloc (.cells #[.bool false, .int .u64 0] 33)) := Br.alloc Nr _
  have c0 : (w.alloc (.cells #[.bool false, .int .u64 0] 33)).cell? ⟨w.heap.size, 0, none⟩ = some (.bool false) := by simp
  have c1 : (w.alloc (.cells #[.bool false, .int .u64 0] 33)).cell? ⟨w.heap.size, 1, none⟩ = some (.int .u64 0) := by simp
  have z0 : (w.alloc (.cells #[.bool false, .int .u64 0] 33)).frozen? ⟨w.heap.size, 0, none⟩ = false := by simp
  have z1 : (w.alloc (.cells #[.bool false, .int .u64 0] 33)).frozen? ⟨w.heap.size, 1, none⟩ = false := by simp
  have ls : w.heap.size < (w.alloc (.cells #[.bool false, .int .u64 0] 33)).heap.size := by simp
  generalize (w.alloc (.cells #[.bool false, .int .u64 0] 33)) = w0 at *
  go_wp2_with fail
  rw [ht.out]
  refine (hbits.out _).mono ?_
  rintro e w2 ⟨rfl, hb⟩
  replace c0 := cell_later hb c0
  replace c1 := cell_later hb c1
  replace z0 := (hb.frozen (p := ⟨w.heap.size, 0, none⟩) ls).trans z0
  replace z1 := (hb.frozen (p := ⟨w.heap.size, 1, none⟩) ls).trans z1
  replace hal := hal.trans (hb.mono (Nat.le_of_lt ls))
  replace ls := Nat.lt_of_lt_of_le ls hb.size
  clear hb
  go_wp2_with fail
  refine bodyPost_ret (v := .tuple #[.agg #[.bool b, .int .u64 x], .int .i64 e0]) (by simp [results, Tryz.results126, go_sem, c0, c1]) rfl ⟨rfl, (hal.setCell Nr _).setCell Nr _⟩
theorem bits_any (d : ByteArray) (hmax : d.size ≤ 100000) (w : World) (b : Bool) (x e0 : Int) (hr : (if d.data.toList.length = 16 ∧ ∀ c ∈ d.data.toList, isHex c = true then (true, ((hexN 0 d.data.toList : Nat) : Int), (0 : Int)) else (false, 0, 3)) = (b, x, e0)) :
    Calls Tryz.prog 147 #[.string d] w fun e w' => e = .returned (.tuple #[.agg #[.bool b, .int .u64 x], .int .i64 e0]) ∧ Below w.heap.size w w' := by
  have hz := Lib.size_eq d
  split at hr
  · rename_i h
    simp only [Prod.mk.injEq] at hr
    obtain ⟨rfl, rfl, rfl⟩ := hr
    exact bits_good d (by omega) h.2 w
  · rename_i h
    simp only [Prod.mk.injEq] at hr
    obtain ⟨rfl, rfl, rfl⟩ := hr
    exact bits_bad d hmax (fun h' => h ⟨by omega, h'.2⟩) w
theorem no_mag (d : List UInt8) (h : ¬ Mag d) : ((∃ c ∈ d, isDig c = false) ∨ d = []) ∨ d.head? = some 48 := by
  by_cases h1 : d = []
  · exact Or.inl (Or.inr h1)
  · by_cases h2 : d.head? = some 48
    · exact Or.inr h2
    · refine Or.inl (Or.inl ?_)
      apply Classical.byContradiction
      intro h3
      refine h ⟨h1, h2, fun c hc => ?_⟩
      cases h4 : isDig c with
      | true => rfl
      | false => exact absurd ⟨c, hc, h4⟩ h3
theorem refParse_any (s : ByteArray) (hmax : s.size ≤ 100000) (w : World) (b : Bool) (x e0 : Int) (hr : parseL s.data.toList = (b, x, e0)) :
    Calls Tryz.prog 126 #[.string s] w fun e w' => e = .returned (.tuple #[.agg #[.bool b, .int .u64 x], .int .i64 e0]) ∧ Below w.heap.size w w' := by
  have hz := Lib.size_eq s
  have hP := prefix_two s
  unfold parseL at hr
  by_cases hp : Lib.hasPrefix s.data.toList [48, 102] = true
  · rw [if_pos hp] at hr
    rw [hp] at hP
    have hl : 2 ≤ s.data.toList.length := (List.isPrefixOf_iff_prefix.1 hp).length_le
    have hd := rest_two s
    have hz2 := Lib.size_eq (s.extract 2 s.size)
    rw [hd, List.length_drop] at hz2
    refine refParse_flt s _ b x e0 w (by omega) hP (Hd rfl) (Hd fun W => bits_any _ (by omega) W b x e0 ?_)
    rw [hd]
    exact hr
  · rw [if_neg hp] at hr
    rw [Bool.eq_false_iff.2 hp] at hP
    cases hs : s.data.toList with
    | nil =>
      rw [hs] at hr hz
      rw [if_neg (by decide)] at hr
      simp only [Prod.mk.injEq] at hr
      obtain ⟨rfl, rfl, rfl⟩ := hr
      have hz0 : s.size = 0 := hz
      have hs0 : s = ⟨#[]⟩ := by
        rcases s with ⟨⟨l⟩⟩
        have hl : l = [] := hs
        rw [hl]
      exact refParse_bad_plain s (by omega) w hP (Hd (Or.inl (by omega))) (Hd (Or.inl (Or.inr hs0)))
    | cons c r =>
      have hpos : 0 < s.size := by rw [hz, hs]; simp
      have hx0 := fun W => letter_at s 0 hpos W
      have e0c : s.data.toList.getD 0 0 = c := by rw [hs]; rfl
      rw [e0c] at hx0
      by_cases hc : c = 45
      · subst hc
        have hdl := rest_one s 45 r hs
        have hz2 := Lib.size_eq (s.extract 1 s.size)
        have hzr : s.size = r.length + 1 := by rw [hz, hs]; rfl
        rw [hdl] at hz2
        have hxm : Hid (0 < (s.size : Int) ∧ ∀ W, (Instr.index 9 (.string s) (.int .i64 0)).run Tryz.prog W = .ok (.int .u8 45) W) := ⟨by omega, hx0⟩
        by_cases hm : Mag r
        · obtain ⟨m1, _, m3⟩ := mag_minus r hm
          rw [hs, if_pos m1, m3] at hr
          have hne : 0 < r.length := List.length_pos_iff.2 hm.1
          by_cases hD : decN 0 r ≤ 9223372036854775808
          · rw [if_pos hD] at hr
            simp only [Prod.mk.injEq] at hr
            obtain ⟨rfl, rfl, rfl⟩ := hr
            refine refParse_good_minus s (s.extract 1 s.size) _ _ (by omega) w hP hxm (Hd rfl) (Hd ?_) (by omega) (Hd ?_) (Hd ?_)
            · rw [hdl]; exact hm.2.2
            · rw [hdl]; exact hm.2.1
            · rw [hdl]; exact ⟨fun _ => ⟨rfl, rfl⟩, fun h => absurd h (by omega)⟩
          · rw [if_neg hD] at hr
            simp only [Prod.mk.injEq] at hr
            obtain ⟨rfl, rfl, rfl⟩ := hr
            refine refParse_good_minus s (s.extract 1 s.size) _ _ (by omega) w hP hxm (Hd rfl) (Hd ?_) (by omega) (Hd ?_) (Hd ?_)
            · rw [hdl]; exact hm.2.2
            · rw [hdl]; exact hm.2.1
            · rw [hdl]; exact ⟨fun h => absurd h hD, fun _ => ⟨rfl, rfl⟩⟩
        · have hf : ¬ intF (45 :: r) = true := fun h => by
            rcases (intF_cases _).1 h with h | ⟨d, h, hd⟩ | h
            · cases h
            · cases h; exact hm hd
            · exact (dig_not 45 (h.2.2 45 (List.mem_cons_self ..))).2.2 rfl
          rw [hs, if_neg hf] at hr
          simp only [Prod.mk.injEq] at hr
          obtain ⟨rfl, rfl, rfl⟩ := hr
          refine refParse_bad_minus s (s.extract 1 s.size) (by omega) w hP hxm (Hd rfl) (Hd ?_)
          rw [hdl]
          rcases no_mag r hm with (h | h) | h
          · exact Or.inl (Or.inl h)
          · refine Or.inl (Or.inr ?_)
            rw [h] at hdl
            revert hdl
            generalize s.extract 1 s.size = d
            intro hdl
            rcases d with ⟨⟨l⟩⟩
            have hl : l = [] := hdl
            rw [hl]
          · refine Or.inr ⟨h, ?_⟩
            rw [ByteArray.toList_eq, hs]
            rfl
      · have hxp : Hid (¬ 0 < (s.size : Int) ∨ (0 < (s.size : Int) ∧ ∃ c : Int, (∀ W, (Instr.index 9 (.string s) (.int .i64 0)).run Tryz.prog W = .ok (.int .u8 c) W) ∧ (c == 45) = false)) :=
          Or.inr ⟨by omega, (c.toNat : Int), hx0, beq_eq_false_iff_ne.2 fun e => hc (UInt8.toNat_inj.1 (by have h45 : (45 : UInt8).toNat = 45 := rfl; omega))⟩
        by_cases hm : Mag s.data.toList
        · obtain ⟨m1, _, m3⟩ := mag_plain s.data.toList hm
          rw [if_pos m1, m3] at hr
          by_cases hD : decN 0 s.data.toList < 9223372036854775808
          · rw [if_pos hD] at hr
            simp only [Prod.mk.injEq] at hr
            obtain ⟨rfl, rfl, rfl⟩ := hr
            refine refParse_good_plain s _ _ (by omega) w hP hxp (Hd hm.2.2) (by omega) (Hd (Or.inl hm.2.1)) (Hd ⟨fun _ => ⟨?_, rfl⟩, fun h => absurd h (by omega)⟩)
            rw [U_eq]
            omega
          · rw [if_neg hD] at hr
            simp only [Prod.mk.injEq] at hr
            obtain ⟨rfl, rfl, rfl⟩ := hr
            exact refParse_good_plain s _ _ (by omega) w hP hxp (Hd hm.2.2) (by omega) (Hd (Or.inl hm.2.1)) (Hd ⟨fun h => absurd h hD, fun _ => ⟨rfl, rfl⟩⟩)
        · by_cases h0 : s.data.toList = [48]
          · rw [h0, if_pos (by decide), pi_zero] at hr
            simp only [Prod.mk.injEq] at hr
            obtain ⟨rfl, rfl, rfl⟩ := hr
            refine refParse_good_plain s _ _ (by omega) w hP hxp (Hd ?_) (by omega) (Hd (Or.inr ?_)) (Hd ?_)
            · rw [h0]; decide
            · rw [ByteArray.toList_eq, h0]; rfl
            · rw [h0]; exact ⟨fun _ => ⟨rfl, rfl⟩, fun h => absurd h (by decide)⟩
          · have hf : ¬ intF s.data.toList = true := fun h => by
              rcases (intF_cases _).1 h with h | ⟨d, h, _⟩ | h
              · exact h0 h
              · rw [hs] at h; cases h; exact hc rfl
              · exact hm h
            rw [if_neg hf] at hr
            simp only [Prod.mk.injEq] at hr
            obtain ⟨rfl, rfl, rfl⟩ := hr
            refine refParse_bad_plain s (by omega) w hP hxp (Hd ?_)
            rcases no_mag s.data.toList hm with (h | h) | h
            · exact Or.inl (Or.inl h)
            · rw [hs] at h; cases h
            · refine Or.inr ⟨h, ?_⟩
              rw [ByteArray.toList_eq]
              exact beq_eq_false_iff_ne.2 h0
end Go.Proofs.YthehgcmhcioffaaGreatDoor
namespace Go.Proofs.YthehgcmhcioffaaGreatDoor
set_option maxHeartbeats 64000000
set_option maxRecDepth 100000
open Go.RowKit Go.Lib
structure Bxl (W : World) (p : Nat) (kd : Int) (bt : ByteArray) (ff : Bool) (xx ln : Int) : Prop where
  c0 : W.cell? ⟨p, 0, none⟩ = some (.int .i64 kd)
  c1 : W.cell? ⟨p, 1, none⟩ = some (.string bt)
  c2 : W.cell? ⟨p, 2, none⟩ = some (.bool ff)
  c3 : W.cell? ⟨p, 3, none⟩ = some (.int .u64 xx)
  c4 : W.cell? ⟨p, 4, none⟩ = some (.int .i64 ln)
  z : ∀ j, W.frozen? ⟨p, j, none⟩ = false
theorem Bxl.later {W W' : World} {b : Nat} {kd : Int} {bt : ByteArray} {ff : Bool} {xx ln : Int} (h : Bxl W b kd bt ff xx ln) (hb : Below W.heap.size W W') : Bxl W' b kd bt ff xx ln := by
  have lt := Bl h.c0
  exact ⟨later' hb h.c0, later' hb h.c1, later' hb h.c2, later' hb h.c3, later' hb h.c4, fun j => (World.frozen?_of_block (w := W) (hb.block _ (by simpa using lt))).trans (h.z j)⟩
theorem bxl_new (W : World) (kd : Int) (bt : ByteArray) (ff : Bool) (xx ln : Int) : Bxl (W.alloc (.cells #[.int .i64 kd, .string bt, .bool ff, .int .u64 xx, .int .i64 ln] 93)) W.heap.size kd bt ff xx ln := ⟨by simp [go_sem], by simp [go_sem], by simp [go_sem], by simp [go_sem], by simp [go_sem], fun j => by simp⟩
theorem at_other (W : World) (b i j : Nat) (v : Value) (h : i ≠ j) : (W.setCell ⟨b, i, none⟩ v).cell? ⟨b, j, none⟩ = W.cell? ⟨b, j, none⟩ := World.cell?_setCell_other _ _ _ _ (by first | (intro e; cases e; exact h rfl) | simp [h])
theorem at_far_l7 (W : World) (b c i j : Nat) (v : Value) (h : b ≠ c) : (W.setCell ⟨b, i, none⟩ v).cell? ⟨c, j, none⟩ = W.cell? ⟨c, j, none⟩ := World.cell?_setCell_other _ _ _ _ (by first | (intro e; cases e; exact h rfl) | simp [h])
theorem at_same {W : World} {b i : Nat} {u : Value} (v : Value) (h : W.cell? ⟨b, i, none⟩ = some u) : (W.setCell ⟨b, i, none⟩ v).cell? ⟨b, i, none⟩ = some v := World.cell?_setCell_same _ _ _ h
theorem Bxl.set0 {W : World} {p : Nat} {kd : Int} {bt : ByteArray} {ff : Bool} {xx ln : Int} (h : Bxl W p kd bt ff xx ln) (v : Int) : Bxl (W.setCell ⟨p, 0, none⟩ (.int .i64 v)) p v bt ff xx ln :=
  ⟨at_same _ h.c0, (at_other _ _ _ _ _ (by decide)).trans h.c1, (at_other _ _ _ _ _ (by decide)).trans h.c2, (at_other _ _ _ _ _ (by decide)).trans h.c3, (at_other _ _ _ _ _ (by decide)).trans h.c4, fun j => by simp [h.z j]⟩
theorem Bxl.set1 {W : World} {p : Nat} {kd : Int} {bt : ByteArray} {ff : Bool} {xx ln : Int} (h : Bxl W p kd bt ff xx ln) (v : ByteArray) : Bxl (W.setCell ⟨p, 1, none⟩ (.string v)) p kd v ff xx ln :=
  ⟨(at_other _ _ _ _ _ (by decide)).trans h.c0, at_same _ h.c1, (at_other _ _ _ _ _ (by decide)).trans h.c2, (at_other _ _ _ _ _ (by decide)).trans h.c3, (at_other _ _ _ _ _ (by decide)).trans h.c4, fun j => by simp [h.z j]⟩
theorem Bxl.set2 {W : World} {p : Nat} {kd : Int} {bt : ByteArray} {ff : Bool} {xx ln : Int} (h : Bxl W p kd bt ff xx ln) (v : Bool) : Bxl (W.setCell ⟨p, 2, none⟩ (.bool v)) p kd bt v xx ln :=
  ⟨(at_other _ _ _ _ _ (by decide)).trans h.c0, (at_other _ _ _ _ _ (by decide)).trans h.c1, at_same _ h.c2, (at_other _ _ _ _ _ (by decide)).trans h.c3, (at_other _ _ _ _ _ (by decide)).trans h.c4, fun j => by simp [h.z j]⟩
theorem Bxl.set3 {W : World} {p : Nat} {kd : Int} {bt : ByteArray} {ff : Bool} {xx ln : Int} (h : Bxl W p kd bt ff xx ln) (v : Int) : Bxl (W.setCell ⟨p, 3, none⟩ (.int .u64 v)) p kd bt ff v ln :=
  ⟨(at_other _ _ _ _ _ (by decide)).trans h.c0, (at_other _ _ _ _ _ (by decide)).trans h.c1, (at_other _ _ _ _ _ (by decide)).trans h.c2, at_same _ h.c3, (at_other _ _ _ _ _ (by decide)).trans h.c4, fun j => by simp [h.z j]⟩
theorem Bxl.far {W : World} {p q i : Nat} {kd : Int} {bt : ByteArray} {ff : Bool} {xx ln : Int} (h : Bxl W p kd bt ff xx ln) (hn : q ≠ p) (v : Value) : Bxl (W.setCell ⟨q, i, none⟩ v) p kd bt ff xx ln :=
  ⟨(at_far_l7 _ _ _ _ _ _ hn).trans h.c0, (at_far_l7 _ _ _ _ _ _ hn).trans h.c1, (at_far_l7 _ _ _ _ _ _ hn).trans h.c2, (at_far_l7 _ _ _ _ _ _ hn).trans h.c3, (at_far_l7 _ _ _ _ _ _ hn).trans h.c4, fun j => by simp [h.z j]⟩
theorem no_trim2 {c : UInt8} {r : List UInt8} (h : c ≠ 35) : trimPrefix (c :: r) [35] = c :: r := by
  unfold trimPrefix
  rw [if_neg]
  rw [has35_iff]
  exact h
theorem number7_any (s : ByteArray) (hs : s.size ≤ 100000) (h1 : 1 ≤ s.size) (ln : Int) (w : World) (f : Bool) (x er : Int) (hp : parseL (trimPrefix s.data.toList [35]) = (f, x, er)) :
    Calls Tryz.prog 94 #[.agg #[.int .i64 0, .string s, .bool false, .int .u64 0, .int .i64 ln]] w fun e w' => e = .returned (.tuple #[.agg #[.int .i64 3, .string s, .bool f, .int .u64 x, .int .i64 ln], .int .i64 er]) ∧ Below w.heap.size w w' := by
  have hx := (Below.refl w.heap.size w).alloc Nr (.cells #[.int .i64 0, .string s, .bool false, .int .u64 0, .int .i64 ln] 93)
  have hx2 := hx.alloc (by simp) (.cells #[.int .i64 0, .string ⟨#[]⟩, .bool false, .int .u64 0, .int .i64 0] 93)
  have ta := (bxl_new w 0 s false 0 ln).later (Br.alloc Nr (.cells #[.int .i64 0, .string ⟨#[]⟩, .bool false, .int .u64 0, .int .i64 0] 93))
  have tb := bxl_new (w.alloc (.cells #[.int .i64 0, .string s, .bool false, .int .u64 0, .int .i64 ln] 93)) 0 ⟨#[]⟩ false 0 0
  rw [World.size_alloc] at tb
  have HP := Hd (Ai hp (Ai hx2 (Ai ta tb)))
  clear hp hx hx2 ta tb
  go_enter Tryz.func94, Tryz.ntmps94
  go_upto_region 1 with fail
  generalize ((w.alloc (.cells #[.int .i64 0, .string s, .bool false, .int .u64 0, .int .i64 ln] 93)).alloc (.cells #[.int .i64 0, .string ⟨#[]⟩, .bool false, .int .u64 0, .int .i64 0] 93)) = W at *
  obtain ⟨hp, hW, ta, tb⟩ := HP.out
  have HT := Hd (Ai hW (Ai ta tb))
  obtain ⟨c, hd, hsc⟩ := drop_cons_of (s := s) (k := 0) (by omega)
  rw [List.drop_zero] at hd
  have hz : (0 : Int) < (s.size : Int) := by omega
  obtain ⟨x0, x1, x2, x3, x4, xz⟩ := ta
  -- what is parsed
  obtain ⟨S, hS, hSz, hway⟩ : ∃ S : ByteArray, S.data.toList = trimPrefix s.data.toList [35] ∧ S.size ≤ 100000 ∧ ((((c.toNat : Int) == 35) = true ∧ s.extract 1 s.size = S) ∨ (((c.toNat : Int) == 35) = false ∧ s = S)) := by
    by_cases g : c.toNat = 35
    · have gc : c = 35 := UInt8.toNat_inj.1 (by rw [g]; rfl)
      refine ⟨s.extract 1 s.size, ?_, ?_, Or.inl ⟨by simp [g], rfl⟩⟩
      · rw [tail_list, hd, gc]
        simp [trimPrefix, hasPrefix]
      · rw [size_eq, tail_list, List.length_drop, ← size_eq]; omega
    · refine ⟨s, ?_, hs, Or.inr ⟨by simp; omega, rfl⟩⟩
      rw [hd, no_trim2 (fun e => g (by rw [e]; rfl))]
  rw [← hS] at hp
  have HPA := Hd (fun W => refParse_any S hSz W f x er hp)
  have HB0 := Hd (Ai xz tb)
  clear hp hd xz tb hS HP hSz hW
  rcases hway with ⟨hw, hw2⟩ | ⟨hw, rfl⟩
  all_goals
    go_wp2_with fail
    refine (HPA.out _).mono ?_
    rintro e w2 ⟨rfl, hb⟩
    have H2 := Hd (Ai (onB' HT.out.1 hb) (Ai (HT.out.2.1.later hb) (HT.out.2.2.later hb)))
    clear hb x0 x1 x2 x3 x4
    go_upto_region 5 with fail
    have hn := (Below.refl w2.heap.size w2).alloc Nr (.cells #[.bool f, .int .u64 x] 33)
    have n0 : (w2.alloc (.cells #[.bool f, .int .u64 x] 33)).cell? ⟨w2.heap.size, 0, none⟩ = some (.bool f) := by simp [go_sem]
    have n1 : (w2.alloc (.cells #[.bool f, .int .u64 x] 33)).cell? ⟨w2.heap.size, 1, none⟩ = some (.int .u64 x) := by simp [go_sem]
    have H3 := Hd (Ai (onB' H2.out.1 hn) (Ai (H2.out.2.1.later hn) (H2.out.2.2.later hn)))
    have hlt := Bl H2.out.2.2.c0
    have hne : w.heap.size ≠ w2.heap.size := by simp only at hlt; omega
    generalize (w2.alloc (.cells #[.bool f, .int .u64 x] 33)) = W3 at *
    generalize w2.heap.size = nb at *
    obtain ⟨x0, x1, x2, x3, x4, xz⟩ := H3.out.2.1
    have z0 := xz 0
    have z2 := xz 2
    have z3 := xz 3
    clear xz hn hlt
    go_upto_region 7 with fail
    have hpq : w.heap.size ≠ w.heap.size + 1 := by omega
    have tp := ((H3.out.2.1.set0 3).set2 f).set3 x
    have tq := ((H3.out.2.2.far (i := 0) hpq (.int .i64 3)).far (i := 2) hpq (.bool f)).far (i := 3) hpq (.int .u64 x)
    have hbw := ((H3.out.1.setCell (p := ⟨w.heap.size, 0, none⟩) Nr (.int .i64 3)).setCell (p := ⟨w.heap.size, 2, none⟩) Nr (.bool f)).setCell (p := ⟨w.heap.size, 3, none⟩) Nr (.int .u64 x)
    clear x0 x1 x2 x3 x4 z0 z2 z3 n0 n1
    generalize (((W3.setCell ⟨w.heap.size, 0, none⟩ (.int .i64 3)).setCell ⟨w.heap.size, 2, none⟩ (.bool f)).setCell ⟨w.heap.size, 3, none⟩ (.int .u64 x)) = W6 at *
    obtain ⟨x0, x1, x2, x3, x4, -⟩ := tp
    obtain ⟨d0, d1, d2, d3, d4, z⟩ := tq
    have HBW := Hd hbw
    clear hbw
    go_wp2_with fail
    obtain ⟨q0, q1, q2, q3, q4⟩ := set5 d0 d1 d2 d3 d4 (.int .i64 3) (.string s) (.bool f) (.int .u64 x) (.int .i64 ln)
    refine bodyPost_ret (v := .tuple #[.agg #[.int .i64 3, .string s, .bool f, .int .u64 x, .int .i64 ln], .int .i64 er]) (by simp [results, Tryz.results94, go_sem, q0, q1, q2, q3, q4]) rfl ?_
    exact ⟨rfl, below_set5 HBW.out (by omega) _ _ _ _ _⟩
end Go.Proofs.YthehgcmhcioffaaGreatDoor
