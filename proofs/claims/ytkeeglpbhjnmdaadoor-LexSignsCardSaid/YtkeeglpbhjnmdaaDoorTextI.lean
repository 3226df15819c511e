/- What the document's Parse answers of texts that are of an int's form. -/
import Derived.Test.YtkeeglpbhjnmdaaDoorTextH
namespace Go.Proofs.YtkeeglpbhjnmdaaDoor
open Go.RowKit

set_option maxRecDepth 100000 in
set_option maxHeartbeats 1000000 in
theorem refParse_good_minus (s d : ByteArray) (x e0 : Int) (hmax : (d.size : Int) ≤ 100000) (w : World) (hP : ((s.extract 0 2).toList == [48, 102]) = false) (hx : Hid (0 < (s.size : Int) ∧ ∀ W, (Instr.index 9 (.string s) (.int .i64 0)).run Tryd.prog W = .ok (.int .u8 45) W)) (hd : Hid (s.extract 1 s.size = d))
    (hall : Hid (∀ c ∈ d.data.toList, isDig c = true)) (hpos : 0 < (d.size : Int)) (hform : Hid (d.data.toList.head? ≠ some 48))
    (hr : Hid ((decN 0 d.data.toList ≤ 9223372036854775808 → x = U (-(decN 0 d.data.toList : Int)) ∧ e0 = 0) ∧ (9223372036854775808 < decN 0 d.data.toList → x = 0 ∧ e0 = 1))) :
    Calls Tryd.prog 44 #[.string s] w fun e w' => e = .returned (.tuple #[.agg #[.bool false, .int .u64 x], .int .i64 e0]) ∧ Below w.heap.size w w' := by
  have hB := fun k hk W => letter_at d k hk W
  have hLn := Lib.size_eq d
  have h0 := hB 0 (by omega)
  have hz : d.data.toList.head? = some (d.data.toList.getD 0 0) := by
    rw [List.head?_eq_getElem?, List.getD, List.getElem?_eq_getElem (by omega)]; rfl
  have hemp : d.toList.isEmpty = false := by
    rw [← decide_eq_emptyBytes]
    refine decide_eq_false (fun e => ?_)
    rw [e] at hpos
    exact absurd hpos (by decide)
  have hC : Hid (∃ c : Int, (∀ W, (Instr.index 9 (.string d) (.int .i64 0)).run Tryd.prog W = .ok (.int .u8 c) W) ∧ (c == 48) = false) := by
    refine ⟨((d.data.toList.getD 0 0).toNat : Int), h0, ?_⟩
    generalize d.data.toList.getD 0 0 = c at hz
    rcases (Or.inl hform.out : _ ∨ False) with h | h
    · refine beq_eq_false_iff_ne.2 fun e => h ?_
      rw [hz]
      congr 1
      apply UInt8.toNat_inj.1
      have h48 : (48 : UInt8).toNat = 48 := rfl
      omega
    · exact h.elim
  clear h0 hz hform
  replace hB := Lib.hid hB
  replace hLn := Lib.hid hLn
  replace hemp := Lib.hid hemp
  go_enter Tryd.func44, Tryd.ntmps44
  go_upto_region 1 with (fail)
  have hal : Below w.heap.size w (w.alloc (Obj.cells #[Value.bool false, Value.int IntKind.u64 0] 33)) := (Below.refl _ _).alloc (Nat.le_refl _) _
  have c0 : (w.alloc (Obj.cells #[Value.bool false, Value.int IntKind.u64 0] 33)).cell? ⟨w.heap.size, 0, none⟩ = some (.bool false) := by simp
  have c1 : (w.alloc (Obj.cells #[Value.bool false, Value.int IntKind.u64 0] 33)).cell? ⟨w.heap.size, 1, none⟩ = some (.int .u64 0) := by simp
  have z0 : (w.alloc (Obj.cells #[Value.bool false, Value.int IntKind.u64 0] 33)).frozen? ⟨w.heap.size, 0, none⟩ = false := by simp
  have z1 : (w.alloc (Obj.cells #[Value.bool false, Value.int IntKind.u64 0] 33)).frozen? ⟨w.heap.size, 1, none⟩ = false := by simp
  generalize (w.alloc (Obj.cells #[Value.bool false, Value.int IntKind.u64 0] 33)) = w0 at *
  go_cut [16] (fun v wx => v = .bool false ∧ w0 = wx)
  case first =>
    by_cases h2 : 2 ≤ (s.size : Int)
    · go_wp2_with fail
      go_meet
      exact ⟨rfl, rfl⟩
    · go_wp2_with fail
      go_meet
      exact ⟨rfl, rfl⟩
  case rest =>
    obtain ⟨rfl, rfl⟩ := hcut
    clear hP
    go_upto_region 3 with (fail)
    go_cut [4] (fun v wx => v = .bool true ∧ w0 = wx)
    case first =>
      have hx1 := hx.out.1
      have hx2 := hx.out.2
      go_wp2_with fail
      go_meet
      exact ⟨rfl, rfl⟩
    case rest =>
      obtain ⟨rfl, rfl⟩ := hcut
      have hx1 := hx.out.1
      clear hx
      go_wp2_with fail
      clear hx1
      rw [hd.out]
      clear hd
      go_loop [6] (fun vi => ∃ k : Nat, vi = .int .i64 k ∧ k ≤ d.size) (fun vi => d.size - (intOf vi).toNat)
      case atStart => exact ⟨0, rfl, by omega⟩
      case round =>
        obtain ⟨k, rfl, hk⟩ := hrel
        by_cases hkn : k < d.size
        · have hc := hB.out k hkn
          have hkn' : (k : Int) < (d.size : Int) := by omega
          have hq : isDig (d.data.toList.getD k 0) = true := by
            have hl := hLn.out
            have e : d.data.toList.getD k 0 = d.data.toList[k]'(by omega) := by rw [List.getD, List.getElem?_eq_getElem (by omega)]; rfl
            rw [e]
            exact hall.out _ (List.getElem_mem _)
          generalize d.data.toList.getD k 0 = c at hc hq
          obtain ⟨hv, hv9⟩ := digV_dig c hq
          have hD := Lib.hid (fun W => digit_any c.toNat W c.toNat_lt)
          clear hq hv hB hall hLn hC hemp hr
          have hv' : (digV c.toNat : Int) ≤ 9 := by omega
          clear hv9
          generalize (digV c.toNat : Int) = y at hv' hD
          go_wp2_with (go_at_call 54; refine (hD.out _).mono ?_; rintro e w' ⟨rfl, rfl⟩)
          exact ⟨⟨k + 1, rfl, by omega⟩, by simp [intOf]; omega⟩
        · have hkk : k = d.size := by omega
          subst hkk
          go_upto_region 12 with (fail)
          go_cut [56] (fun v wx => v = .bool false ∧ w0 = wx)
          case first =>
            have hemp1 := hemp.out
            obtain ⟨c, hc1, hc2⟩ := hC.out
            clear hC hemp hB hall hLn hr
            go_wp2_with fail
            go_meet
            exact ⟨rfl, rfl⟩
          case rest =>
            obtain ⟨rfl, rfl⟩ := hcut
            clear hC hemp
            go_wp2_with fail
            go_loop [7, 8] (fun vn vi => ∃ (k acc : Nat) (a : Int), vn = .int .u64 a ∧ vi = .int .i64 k ∧ k ≤ d.size ∧ Hid (a = (acc : Int) ∧ acc ≤ 9223372036854775808 ∧ decN 0 d.data.toList = decN acc (d.data.toList.drop k)))
              (fun _ vi => d.size - (intOf vi).toNat)
            case atStart => exact ⟨0, 0, 0, rfl, rfl, by omega, rfl, by decide, rfl⟩
            case round =>
              obtain ⟨k, acc, a, rfl, rfl, hk, hh⟩ := hrel
              by_cases hkn : k < d.size
              · have hc := hB.out k hkn
                have hkn' : (k : Int) < (d.size : Int) := by omega
                have hl := hLn.out
                have hq : isDig (d.data.toList[k]'(by omega)) = true := hall.out _ (List.getElem_mem _)
                have hdec := hh.out.2.2
                have hget : d.data.toList.getD k 0 = d.data.toList[k]'(by omega) := by rw [List.getD, List.getElem?_eq_getElem (by omega)]; rfl
                rw [List.drop_eq_getElem_cons (by omega : k < d.data.toList.length)] at hdec
                rw [hget] at hc
                generalize d.data.toList[k]'(by omega) = c at hc hq hdec
                obtain ⟨hv, hv9⟩ := digV_dig c hq
                have hD := Lib.hid (fun W => digit_any c.toNat W c.toNat_lt)
                have hge := decN_ge (d.data.toList.drop (k + 1)) (acc * 10 + (c.toNat - 48))
                have hdec' : decN 0 d.data.toList = decN (acc * 10 + (c.toNat - 48)) (d.data.toList.drop (k + 1)) := hdec
                rw [← hdec', ← hv] at hge
                have HN : Hid (decN 0 d.data.toList = decN (acc * 10 + digV c.toNat) (d.data.toList.drop (k + 1))) := by rw [hv]; exact hdec'
                have hv' : (digV c.toNat : Int) ≤ 9 ∧ 0 ≤ (digV c.toNat : Int) := by omega
                have hA : a = (acc : Int) := hh.out.1
                have hA2 : 0 ≤ a ∧ a ≤ 9223372036854775808 := by have := hh.out.2.1; omega
                clear hq hv hall hB hLn hl hget hdec hdec' hh hv9
                generalize hY : digV c.toNat = Y at hv' hD HN hge
                clear hY
                by_cases ho : (9223372036854775808 - (Y : Int)) / 10 < a
                · have hres := hr.out.2 (by omega)
                  obtain ⟨rfl, rfl⟩ := hres
                  clear hr hge HN hA
                  generalize (Y : Int) = y at hv' hD ho
                  go_wp2_with (go_at_call 54; refine (hD.out _).mono ?_; rintro e w' ⟨rfl, rfl⟩)
                  refine bodyPost_ret (v := .tuple #[.agg #[.bool false, .int .u64 0], .int .i64 1]) (by simp [results, Tryd.results44, go_sem, c0, c1]) rfl ⟨rfl, (hal.setCell (Nat.le_refl _) _).setCell (Nat.le_refl _) _⟩
                · have HN2 : Hid (a * 10 + (Y : Int) = ((acc * 10 + Y : Nat) : Int) ∧ acc * 10 + Y ≤ 9223372036854775808 ∧ decN 0 d.data.toList = decN (acc * 10 + Y) (d.data.toList.drop (k + 1))) := ⟨by omega, by omega, HN.out⟩
                  clear hr hge HN hA
                  have ho' : a * 10 + (Y : Int) ≤ 9223372036854775808 ∧ 0 ≤ a * 10 + (Y : Int) := by omega
                  generalize (Y : Int) = y at hv' hD ho ho' HN2
                  go_wp2_with (go_at_call 54; refine (hD.out _).mono ?_; rintro e w' ⟨rfl, rfl⟩)
                  exact ⟨⟨k + 1, acc * 10 + Y, a * 10 + y, (by first | rfl | (congr 1; omega)), (by first | rfl | (congr 1; omega)), by omega, HN2⟩, by simp [intOf]; omega⟩
              · have hkk : k = d.size := by omega
                subst hkk
                obtain ⟨ha, hacc, hdec⟩ := hh.out
                rw [List.drop_eq_nil_of_le (by have := hLn.out; omega)] at hdec
                have hdec' : decN 0 d.data.toList = acc := hdec
                have hA2 : 0 ≤ a ∧ a ≤ 9223372036854775808 := by omega
                obtain ⟨hr1, rfl⟩ := hr.out.1 (by omega)
                have hU : x = IntKind.u64.wrap (0 - a) := by rw [hr1, hdec', ha, Int.zero_sub]; rfl
                have hU' : x = IntKind.u64.wrap (-a) := by rw [hU, Int.zero_sub]
                clear hr hr1 hdec hdec' hh hacc ha hall hB hLn
                generalize hG : IntKind.u64.wrap (0 - a) = g at hU
                generalize hG' : IntKind.u64.wrap (-a) = g' at hU'
                subst hU
                subst hU'
                go_wp2
                refine bodyPost_ret (v := .tuple #[.agg #[.bool false, .int .u64 x], .int .i64 0]) (by simp [results, Tryd.results44, go_sem, c0, c1]) rfl ⟨rfl, (hal.setCell (Nat.le_refl _) _).setCell (Nat.le_refl _) _⟩

set_option maxRecDepth 100000 in
set_option maxHeartbeats 1000000 in
theorem refParse_good_plain (d : ByteArray) (x e0 : Int) (hmax : (d.size : Int) ≤ 100000) (w : World) (hP : ((d.extract 0 2).toList == [48, 102]) = false) (hx : Hid (¬ 0 < (d.size : Int) ∨ (0 < (d.size : Int) ∧ ∃ c : Int, (∀ W, (Instr.index 9 (.string d) (.int .i64 0)).run Tryd.prog W = .ok (.int .u8 c) W) ∧ (c == 45) = false)))
    (hall : Hid (∀ c ∈ d.data.toList, isDig c = true)) (hpos : 0 < (d.size : Int)) (hform : Hid (d.data.toList.head? ≠ some 48 ∨ (d.toList == [48]) = true))
    (hr : Hid ((decN 0 d.data.toList < 9223372036854775808 → x = (decN 0 d.data.toList : Int) ∧ e0 = 0) ∧ (9223372036854775808 ≤ decN 0 d.data.toList → x = 0 ∧ e0 = 1))) :
    Calls Tryd.prog 44 #[.string d] w fun e w' => e = .returned (.tuple #[.agg #[.bool false, .int .u64 x], .int .i64 e0]) ∧ Below w.heap.size w w' := by
  have hB := fun k hk W => letter_at d k hk W
  have hLn := Lib.size_eq d
  have h0 := hB 0 (by omega)
  have hz : d.data.toList.head? = some (d.data.toList.getD 0 0) := by
    rw [List.head?_eq_getElem?, List.getD, List.getElem?_eq_getElem (by omega)]; rfl
  have hemp : d.toList.isEmpty = false := by
    rw [← decide_eq_emptyBytes]
    refine decide_eq_false (fun e => ?_)
    rw [e] at hpos
    exact absurd hpos (by decide)
  have hC : Hid (∃ c : Int, (∀ W, (Instr.index 9 (.string d) (.int .i64 0)).run Tryd.prog W = .ok (.int .u8 c) W) ∧ ((c == 48) = false ∨ (d.toList == [48]) = true)) := by
    refine ⟨((d.data.toList.getD 0 0).toNat : Int), h0, ?_⟩
    generalize d.data.toList.getD 0 0 = c at hz
    rcases hform.out with h | h
    · refine Or.inl ?_
      refine beq_eq_false_iff_ne.2 fun e => h ?_
      rw [hz]
      congr 1
      apply UInt8.toNat_inj.1
      have h48 : (48 : UInt8).toNat = 48 := rfl
      omega
    · exact Or.inr h
  clear h0 hz hform
  replace hB := Lib.hid hB
  replace hLn := Lib.hid hLn
  replace hemp := Lib.hid hemp
  go_enter Tryd.func44, Tryd.ntmps44
  go_upto_region 1 with (fail)
  have hal : Below w.heap.size w (w.alloc (Obj.cells #[Value.bool false, Value.int IntKind.u64 0] 33)) := (Below.refl _ _).alloc (Nat.le_refl _) _
  have c0 : (w.alloc (Obj.cells #[Value.bool false, Value.int IntKind.u64 0] 33)).cell? ⟨w.heap.size, 0, none⟩ = some (.bool false) := by simp
  have c1 : (w.alloc (Obj.cells #[Value.bool false, Value.int IntKind.u64 0] 33)).cell? ⟨w.heap.size, 1, none⟩ = some (.int .u64 0) := by simp
  have z0 : (w.alloc (Obj.cells #[Value.bool false, Value.int IntKind.u64 0] 33)).frozen? ⟨w.heap.size, 0, none⟩ = false := by simp
  have z1 : (w.alloc (Obj.cells #[Value.bool false, Value.int IntKind.u64 0] 33)).frozen? ⟨w.heap.size, 1, none⟩ = false := by simp
  generalize (w.alloc (Obj.cells #[Value.bool false, Value.int IntKind.u64 0] 33)) = w0 at *
  go_cut [16] (fun v wx => v = .bool false ∧ w0 = wx)
  case first =>
    by_cases h2 : 2 ≤ (d.size : Int)
    · go_wp2_with fail
      go_meet
      exact ⟨rfl, rfl⟩
    · go_wp2_with fail
      go_meet
      exact ⟨rfl, rfl⟩
  case rest =>
    obtain ⟨rfl, rfl⟩ := hcut
    clear hP
    go_upto_region 3 with (fail)
    go_cut [4] (fun v wx => v = .bool false ∧ w0 = wx)
    case first =>
      rcases hx.out with hx1 | ⟨hx1, c, hx2, hx3⟩
      · exact absurd hpos hx1
      · go_wp2_with fail
        go_meet
        exact ⟨rfl, rfl⟩
    case rest =>
      obtain ⟨rfl, rfl⟩ := hcut
      clear hx
      go_wp2_with fail
      go_loop [6] (fun vi => ∃ k : Nat, vi = .int .i64 k ∧ k ≤ d.size) (fun vi => d.size - (intOf vi).toNat)
      case atStart => exact ⟨0, rfl, by omega⟩
      case round =>
        obtain ⟨k, rfl, hk⟩ := hrel
        by_cases hkn : k < d.size
        · have hc := hB.out k hkn
          have hkn' : (k : Int) < (d.size : Int) := by omega
          have hq : isDig (d.data.toList.getD k 0) = true := by
            have hl := hLn.out
            have e : d.data.toList.getD k 0 = d.data.toList[k]'(by omega) := by rw [List.getD, List.getElem?_eq_getElem (by omega)]; rfl
            rw [e]
            exact hall.out _ (List.getElem_mem _)
          generalize d.data.toList.getD k 0 = c at hc hq
          obtain ⟨hv, hv9⟩ := digV_dig c hq
          have hD := Lib.hid (fun W => digit_any c.toNat W c.toNat_lt)
          clear hq hv hB hall hLn hC hemp hr
          have hv' : (digV c.toNat : Int) ≤ 9 := by omega
          clear hv9
          generalize (digV c.toNat : Int) = y at hv' hD
          go_wp2_with (go_at_call 54; refine (hD.out _).mono ?_; rintro e w' ⟨rfl, rfl⟩)
          exact ⟨⟨k + 1, rfl, by omega⟩, by simp [intOf]; omega⟩
        · have hkk : k = d.size := by omega
          subst hkk
          go_upto_region 12 with (fail)
          go_cut [56] (fun v wx => v = .bool false ∧ w0 = wx)
          case first =>
            have hemp1 := hemp.out
            obtain ⟨c, hc1, hc2⟩ := hC.out
            clear hC hemp hB hall hLn hr
            by_cases hc3 : (c == 48) = false
            · clear hc2
              go_wp2_with fail
              go_meet
              exact ⟨rfl, rfl⟩
            · have hc4 := hc2.resolve_left hc3
              have hc5 : (c == 48) = true := by simpa using hc3
              clear hc2 hc3
              go_wp2_with fail
              go_meet
              exact ⟨rfl, rfl⟩
          case rest =>
            obtain ⟨rfl, rfl⟩ := hcut
            clear hC hemp
            go_wp2_with fail
            go_loop [7, 8] (fun vn vi => ∃ (k acc : Nat) (a : Int), vn = .int .u64 a ∧ vi = .int .i64 k ∧ k ≤ d.size ∧ Hid (a = (acc : Int) ∧ acc ≤ 9223372036854775808 ∧ decN 0 d.data.toList = decN acc (d.data.toList.drop k)))
              (fun _ vi => d.size - (intOf vi).toNat)
            case atStart => exact ⟨0, 0, 0, rfl, rfl, by omega, rfl, by decide, rfl⟩
            case round =>
              obtain ⟨k, acc, a, rfl, rfl, hk, hh⟩ := hrel
              by_cases hkn : k < d.size
              · have hc := hB.out k hkn
                have hkn' : (k : Int) < (d.size : Int) := by omega
                have hl := hLn.out
                have hq : isDig (d.data.toList[k]'(by omega)) = true := hall.out _ (List.getElem_mem _)
                have hdec := hh.out.2.2
                have hget : d.data.toList.getD k 0 = d.data.toList[k]'(by omega) := by rw [List.getD, List.getElem?_eq_getElem (by omega)]; rfl
                rw [List.drop_eq_getElem_cons (by omega : k < d.data.toList.length)] at hdec
                rw [hget] at hc
                generalize d.data.toList[k]'(by omega) = c at hc hq hdec
                obtain ⟨hv, hv9⟩ := digV_dig c hq
                have hD := Lib.hid (fun W => digit_any c.toNat W c.toNat_lt)
                have hge := decN_ge (d.data.toList.drop (k + 1)) (acc * 10 + (c.toNat - 48))
                have hdec' : decN 0 d.data.toList = decN (acc * 10 + (c.toNat - 48)) (d.data.toList.drop (k + 1)) := hdec
                rw [← hdec', ← hv] at hge
                have HN : Hid (decN 0 d.data.toList = decN (acc * 10 + digV c.toNat) (d.data.toList.drop (k + 1))) := by rw [hv]; exact hdec'
                have hv' : (digV c.toNat : Int) ≤ 9 ∧ 0 ≤ (digV c.toNat : Int) := by omega
                have hA : a = (acc : Int) := hh.out.1
                have hA2 : 0 ≤ a ∧ a ≤ 9223372036854775808 := by have := hh.out.2.1; omega
                clear hq hv hall hB hLn hl hget hdec hdec' hh hv9
                generalize hY : digV c.toNat = Y at hv' hD HN hge
                clear hY
                by_cases ho : (9223372036854775808 - (Y : Int)) / 10 < a
                · have hres := hr.out.2 (by omega)
                  obtain ⟨rfl, rfl⟩ := hres
                  clear hr hge HN hA
                  generalize (Y : Int) = y at hv' hD ho
                  go_wp2_with (go_at_call 54; refine (hD.out _).mono ?_; rintro e w' ⟨rfl, rfl⟩)
                  refine bodyPost_ret (v := .tuple #[.agg #[.bool false, .int .u64 0], .int .i64 1]) (by simp [results, Tryd.results44, go_sem, c0, c1]) rfl ⟨rfl, (hal.setCell (Nat.le_refl _) _).setCell (Nat.le_refl _) _⟩
                · have HN2 : Hid (a * 10 + (Y : Int) = ((acc * 10 + Y : Nat) : Int) ∧ acc * 10 + Y ≤ 9223372036854775808 ∧ decN 0 d.data.toList = decN (acc * 10 + Y) (d.data.toList.drop (k + 1))) := ⟨by omega, by omega, HN.out⟩
                  clear hr hge HN hA
                  have ho' : a * 10 + (Y : Int) ≤ 9223372036854775808 ∧ 0 ≤ a * 10 + (Y : Int) := by omega
                  generalize (Y : Int) = y at hv' hD ho ho' HN2
                  go_wp2_with (go_at_call 54; refine (hD.out _).mono ?_; rintro e w' ⟨rfl, rfl⟩)
                  exact ⟨⟨k + 1, acc * 10 + Y, a * 10 + y, (by first | rfl | (congr 1; omega)), (by first | rfl | (congr 1; omega)), by omega, HN2⟩, by simp [intOf]; omega⟩
              · have hkk : k = d.size := by omega
                subst hkk
                obtain ⟨ha, hacc, hdec⟩ := hh.out
                rw [List.drop_eq_nil_of_le (by have := hLn.out; omega)] at hdec
                have hdec' : decN 0 d.data.toList = acc := hdec
                have hA2 : 0 ≤ a ∧ a ≤ 9223372036854775808 := by omega
                by_cases he : a = 9223372036854775808
                · obtain ⟨rfl, rfl⟩ := hr.out.2 (by omega)
                  clear hr hdec hdec' hh hacc ha hall hB hLn hA2
                  subst he
                  go_wp2
                  refine bodyPost_ret (v := .tuple #[.agg #[.bool false, .int .u64 0], .int .i64 1]) (by simp [results, Tryd.results44, go_sem, c0, c1]) rfl ⟨rfl, (hal.setCell (Nat.le_refl _) _).setCell (Nat.le_refl _) _⟩
                · obtain ⟨hr1, rfl⟩ := hr.out.1 (by omega)
                  rw [hdec', ← ha] at hr1
                  subst hr1
                  have he' : (x == 9223372036854775808) = false := beq_eq_false_iff_ne.2 he
                  clear hr hdec hdec' hh hacc ha hall hB hLn hA2 he
                  go_wp2
                  refine bodyPost_ret (v := .tuple #[.agg #[.bool false, .int .u64 x], .int .i64 0]) (by simp [results, Tryd.results44, go_sem, c0, c1]) rfl ⟨rfl, (hal.setCell (Nat.le_refl _) _).setCell (Nat.le_refl _) _⟩

end Go.Proofs.YtkeeglpbhjnmdaaDoor
