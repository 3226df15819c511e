/- What the document's Parse answers of texts that are of no int's form. -/
import Derived.Test.YtkeeglpbhjnmdaaDoorTextG
import Derived.Laws.DeepStrings4
namespace Go.Proofs.YtkeeglpbhjnmdaaDoor
open Go.RowKit

theorem digV_dig (c : UInt8) (h : isDig c = true) : digV c.toNat = c.toNat - 48 ∧ digV c.toNat ≤ 9 := by
  have h := (dig_iff c).1 h
  unfold digV
  rw [if_pos h]
  omega
theorem digV_nodig (c : UInt8) (h : ¬ isDig c = true) : 9 < digV c.toNat := by
  rw [dig_iff] at h
  unfold digV
  rw [if_neg h]
  split <;> omega

set_option maxRecDepth 100000 in
set_option maxHeartbeats 1000000 in
theorem refParse_bad_minus (s d : ByteArray) (hmax : (d.size : Int) ≤ 100000) (w : World) (hP : ((s.extract 0 2).toList == [48, 102]) = false) (hx : Hid (0 < (s.size : Int) ∧ ∀ W, (Instr.index 9 (.string s) (.int .i64 0)).run Tryd.prog W = .ok (.int .u8 45) W)) (hd : Hid (s.extract 1 s.size = d))
    (hbad : Hid (((∃ c ∈ d.data.toList, isDig c = false) ∨ d = ⟨#[]⟩) ∨ (d.data.toList.head? = some 48 ∧ (s.toList == [48]) = false))) :
    Calls Tryd.prog 44 #[.string s] w fun e w' => e = .returned (.tuple #[.agg #[.bool false, .int .u64 0], .int .i64 3]) ∧ Below w.heap.size w w' := by
  have hB := fun k hk W => letter_at d k hk W
  have hLn := Lib.size_eq d
  replace hB := Lib.hid hB
  replace hLn := Lib.hid hLn
  go_enter Tryd.func44, Tryd.ntmps44
  go_upto_region 1 with (fail)
  have hal : Below w.heap.size w (w.alloc (Obj.cells #[Value.bool false, Value.int IntKind.u64 0] 33)) := (Below.refl _ _).alloc (Nat.le_refl _) _
  have c0 : (w.alloc (Obj.cells #[Value.bool false, Value.int IntKind.u64 0] 33)).cell? ⟨w.heap.size, 0, none⟩ = some (.bool false) := by simp
  have c1 : (w.alloc (Obj.cells #[Value.bool false, Value.int IntKind.u64 0] 33)).cell? ⟨w.heap.size, 1, none⟩ = some (.int .u64 0) := by simp
  have z0 : (w.alloc (Obj.cells #[Value.bool false, Value.int IntKind.u64 0] 33)).frozen? ⟨w.heap.size, 0, none⟩ = false := by simp
  have z1 : (w.alloc (Obj.cells #[Value.bool false, Value.int IntKind.u64 0] 33)).frozen? ⟨w.heap.size, 1, none⟩ = false := by simp
  generalize (w.alloc (Obj.cells #[Value.bool false, Value.int IntKind.u64 0] 33)) = w0 at *
  go_cut [16] (fun v wx => v = .bool false ∧ w0 = wx)
  case first =>
    by_cases h2 : 2 ≤ (s.size : Int)
    · go_wp2_with fail
      go_meet
      exact ⟨rfl, rfl⟩
    · go_wp2_with fail
      go_meet
      exact ⟨rfl, rfl⟩
  case rest =>
    obtain ⟨rfl, rfl⟩ := hcut
    clear hP
    go_upto_region 3 with (fail)
    go_cut [4] (fun v wx => v = .bool true ∧ w0 = wx)
    case first =>
      have hx1 := hx.out.1
      have hx2 := hx.out.2
      go_wp2_with fail
      go_meet
      exact ⟨rfl, rfl⟩
    case rest =>
      obtain ⟨rfl, rfl⟩ := hcut
      have hx1 := hx.out.1
      clear hx
      go_wp2_with fail
      clear hx1
      rw [hd.out]
      clear hd
      go_loop [6] (fun vi => ∃ k : Nat, vi = .int .i64 k ∧ k ≤ d.size ∧ Hid (∀ j, j < k → isDig (d.data.toList.getD j 0) = true)) (fun vi => d.size - (intOf vi).toNat)
      case atStart => exact ⟨0, rfl, by omega, fun j hj => absurd hj (by omega)⟩
      case round =>
        obtain ⟨k, rfl, hk, hh⟩ := hrel
        by_cases hkn : k < d.size
        · have hc := hB.out k hkn
          have hkn' : (k : Int) < (d.size : Int) := by omega
          by_cases hq : isDig (d.data.toList.getD k 0) = true
          · have HN : Hid (∀ j, j < k + 1 → isDig (d.data.toList.getD j 0) = true) := fun j hj => by
              by_cases e : j = k
              · rw [e]; exact hq
              · exact hh.out j (by omega)
            generalize d.data.toList.getD k 0 = c at hc hq
            obtain ⟨hv, hv9⟩ := digV_dig c hq
            have hD := Lib.hid (fun W => digit_any c.toNat W c.toNat_lt)
            clear hq hv hB hh hbad hLn
            have hv' : (digV c.toNat : Int) ≤ 9 := by omega
            clear hv9
            generalize (digV c.toNat : Int) = x at hv' hD
            go_wp2_with (go_at_call 54; refine (hD.out _).mono ?_; rintro e w' ⟨rfl, rfl⟩)
            exact ⟨⟨k + 1, rfl, by omega, HN⟩, by simp [intOf]; omega⟩
          · generalize d.data.toList.getD k 0 = c at hc hq
            have hv := digV_nodig c hq
            have hD := Lib.hid (fun W => digit_any c.toNat W c.toNat_lt)
            clear hq hB hh hbad hLn
            have hv' : (9 : Int) < (digV c.toNat : Int) := by omega
            clear hv
            generalize (digV c.toNat : Int) = x at hv' hD
            go_wp2_with (go_at_call 54; refine (hD.out _).mono ?_; rintro e w' ⟨rfl, rfl⟩)
            refine bodyPost_ret (v := .tuple #[.agg #[.bool false, .int .u64 0], .int .i64 3]) (by simp [results, Tryd.results44, go_sem, c0, c1]) rfl ⟨rfl, (hal.setCell (Nat.le_refl _) _).setCell (Nat.le_refl _) _⟩
        · have hkk : k = d.size := by omega
          subst hkk
          rcases hbad.out with (⟨c, hc, hc'⟩ | h) | ⟨h1, h2⟩
          · obtain ⟨j, hj, rfl⟩ := List.mem_iff_getElem.1 hc
            have hl := hLn.out
            have := hh.out j (by omega)
            rw [List.getD, List.getElem?_eq_getElem hj, Option.getD_some, hc'] at this
            cases this
          · clear hB hh hbad hLn
            subst h
            go_wp2
            refine bodyPost_ret (v := .tuple #[.agg #[.bool false, .int .u64 0], .int .i64 3]) (by simp [results, Tryd.results44, go_sem, c0, c1]) rfl ⟨rfl, (hal.setCell (Nat.le_refl _) _).setCell (Nat.le_refl _) _⟩
          · have hl := hLn.out
            have hpos : 0 < d.size := by
              cases hq : d.data.toList with
              | nil => rw [hq] at h1; cases h1
              | cons a r => rw [hq] at hl; simp at hl; omega
            have hx0 := hB.out 0 hpos
            have e48 : d.data.toList.getD 0 0 = 48 := by rw [List.head?_eq_getElem?] at h1; rw [List.getD, h1]; rfl
            rw [e48] at hx0
            have hx0' : ∀ W, (Instr.index 9 (.string d) (.int .i64 0)).run Tryd.prog W = .ok (.int .u8 48) W := hx0
            have hemp : d.toList.isEmpty = false := by
              rw [← decide_eq_emptyBytes]
              exact decide_eq_false (fun e => by rw [e] at hpos; exact absurd hpos (by decide))
            clear hB hh hbad hLn hl h1 hpos hx0 e48
            go_wp2
            refine bodyPost_ret (v := .tuple #[.agg #[.bool false, .int .u64 0], .int .i64 3]) (by simp [results, Tryd.results44, go_sem, c0, c1]) rfl ⟨rfl, (hal.setCell (Nat.le_refl _) _).setCell (Nat.le_refl _) _⟩

set_option maxRecDepth 100000 in
set_option maxHeartbeats 1000000 in
theorem refParse_bad_plain (d : ByteArray) (hmax : (d.size : Int) ≤ 100000) (w : World) (hP : ((d.extract 0 2).toList == [48, 102]) = false) (hx : Hid (¬ 0 < (d.size : Int) ∨ (0 < (d.size : Int) ∧ ∃ c : Int, (∀ W, (Instr.index 9 (.string d) (.int .i64 0)).run Tryd.prog W = .ok (.int .u8 c) W) ∧ (c == 45) = false)))
    (hbad : Hid (((∃ c ∈ d.data.toList, isDig c = false) ∨ d = ⟨#[]⟩) ∨ (d.data.toList.head? = some 48 ∧ (d.toList == [48]) = false))) :
    Calls Tryd.prog 44 #[.string d] w fun e w' => e = .returned (.tuple #[.agg #[.bool false, .int .u64 0], .int .i64 3]) ∧ Below w.heap.size w w' := by
  have hB := fun k hk W => letter_at d k hk W
  have hLn := Lib.size_eq d
  replace hB := Lib.hid hB
  replace hLn := Lib.hid hLn
  go_enter Tryd.func44, Tryd.ntmps44
  go_upto_region 1 with (fail)
  have hal : Below w.heap.size w (w.alloc (Obj.cells #[Value.bool false, Value.int IntKind.u64 0] 33)) := (Below.refl _ _).alloc (Nat.le_refl _) _
  have c0 : (w.alloc (Obj.cells #[Value.bool false, Value.int IntKind.u64 0] 33)).cell? ⟨w.heap.size, 0, none⟩ = some (.bool false) := by simp
  have c1 : (w.alloc (Obj.cells #[Value.bool false, Value.int IntKind.u64 0] 33)).cell? ⟨w.heap.size, 1, none⟩ = some (.int .u64 0) := by simp
  have z0 : (w.alloc (Obj.cells #[Value.bool false, Value.int IntKind.u64 0] 33)).frozen? ⟨w.heap.size, 0, none⟩ = false := by simp
  have z1 : (w.alloc (Obj.cells #[Value.bool false, Value.int IntKind.u64 0] 33)).frozen? ⟨w.heap.size, 1, none⟩ = false := by simp
  generalize (w.alloc (Obj.cells #[Value.bool false, Value.int IntKind.u64 0] 33)) = w0 at *
  go_cut [16] (fun v wx => v = .bool false ∧ w0 = wx)
  case first =>
    by_cases h2 : 2 ≤ (d.size : Int)
    · go_wp2_with fail
      go_meet
      exact ⟨rfl, rfl⟩
    · go_wp2_with fail
      go_meet
      exact ⟨rfl, rfl⟩
  case rest =>
    obtain ⟨rfl, rfl⟩ := hcut
    clear hP
    go_upto_region 3 with (fail)
    go_cut [4] (fun v wx => v = .bool false ∧ w0 = wx)
    case first =>
      rcases hx.out with hx1 | ⟨hx1, c, hx2, hx3⟩
      · go_wp2_with fail
        go_meet
        exact ⟨rfl, rfl⟩
      · go_wp2_with fail
        go_meet
        exact ⟨rfl, rfl⟩
    case rest =>
      obtain ⟨rfl, rfl⟩ := hcut
      clear hx
      go_wp2_with fail
      go_loop [6] (fun vi => ∃ k : Nat, vi = .int .i64 k ∧ k ≤ d.size ∧ Hid (∀ j, j < k → isDig (d.data.toList.getD j 0) = true)) (fun vi => d.size - (intOf vi).toNat)
      case atStart => exact ⟨0, rfl, by omega, fun j hj => absurd hj (by omega)⟩
      case round =>
        obtain ⟨k, rfl, hk, hh⟩ := hrel
        by_cases hkn : k < d.size
        · have hc := hB.out k hkn
          have hkn' : (k : Int) < (d.size : Int) := by omega
          by_cases hq : isDig (d.data.toList.getD k 0) = true
          · have HN : Hid (∀ j, j < k + 1 → isDig (d.data.toList.getD j 0) = true) := fun j hj => by
              by_cases e : j = k
              · rw [e]; exact hq
              · exact hh.out j (by omega)
            generalize d.data.toList.getD k 0 = c at hc hq
            obtain ⟨hv, hv9⟩ := digV_dig c hq
            have hD := Lib.hid (fun W => digit_any c.toNat W c.toNat_lt)
            clear hq hv hB hh hbad hLn
            have hv' : (digV c.toNat : Int) ≤ 9 := by omega
            clear hv9
            generalize (digV c.toNat : Int) = x at hv' hD
            go_wp2_with (go_at_call 54; refine (hD.out _).mono ?_; rintro e w' ⟨rfl, rfl⟩)
            exact ⟨⟨k + 1, rfl, by omega, HN⟩, by simp [intOf]; omega⟩
          · generalize d.data.toList.getD k 0 = c at hc hq
            have hv := digV_nodig c hq
            have hD := Lib.hid (fun W => digit_any c.toNat W c.toNat_lt)
            clear hq hB hh hbad hLn
            have hv' : (9 : Int) < (digV c.toNat : Int) := by omega
            clear hv
            generalize (digV c.toNat : Int) = x at hv' hD
            go_wp2_with (go_at_call 54; refine (hD.out _).mono ?_; rintro e w' ⟨rfl, rfl⟩)
            refine bodyPost_ret (v := .tuple #[.agg #[.bool false, .int .u64 0], .int .i64 3]) (by simp [results, Tryd.results44, go_sem, c0, c1]) rfl ⟨rfl, (hal.setCell (Nat.le_refl _) _).setCell (Nat.le_refl _) _⟩
        · have hkk : k = d.size := by omega
          subst hkk
          rcases hbad.out with (⟨c, hc, hc'⟩ | h) | ⟨h1, h2⟩
          · obtain ⟨j, hj, rfl⟩ := List.mem_iff_getElem.1 hc
            have hl := hLn.out
            have := hh.out j (by omega)
            rw [List.getD, List.getElem?_eq_getElem hj, Option.getD_some, hc'] at this
            cases this
          · clear hB hh hbad hLn
            subst h
            go_wp2
            refine bodyPost_ret (v := .tuple #[.agg #[.bool false, .int .u64 0], .int .i64 3]) (by simp [results, Tryd.results44, go_sem, c0, c1]) rfl ⟨rfl, (hal.setCell (Nat.le_refl _) _).setCell (Nat.le_refl _) _⟩
          · have hl := hLn.out
            have hpos : 0 < d.size := by
              cases hq : d.data.toList with
              | nil => rw [hq] at h1; cases h1
              | cons a r => rw [hq] at hl; simp at hl; omega
            have hx0 := hB.out 0 hpos
            have e48 : d.data.toList.getD 0 0 = 48 := by rw [List.head?_eq_getElem?] at h1; rw [List.getD, h1]; rfl
            rw [e48] at hx0
            have hx0' : ∀ W, (Instr.index 9 (.string d) (.int .i64 0)).run Tryd.prog W = .ok (.int .u8 48) W := hx0
            have hemp : d.toList.isEmpty = false := by
              rw [← decide_eq_emptyBytes]
              exact decide_eq_false (fun e => by rw [e] at hpos; exact absurd hpos (by decide))
            clear hB hh hbad hLn hl h1 hpos hx0 e48
            go_wp2
            refine bodyPost_ret (v := .tuple #[.agg #[.bool false, .int .u64 0], .int .i64 3]) (by simp [results, Tryd.results44, go_sem, c0, c1]) rfl ⟨rfl, (hal.setCell (Nat.le_refl _) _).setCell (Nat.le_refl _) _⟩

end Go.Proofs.YtkeeglpbhjnmdaaDoor
