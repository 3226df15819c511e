/- What the document's Parse answers of any text that is no longer than the statement asks: what the program's answers. -/
import Derived.Test.YtkeeglpbhjnmdaaDoorTextI
namespace Go.Proofs.YtkeeglpbhjnmdaaDoor
open Go.RowKit
open Go.Lib (NumEnd parseIntB)

theorem piece_list (s : ByteArray) (a b : Nat) : (s.extract a b).data.toList = (s.data.toList.drop a).take (b - a) := by
  rcases s with ⟨⟨l⟩⟩
  rw [ByteArray.extract_mk]

theorem prefix_two (s : ByteArray) : ((s.extract 0 2).toList == [48, 102]) = Lib.hasPrefix s.data.toList [48, 102] := by
  rw [ByteArray.toList_eq, piece_list, List.drop_zero]
  show (s.data.toList.take 2 == [48, 102]) = List.isPrefixOf [48, 102] s.data.toList
  rw [Bool.eq_iff_iff, beq_iff_eq, List.isPrefixOf_iff_prefix, List.prefix_iff_eq_take]
  exact eq_comm

theorem rest_one (s : ByteArray) (c : UInt8) (r : List UInt8) (h : s.data.toList = c :: r) : (s.extract 1 s.size).data.toList = r := by
  rw [piece_list, h, List.drop_succ_cons, List.drop_zero, Lib.size_eq, h]
  simp

theorem rest_two (s : ByteArray) : (s.extract 2 s.size).data.toList = s.data.toList.drop 2 := by
  rw [piece_list, Lib.size_eq]
  exact List.take_of_length_le (by simp)

set_option maxRecDepth 100000 in
set_option maxHeartbeats 1000000 in
theorem refParse_flt (s t : ByteArray) (b : Bool) (x e0 : Int) (w : World) (h2 : 2 ≤ (s.size : Int)) (hP : ((s.extract 0 2).toList == [48, 102]) = true) (ht : Hid (s.extract 2 s.size = t))
    (hbits : Hid (∀ W, Calls Tryd.prog 53 #[.string t] W fun e w' => e = .returned (.tuple #[.agg #[.bool b, .int .u64 x], .int .i64 e0]) ∧ Below W.heap.size W w')) :
    Calls Tryd.prog 44 #[.string s] w fun e w' => e = .returned (.tuple #[.agg #[.bool b, .int .u64 x], .int .i64 e0]) ∧ Below w.heap.size w w' := by
  go_enter Tryd.func44, Tryd.ntmps44
  go_upto_region 1 with (fail)
  have hal : Below w.heap.size w (w.alloc (Obj.cells #[Value.bool false, Value.int IntKind.u64 0] 33)) := (Below.refl _ _).alloc (Nat.le_refl _) _
  have c0 : (w.alloc (Obj.cells #[Value.bool false, Value.int IntKind.u64 0] 33)).cell? ⟨w.heap.size, 0, none⟩ = some (.bool false) := by simp
  have c1 : (w.alloc (Obj.cells #[Value.bool false, Value.int IntKind.u64 0] 33)).cell? ⟨w.heap.size, 1, none⟩ = some (.int .u64 0) := by simp
  have z0 : (w.alloc (Obj.cells #[Value.bool false, Value.int IntKind.u64 0] 33)).frozen? ⟨w.heap.size, 0, none⟩ = false := by simp
  have z1 : (w.alloc (Obj.cells #[Value.bool false, Value.int IntKind.u64 0] 33)).frozen? ⟨w.heap.size, 1, none⟩ = false := by simp
  have ls : w.heap.size < (w.alloc (Obj.cells #[Value.bool false, Value.int IntKind.u64 0] 33)).heap.size := by simp
  generalize (w.alloc (Obj.cells #[Value.bool false, Value.int IntKind.u64 0] 33)) = w0 at *
  go_wp2_with fail
  rw [ht.out]
  refine (hbits.out _).mono ?_
  rintro e w2 ⟨rfl, hb⟩
  replace c0 := cell_later hb c0
  replace c1 := cell_later hb c1
  replace z0 := (hb.frozen (p := ⟨w.heap.size, 0, none⟩) ls).trans z0
  replace z1 := (hb.frozen (p := ⟨w.heap.size, 1, none⟩) ls).trans z1
  replace hal := hal.trans (hb.mono (Nat.le_of_lt ls))
  replace ls := Nat.lt_of_lt_of_le ls hb.size
  clear hb
  go_wp2_with fail
  refine bodyPost_ret (v := .tuple #[.agg #[.bool b, .int .u64 x], .int .i64 e0]) (by simp [results, Tryd.results44, go_sem, c0, c1]) rfl ⟨rfl, (hal.setCell (Nat.le_refl _) _).setCell (Nat.le_refl _) _⟩

theorem bits_any (d : ByteArray) (hmax : d.size ≤ 100000) (w : World) (b : Bool) (x e0 : Int) (hr : (if d.data.toList.length = 16 ∧ ∀ c ∈ d.data.toList, isHex c = true then (true, ((hexN 0 d.data.toList : Nat) : Int), (0 : Int)) else (false, 0, 3)) = (b, x, e0)) :
    Calls Tryd.prog 53 #[.string d] w fun e w' => e = .returned (.tuple #[.agg #[.bool b, .int .u64 x], .int .i64 e0]) ∧ Below w.heap.size w w' := by
  have hz := Lib.size_eq d
  split at hr
  · rename_i h
    simp only [Prod.mk.injEq] at hr
    obtain ⟨rfl, rfl, rfl⟩ := hr
    exact bits_good d (by omega) h.2 w
  · rename_i h
    simp only [Prod.mk.injEq] at hr
    obtain ⟨rfl, rfl, rfl⟩ := hr
    exact bits_bad d hmax (fun h' => h ⟨by omega, h'.2⟩) w

/-- Of no int's form: why. -/
theorem no_mag (d : List UInt8) (h : ¬ Mag d) : ((∃ c ∈ d, isDig c = false) ∨ d = []) ∨ d.head? = some 48 := by
  by_cases h1 : d = []
  · exact Or.inl (Or.inr h1)
  · by_cases h2 : d.head? = some 48
    · exact Or.inr h2
    · refine Or.inl (Or.inl ?_)
      apply Classical.byContradiction
      intro h3
      refine h ⟨h1, h2, fun c hc => ?_⟩
      cases h4 : isDig c with
      | true => rfl
      | false => exact absurd ⟨c, hc, h4⟩ h3

theorem refParse_any (s : ByteArray) (hmax : s.size ≤ 100000) (w : World) (b : Bool) (x e0 : Int) (hr : parseL s.data.toList = (b, x, e0)) :
    Calls Tryd.prog 44 #[.string s] w fun e w' => e = .returned (.tuple #[.agg #[.bool b, .int .u64 x], .int .i64 e0]) ∧ Below w.heap.size w w' := by
  have hz := Lib.size_eq s
  have hP := prefix_two s
  unfold parseL at hr
  by_cases hp : Lib.hasPrefix s.data.toList [48, 102] = true
  · rw [if_pos hp] at hr
    rw [hp] at hP
    have hl : 2 ≤ s.data.toList.length := (List.isPrefixOf_iff_prefix.1 hp).length_le
    have hd := rest_two s
    have hz2 := Lib.size_eq (s.extract 2 s.size)
    rw [hd, List.length_drop] at hz2
    refine refParse_flt s _ b x e0 w (by omega) hP (Lib.hid rfl) (Lib.hid fun W => bits_any _ (by omega) W b x e0 ?_)
    rw [hd]
    exact hr
  · rw [if_neg hp] at hr
    rw [Bool.eq_false_iff.2 hp] at hP
    cases hs : s.data.toList with
    | nil =>
      rw [hs] at hr hz
      rw [if_neg (by decide)] at hr
      simp only [Prod.mk.injEq] at hr
      obtain ⟨rfl, rfl, rfl⟩ := hr
      have hz0 : s.size = 0 := hz
      have hs0 : s = ⟨#[]⟩ := by
        rcases s with ⟨⟨l⟩⟩
        have hl : l = [] := hs
        rw [hl]
      exact refParse_bad_plain s (by omega) w hP (Lib.hid (Or.inl (by omega))) (Lib.hid (Or.inl (Or.inr hs0)))
    | cons c r =>
      have hpos : 0 < s.size := by rw [hz, hs]; simp
      have hx0 := fun W => letter_at s 0 hpos W
      have e0c : s.data.toList.getD 0 0 = c := by rw [hs]; rfl
      rw [e0c] at hx0
      by_cases hc : c = 45
      · subst hc
        have hdl := rest_one s 45 r hs
        have hz2 := Lib.size_eq (s.extract 1 s.size)
        have hzr : s.size = r.length + 1 := by rw [hz, hs]; rfl
        rw [hdl] at hz2
        have hxm : Hid (0 < (s.size : Int) ∧ ∀ W, (Instr.index 9 (.string s) (.int .i64 0)).run Tryd.prog W = .ok (.int .u8 45) W) := ⟨by omega, hx0⟩
        by_cases hm : Mag r
        · obtain ⟨m1, _, m3⟩ := mag_minus r hm
          rw [hs, if_pos m1, m3] at hr
          have hne : 0 < r.length := List.length_pos_iff.2 hm.1
          by_cases hD : decN 0 r ≤ 9223372036854775808
          · rw [if_pos hD] at hr
            simp only [Prod.mk.injEq] at hr
            obtain ⟨rfl, rfl, rfl⟩ := hr
            refine refParse_good_minus s (s.extract 1 s.size) _ _ (by omega) w hP hxm (Lib.hid rfl) (Lib.hid ?_) (by omega) (Lib.hid ?_) (Lib.hid ?_)
            · rw [hdl]; exact hm.2.2
            · rw [hdl]; exact hm.2.1
            · rw [hdl]; exact ⟨fun _ => ⟨rfl, rfl⟩, fun h => absurd h (by omega)⟩
          · rw [if_neg hD] at hr
            simp only [Prod.mk.injEq] at hr
            obtain ⟨rfl, rfl, rfl⟩ := hr
            refine refParse_good_minus s (s.extract 1 s.size) _ _ (by omega) w hP hxm (Lib.hid rfl) (Lib.hid ?_) (by omega) (Lib.hid ?_) (Lib.hid ?_)
            · rw [hdl]; exact hm.2.2
            · rw [hdl]; exact hm.2.1
            · rw [hdl]; exact ⟨fun h => absurd h hD, fun _ => ⟨rfl, rfl⟩⟩
        · have hf : ¬ intF (45 :: r) = true := fun h => by
            rcases (intF_cases _).1 h with h | ⟨d, h, hd⟩ | h
            · cases h
            · cases h; exact hm hd
            · exact (dig_not 45 (h.2.2 45 (List.mem_cons_self ..))).2.2 rfl
          rw [hs, if_neg hf] at hr
          simp only [Prod.mk.injEq] at hr
          obtain ⟨rfl, rfl, rfl⟩ := hr
          refine refParse_bad_minus s (s.extract 1 s.size) (by omega) w hP hxm (Lib.hid rfl) (Lib.hid ?_)
          rw [hdl]
          rcases no_mag r hm with (h | h) | h
          · exact Or.inl (Or.inl h)
          · refine Or.inl (Or.inr ?_)
            rw [h] at hdl
            revert hdl
            generalize s.extract 1 s.size = d
            intro hdl
            rcases d with ⟨⟨l⟩⟩
            have hl : l = [] := hdl
            rw [hl]
          · refine Or.inr ⟨h, ?_⟩
            rw [ByteArray.toList_eq, hs]
            rfl
      · have hxp : Hid (¬ 0 < (s.size : Int) ∨ (0 < (s.size : Int) ∧ ∃ c : Int, (∀ W, (Instr.index 9 (.string s) (.int .i64 0)).run Tryd.prog W = .ok (.int .u8 c) W) ∧ (c == 45) = false)) :=
          Or.inr ⟨by omega, (c.toNat : Int), hx0, beq_eq_false_iff_ne.2 fun e => hc (UInt8.toNat_inj.1 (by have h45 : (45 : UInt8).toNat = 45 := rfl; omega))⟩
        by_cases hm : Mag s.data.toList
        · obtain ⟨m1, _, m3⟩ := mag_plain s.data.toList hm
          rw [if_pos m1, m3] at hr
          by_cases hD : decN 0 s.data.toList < 9223372036854775808
          · rw [if_pos hD] at hr
            simp only [Prod.mk.injEq] at hr
            obtain ⟨rfl, rfl, rfl⟩ := hr
            refine refParse_good_plain s _ _ (by omega) w hP hxp (Lib.hid hm.2.2) (by omega) (Lib.hid (Or.inl hm.2.1)) (Lib.hid ⟨fun _ => ⟨?_, rfl⟩, fun h => absurd h (by omega)⟩)
            rw [U_eq]
            omega
          · rw [if_neg hD] at hr
            simp only [Prod.mk.injEq] at hr
            obtain ⟨rfl, rfl, rfl⟩ := hr
            exact refParse_good_plain s _ _ (by omega) w hP hxp (Lib.hid hm.2.2) (by omega) (Lib.hid (Or.inl hm.2.1)) (Lib.hid ⟨fun h => absurd h hD, fun _ => ⟨rfl, rfl⟩⟩)
        · by_cases h0 : s.data.toList = [48]
          · rw [h0, if_pos (by decide), pi_zero] at hr
            simp only [Prod.mk.injEq] at hr
            obtain ⟨rfl, rfl, rfl⟩ := hr
            refine refParse_good_plain s _ _ (by omega) w hP hxp (Lib.hid ?_) (by omega) (Lib.hid (Or.inr ?_)) (Lib.hid ?_)
            · rw [h0]; decide
            · rw [ByteArray.toList_eq, h0]; rfl
            · rw [h0]; exact ⟨fun _ => ⟨rfl, rfl⟩, fun h => absurd h (by decide)⟩
          · have hf : ¬ intF s.data.toList = true := fun h => by
              rcases (intF_cases _).1 h with h | ⟨d, h, _⟩ | h
              · exact h0 h
              · rw [hs] at h; cases h; exact hc rfl
              · exact hm h
            rw [if_neg hf] at hr
            simp only [Prod.mk.injEq] at hr
            obtain ⟨rfl, rfl, rfl⟩ := hr
            refine refParse_bad_plain s (by omega) w hP hxp (Lib.hid ?_)
            rcases no_mag s.data.toList hm with (h | h) | h
            · exact Or.inl (Or.inl h)
            · rw [hs] at h; cases h
            · refine Or.inr ⟨h, ?_⟩
              rw [ByteArray.toList_eq]
              exact beq_eq_false_iff_ne.2 h0

end Go.Proofs.YtkeeglpbhjnmdaaDoor
