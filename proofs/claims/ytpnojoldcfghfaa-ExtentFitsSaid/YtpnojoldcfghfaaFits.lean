/- ExtentFits: for all arguments that can be read the statement's function returns true; each argument reads behind the call as before. -/
import Derived.Test.YtpnojoldcfghfaaRows
import Derived.Test.YtpnojoldcfghfaaExO
namespace Go.Proofs.Ytpnojoldcfghfaa.extentFits
open Go.ChangeShapes Go.WideShapes Go.ChangeAt Go.RowKit Go.Sort

theorem laidOut : laidOutB Try.prog = true := by kernel_rfl
theorem own : ownKnob Try.prog.godebug = none := by kernel_rfl

theorem want_step {n : Int} {L : List (Int × Int)} {i : Nat} {x : Int × Int} (h : L[i]? = some x) : (spot n (L.drop i)).getD (-1) = if n ≤ x.2 then x.1 else (spot n (L.drop (i + 1))).getD (-1) := by
  have hk : i < L.length := (List.getElem?_eq_some_iff.1 h).1
  have e : L[i] = x := by rw [List.getElem?_eq_getElem hk] at h; simpa using h
  rw [List.drop_eq_getElem_cons hk, e, spot]
  split <;> rfl

set_option maxHeartbeats 8000000 in
theorem walk_narrow (F N : Int) (a0 : Option Addr) (len cap : Nat) (n : Int) (w : World) (hacts : Acts w a0 len) (f0 : 0 ≤ F) (f1 : F ≤ 65536) (n0 : 0 ≤ N) (n1 : N ≤ 300) (hl : len ≤ 60) (hn : 1 ≤ n) (hn2 : n ≤ 9223372036854775807) :
    Calls Try.prog 6 #[.int .i64 F, .int .i64 N, .slice a0 len cap, .int .i64 n] w fun e w' => e = .returned (.bool true) ∧ Below w.heap.size w w' := by
  have HACT := Lib.hid hacts
  clear hacts
  go_enter Try.func6, Try.ntmps6
  go_wp2_with fail
  refine (awake_any _).mono ?_
  rintro e w1 ⟨rfl, hB⟩
  have s1 := hB.size
  have HB := Lib.hid hB
  clear hB
  go_wp2_with fail
  refine (room_new F N w1 ⟨f0, f1⟩ ⟨n0, by omega⟩).mono ?_
  rintro e w2 ⟨p, g, rfl, hR, hb, lp, lg⟩
  have HM : Hid (Mid w p g F N (whole F N) w2) := ⟨hR, onB HB.out hb, by omega, by omega⟩
  clear hR hb
  go_wp2_with fail
  go_loopw [11] (fun s wr => ∃ (k g : Nat) (L : List (Int × Int)), k ≤ len ∧ s = .int .i64 k ∧ Mid w p g F N L wr) (fun s _ => len - (intOf s).toNat)
  case atStart => exact ⟨0, g, _, Nat.zero_le _, rfl, HM.out⟩
  case round =>
    clear HM lg
    obtain ⟨k, g, L, hk, rfl, hM⟩ := hrel
    have HM := Lib.hid hM
    clear hM
    by_cases hlt : k < len
    · obtain ⟨b, off, rfl, hbl, K, A, X, hcell⟩ := HACT.out (by omega)
      obtain ⟨c0, c1, c2, c3⟩ := hcell k hlt
      replace c0 := (HM.out.below.cell (p := ⟨b, off + k * 3, none⟩) hbl).trans c0
      replace c1 := (HM.out.below.cell (p := ⟨b, off + k * 3 + 1, none⟩) hbl).trans c1
      replace c2 := (HM.out.below.cell (p := ⟨b, off + k * 3 + 2, none⟩) hbl).trans c2
      clear hcell
      generalize K k = K at c0
      generalize A k = A at c1 c3
      generalize X k = X at c2
      go_wp2_with fail
      refine (do_any p g F N K A X L wr HM.out.room c3).mono ?_
      rintro e w4 ⟨rfl, g', M, hR, _, hq, hg⟩
      have HM2 := Lib.hid (HM.out.step hR hq hg)
      clear hR hq hg c0 c1 c2
      go_wp2_with fail
      go_roundw
      case rel => exact ⟨k + 1, g', M, by omega, by go_num, HM2.out⟩
      case measure => simp [intOf]; omega
    · obtain rfl : k = len := by omega
      go_wp2_with fail
      refine (room_list p g F N L wr HM.out.room).mono ?_
      rintro e w5 ⟨ao, c, rfl, hL, hb⟩
      have HM5 := Lib.hid (HM.out.later hb)
      have HL := Lib.hid hL
      clear hL hb
      have hm2 := HM.out.room.small
      obtain ⟨m, hm⟩ : ∃ m, L.length = m := ⟨_, rfl⟩
      rw [hm] at hm2 ⊢
      have HLEN := Lib.hid hm
      clear hm HM
      go_wp2_with fail
      go_loopw [13, 14] (fun s13 s14 wr => ∃ j : Nat, j ≤ m ∧ s14 = .int .i64 ((j : Int) - 1) ∧ s13 = .int .i64 ((spot n (L.drop j)).getD (-1)) ∧ wr = w5) (fun _ s14 _ => (intOf s14 + 1).toNat)
      case atStart => exact ⟨m, Nat.le_refl _, rfl, by rw [List.drop_of_length_le (by have := HLEN.out; omega)]; rfl, rfl⟩
      case round =>
        obtain ⟨j, hj, rfl, rfl, rfl⟩ := hrel
        cases j with
        | zero =>
          rw [List.drop_zero]
          have HW := Lib.hid (Eq.refl (spot n L))
          go_wp2_with fail
          refine (room_free p g F N L _ HM5.out.room).mono ?_
          rintro e w6 ⟨rfl, hb⟩
          have HM6 := Lib.hid (HM5.out.later hb)
          clear hb
          go_wp2_with fail
          refine (room_take p g F N n L _ HM6.out.room).mono ?_
          rintro e w7 ⟨rfl, g', M, hR, hT, hq, hg⟩
          have HM7 := Lib.hid (HM6.out.step hR hq hg)
          have HT := Lib.hid hT.2.2
          clear hR hT hq hg
          cases hs : spot n L with
          | none =>
            have e1 : tErr n L = 2 := by rw [tErr, if_neg (by omega), hs]; rfl
            have e2 : tAt n L = 0 := by rw [tAt, if_neg (by omega), hs]; rfl
            have ht : total M = total L := by have := HT.out; rw [e1] at this; simpa using this
            have HTT := Lib.hid ht
            rw [e1, e2]
            have hd : (none : Option Int).getD (-1) = -1 := rfl
            rw [hd]
            clear hs e1 e2 hd ht
            go_wp2_with fail
            refine (room_free p g' F N M _ HM7.out.room).mono ?_
            rintro e w8 ⟨rfl, hb⟩
            rw [HTT.out]
            have HE := Lib.hid (HM7.out.later hb).below
            clear hb
            go_wp2_with fail
            go_ret
            exact ⟨rfl, HE.out⟩
          | some a =>
            have e1 : tErr n L = 0 := by rw [tErr, if_neg (by omega), hs]; rfl
            have e2 : tAt n L = a := by rw [tAt, if_neg (by omega), hs]; rfl
            have ht : total M = total L - n := by have := HT.out; rw [e1] at this; simpa using this
            have ha : 0 ≤ a := by
              rcases spot_cases n L with h | ⟨A, a', k, B, hL, hA, hk⟩
              · rw [spot_none h] at hs; cases hs
              · have h1 := spot_some (B := B) (a := a') hA hk
                rw [← hL, hs] at h1
                have h2 := good_mem HM5.out.room.good (x := (a', k)) (by rw [hL]; simp)
                simp only [Option.some.injEq] at h1
                subst h1
                simp only at h2
                omega
            have HTT := Lib.hid ht
            rw [e1, e2]
            have hd : (some a).getD (-1) = a := rfl
            rw [hd]
            have t1 := HM6.out.room.sum
            have t2 := HM7.out.room.sum
            rw [ht] at t2
            clear hs e1 e2 hd ht
            generalize total L = T at t1 t2 HTT ⊢
            go_wp2_with fail
            refine (room_free p g' F N M _ HM7.out.room).mono ?_
            rintro e w8 ⟨rfl, hb⟩
            rw [HTT.out]
            have HE := Lib.hid (HM7.out.later hb).below
            clear hb
            go_wp2_with fail
            go_ret
            exact ⟨by simp, HE.out⟩
        | succ i =>
          rw [show ((i + 1 : Nat) : Int) - 1 = (i : Int) by omega]
          obtain ⟨b, rfl, hbl, hcell⟩ := HL.out (by have := HLEN.out; omega)
          obtain ⟨x, hx⟩ : ∃ x, L[i]? = some x := ⟨_, List.getElem?_eq_getElem (by have := HLEN.out; omega)⟩
          obtain ⟨c0, c1⟩ := hcell i _ hx
          have HWS := Lib.hid (want_step (n := n) hx)
          clear hx hcell
          obtain ⟨xa, xk⟩ := x
          simp only at c0 c1
          have hi' : (i : Int) < (m : Int) := by omega
          have hi0 : (0 : Int) ≤ (i : Int) := by omega
          by_cases hge : n ≤ xk
          · have hd : decide (n ≤ xk) = true := by simpa using hge
            go_wp2_with fail
            go_roundw
            case rel => exact ⟨i, by omega, rfl, by rw [HWS.out, if_pos hge], trivial⟩
            case measure => simp [intOf] <;> omega
          · have hd : decide (n ≤ xk) = false := by simpa using hge
            go_wp2_with fail
            go_roundw
            case rel => exact ⟨i, by omega, rfl, by rw [HWS.out, if_neg hge], trivial⟩
            case measure => simp [intOf] <;> omega

theorem walk (F N : Int) (a0 : Option Addr) (len cap : Nat) (n : Int) (w : World) (hacts : Acts w a0 len) (hlen : len ≤ 9223372036854775807) (bF : -9223372036854775808 ≤ F ∧ F ≤ 9223372036854775807) (bN : -9223372036854775808 ≤ N ∧ N ≤ 9223372036854775807) (bn : -9223372036854775808 ≤ n ∧ n ≤ 9223372036854775807) :
    Calls Try.prog 6 #[.int .i64 F, .int .i64 N, .slice a0 len cap, .int .i64 n] w fun e w' => e = .returned (.bool true) ∧ Below w.heap.size w w' := by
  by_cases g0 : F < 0
  · clear hacts
    go_enter Try.func6, Try.ntmps6
    go_wp2_with fail
    refine (awake_any _).mono ?_
    rintro e w1 ⟨rfl, hB⟩
    go_wp2_with fail
    go_ret
    exact ⟨rfl, hB⟩
  by_cases g1 : 65536 < F
  · clear hacts
    go_enter Try.func6, Try.ntmps6
    go_wp2_with fail
    refine (awake_any _).mono ?_
    rintro e w1 ⟨rfl, hB⟩
    go_wp2_with fail
    go_ret
    exact ⟨rfl, hB⟩
  by_cases g2 : N < 0
  · clear hacts
    go_enter Try.func6, Try.ntmps6
    go_wp2_with fail
    refine (awake_any _).mono ?_
    rintro e w1 ⟨rfl, hB⟩
    go_wp2_with fail
    go_ret
    exact ⟨rfl, hB⟩
  by_cases g3 : 300 < N
  · clear hacts
    go_enter Try.func6, Try.ntmps6
    go_wp2_with fail
    refine (awake_any _).mono ?_
    rintro e w1 ⟨rfl, hB⟩
    go_wp2_with fail
    go_ret
    exact ⟨rfl, hB⟩
  by_cases g4 : 60 < (len : Int)
  · clear hacts
    go_enter Try.func6, Try.ntmps6
    go_wp2_with fail
    refine (awake_any _).mono ?_
    rintro e w1 ⟨rfl, hB⟩
    go_wp2_with fail
    go_ret
    exact ⟨rfl, hB⟩
  by_cases g5 : n < 1
  · clear hacts
    go_enter Try.func6, Try.ntmps6
    go_wp2_with fail
    refine (awake_any _).mono ?_
    rintro e w1 ⟨rfl, hB⟩
    go_wp2_with fail
    go_ret
    exact ⟨rfl, hB⟩
  exact walk_narrow F N a0 len cap n w hacts (by omega) (by omega) (by omega) (by omega) (by omega) (by omega) bn.2

set_option maxRecDepth 100000 in
theorem lifted (os : Os) (started : os.Started) (H : Type) (enc : TypeId × Value → H) :
    ReturnsInHanded {} Try.checked os 6 .any (Rows.extentFitsSpec.pre6 enc Try.prog Try.f6 Rows.extentFitsRow.domain false) (Rows.extentFitsSpec.post enc Try.prog Try.f6 false true false false) := by
  refine returnsInHanded_of_change (C := Try.checked) own started (by kernel_rfl) Try.func6
    (ChangeSpec.witness6 (enc := enc) (C := Try.checked) false ⟨#[], #[.int .i64 0, .int .i64 0, .slice none 0 0, .int .i64 0], []⟩ 8 (by kernel_rfl) (by kernel_rfl) (by kernel_rfl) (by kernel_rfl)) ?_
  intro W base args ds gs before hval0 hW hcnd _
  have hval : ∀ (j : Nat) t v, Try.f6.params[j]? = some t → args[j]? = some v → Value.okWide Try.prog W .any base t v := hval0
  have hW' := hW
  obtain ⟨p, q, hA0, hV, rfl, hfz, hnd⟩ := hW
  have hA : DataW.TrodAll enc Try.prog W 0 (fun _ => true) true Try.f6.params.toList args.toList ds p := hA0
  rw [Try.params6] at hA hval
  obtain ⟨v0, vs0, d0, ds0, p0, q0, hargs, rfl, rfl, h0, r0⟩ := trodAll_cons hA
  obtain ⟨v1, vs1, d1, ds1, p1, q1, rfl, rfl, rfl, h1, r1⟩ := trodAll_cons r0
  obtain ⟨v2, vs2, d2, ds2, p2, q2, rfl, rfl, rfl, h2, r2⟩ := trodAll_cons r1
  obtain ⟨v3, vs3, d3, ds3, p3, q3, rfl, rfl, rfl, h3, r3⟩ := trodAll_cons r2
  obtain ⟨rfl, rfl, rfl⟩ := trodAll_nil r3
  obtain rfl : args = #[v0, v1, v2, v3] := by cases args; simp_all
  obtain ⟨rfl, rfl⟩ := trodVars_none hV
  obtain ⟨F, rfl, rfl, rfl, wF⟩ := open_int Try.underlying3 (hval 0 3 v0 rfl rfl) h0
  obtain ⟨N, rfl, rfl, rfl, wN⟩ := open_int Try.underlying3 (hval 1 3 v1 rfl rfl) h1
  have h2k := h2
  obtain ⟨a0, len, cap, rfl⟩ := okWide_slice Try.underlying22 (hval 2 22 v2 rfl rfl)
  obtain ⟨fuel, hf⟩ := h2
  obtain ⟨n, rfl, rfl, rfl, wn⟩ := open_int Try.underlying3 (hval 3 3 v3 rfl rfl) h3
  clear hA0 hval0
  simp only [List.append_nil] at hW'
  obtain ⟨hacts, hlen⟩ := acts_of (by simpa [Value.cells] using hf)
  refine (walk F N a0 len cap n W hacts hlen (bounds_i64 wF) (bounds_i64 wN) (bounds_i64 wn)).mono fun e W' ⟨he, hb⟩ => ?_
  subst he
  exact ⟨_, rfl, _, _, _, [], _, [], hW', trodAll_cons_mk (shut_bool Try.underlying4 _) trodAll_mk0, trodAll_cons_mk (shut_int Try.underlying3 wF) (trodAll_cons_mk (shut_int Try.underlying3 wN) (trodAll_cons_mk (Below.trod laidOut (by kernel_rfl) (of_decide_eq_true (by kernel_rfl)) h2k hb (fun x hx => by simpa using hW'.lt x (by simp [hx]))) (trodAll_cons_mk (shut_int Try.underlying3 wn) trodAll_mk0))), rfl, hb.frame _, fun h => by cases h⟩

theorem said : Rows.ExtentFitsSaid :=
  OpenClaim.holds_of_wide 6 Try.f6 rfl rfl rfl rfl rfl rfl rfl ⟨rfl, rfl, rfl, rfl, rfl⟩ rfl rfl rfl rfl rfl (by kernel_rfl) Try.func6 (by kernel_rfl)
    (of_decide_eq_true (by kernel_rfl)) (by unfold Func.isWrapper; first | (rw [if_pos (by decide +kernel)]; kernel_rfl) | (rw [if_neg (by decide +kernel)]; exact ⟨rfl, rfl⟩))
    (fun os started H enc _ => lifted os started H enc)
end Go.Proofs.Ytpnojoldcfghfaa.extentFits
namespace Go.Proofs.Ytpnojoldcfghfaa
theorem extentFits_said : Rows.ExtentFitsSaid := extentFits.said
end Go.Proofs.Ytpnojoldcfghfaa
