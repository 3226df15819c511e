/- ExtentRises: for all arguments that can be read the statement's function returns true; each argument reads behind the call as before. -/
import Derived.Test.YtpnojoldcfghfaaRows
import Derived.Test.YtpnojoldcfghfaaExO
import Derived.IntWalk
namespace Go.Proofs.Ytpnojoldcfghfaa.extentRises
open Go.ChangeShapes Go.WideShapes Go.ChangeAt Go.RowKit Go.Sort

theorem laidOut : laidOutB Try.prog = true := by kernel_rfl
theorem own : ownKnob Try.prog.godebug = none := by kernel_rfl

/-- What two neighbours keep. -/
theorem good_next {lo hi : Int} {L : List (Int × Int)} (h : Good lo hi L) {i : Nat} {x y : Int × Int} (hx : L[i]? = some x) (hy : L[i + 1]? = some y) : x.1 + x.2 < y.1 := by
  induction L generalizing lo i with
  | nil => simp at hx
  | cons z r ih =>
    obtain ⟨a, b, c, d⟩ := h
    cases i with
    | zero =>
      simp only [List.getElem?_cons_zero, Option.some.injEq] at hx
      subst hx
      simp only [List.getElem?_cons_succ] at hy
      have hm : y ∈ r := List.mem_of_getElem? hy
      have := good_mem d hm
      omega
    | succ i =>
      simp only [List.getElem?_cons_succ] at hx hy
      exact ih d hx hy

set_option maxHeartbeats 8000000 in
set_option maxRecDepth 100000 in
theorem walk_narrow (F N : Int) (a0 : Option Addr) (len cap : Nat) (w : World) (hacts : Acts w a0 len) (f0 : 0 ≤ F) (f1 : F ≤ 65536) (n0 : 0 ≤ N) (n1 : N ≤ 300) (hl : len ≤ 60) :
    Calls Try.prog 5 #[.int .i64 F, .int .i64 N, .slice a0 len cap] w fun e w' => e = .returned (.bool true) ∧ Below w.heap.size w w' := by
  have HACT := Lib.hid hacts
  clear hacts
  go_enter Try.func5, Try.ntmps5
  go_wp2_with fail
  refine (awake_any _).mono ?_
  rintro e w1 ⟨rfl, hB⟩
  have s1 := hB.size
  have HB := Lib.hid hB
  clear hB
  go_wp2_with fail
  refine (room_new F N w1 ⟨f0, f1⟩ ⟨n0, by omega⟩).mono ?_
  rintro e w2 ⟨p, g, rfl, hR, hb, lp, lg⟩
  have HM : Hid (Mid w p g F N (whole F N) w2) := ⟨hR, onB HB.out hb, by omega, by omega⟩
  clear hR hb
  go_wp2_with fail
  go_loopw [9, 10, 11, 12] (fun s _ _ _ wr => ∃ (k g : Nat) (L : List (Int × Int)), k ≤ len ∧ s = .int .i64 k ∧ Mid w p g F N L wr) (fun s _ _ _ _ => len - (intOf s).toNat)
  case atStart => exact ⟨0, g, _, Nat.zero_le _, rfl, HM.out⟩
  case round =>
    clear HM lg
    obtain ⟨k, g, L, hk, rfl, hM⟩ := hrel
    have HM := Lib.hid hM
    clear hM
    by_cases hlt : k < len
    · obtain ⟨b, off, rfl, hbl, K, A, X, hcell⟩ := HACT.out (by omega)
      obtain ⟨c0, c1, c2, c3⟩ := hcell k hlt
      replace c0 := (HM.out.below.cell (p := ⟨b, off + k * 3, none⟩) hbl).trans c0
      replace c1 := (HM.out.below.cell (p := ⟨b, off + k * 3 + 1, none⟩) hbl).trans c1
      replace c2 := (HM.out.below.cell (p := ⟨b, off + k * 3 + 2, none⟩) hbl).trans c2
      clear hcell
      generalize K k = K at c0
      generalize A k = A at c1 c3
      generalize X k = X at c2
      go_wp2_with fail
      refine (do_any p g F N K A X L wr HM.out.room c3).mono ?_
      rintro e w4 ⟨rfl, g', M, hR, _, hq, hg⟩
      have HM2 := Lib.hid (HM.out.step hR hq hg)
      clear hR hq hg c0 c1 c2 HM
      go_wp2_with fail
      refine (room_list p g' F N M w4 HM2.out.room).mono ?_
      rintro e w5 ⟨ao, c, rfl, hL, hb⟩
      have HM5 := Lib.hid (HM2.out.later hb)
      have HL := Lib.hid hL
      clear hL hb
      have hm2 := HM2.out.room.small
      obtain ⟨m, hm⟩ : ∃ m, M.length = m := ⟨_, rfl⟩
      rw [hm] at hm2 ⊢
      have HLEN := Lib.hid hm
      clear hm HM2
      go_wp2_with fail
      go_loopw [11, 12] (fun s11 s12 wr => ∃ j : Nat, j ≤ m ∧ s12 = .int .i64 j ∧ s11 = .int .i64 (total (M.take j)) ∧ Below w5.heap.size w5 wr) (fun _ s12 _ => m - (intOf s12).toNat)
      case atStart => exact ⟨0, Nat.zero_le _, rfl, rfl, Below.refl _ _⟩
      case round =>
        obtain ⟨j, hj, rfl, rfl, hB⟩ := hrel
        by_cases hlt2 : j < m
        · have hlt3 : (j : Int) < (m : Int) := by omega
          obtain ⟨b, rfl, hbl, hcell⟩ := HL.out (by have := HLEN.out; omega)
          obtain ⟨x, hx⟩ : ∃ x, M[j]? = some x := ⟨_, List.getElem?_eq_getElem (by have := HLEN.out; omega)⟩
          obtain ⟨c0, c1⟩ := hcell j _ hx
          replace c0 := (hB.cell (p := ⟨b, j * 2, none⟩) hbl).trans c0
          replace c1 := (hB.cell (p := ⟨b, j * 2 + 1, none⟩) hbl).trans c1
          have gm := good_mem HM5.out.room.good (List.mem_of_getElem? hx)
          have t0 := total_bound HM5.out.room.good (by omega) j
          have t1 := total_bound HM5.out.room.good (by omega) (j + 1)
          rw [total_step hx] at t1
          have HTS := Lib.hid (total_step hx)
          have HB := Lib.hid hB
          clear hB
          have w1 : IntKind.i64.wrap (x.1 - F) = x.1 - F := IntWalk.i64_in _ (by omega)
          have w2 : IntKind.i64.wrap (N - x.2) = N - x.2 := IntWalk.i64_in _ (by omega)
          have b1 : decide (x.2 < 1) = false := by simp; omega
          have b2 : decide (x.1 < F) = false := by simp; omega
          have b3 : decide (N - x.2 < x.1 - F) = false := by simp; omega
          by_cases hj0 : j = 0
          · subst hj0
            clear hcell hx
            obtain ⟨xa, xk⟩ := x
            simp only at c0 c1 gm t1 w1 w2 b1 b2 b3
            generalize total (M.take 0) = T at t0 t1 HTS ⊢
            go_wp2_with fail
            go_quiet (fail)
            go_wp2_with fail
            exact ⟨⟨1, by omega, rfl, by rw [HTS.out], onB HB.out ⟨rfl, rfl, rfl, Nat.le_refl _, fun _ _ => rfl⟩⟩, by simp [intOf]; omega⟩
          · obtain ⟨i, hi⟩ : ∃ i, i + 1 = j := ⟨j - 1, by omega⟩
            obtain ⟨y, hy⟩ : ∃ y, M[i]? = some y := ⟨_, List.getElem?_eq_getElem (by have := HLEN.out; omega)⟩
            obtain ⟨d0, d1⟩ := hcell i _ hy
            replace d0 := (HB.out.cell (p := ⟨b, i * 2, none⟩) hbl).trans d0
            replace d1 := (HB.out.cell (p := ⟨b, i * 2 + 1, none⟩) hbl).trans d1
            have gn := good_next HM5.out.room.good hy (by rw [hi]; exact hx)
            have gy := good_mem HM5.out.room.good (List.mem_of_getElem? hy)
            clear hcell hx hy
            have w3 : IntKind.i64.wrap ((j : Int) - 1) = (j : Int) - 1 := IntWalk.i64_in _ (by omega)
            have w4 : IntKind.i64.wrap (y.1 + y.2) = y.1 + y.2 := IntWalk.i64_in _ (by omega)
            have i0 : (0 : Int) ≤ (j : Int) - 1 := by omega
            have i1 : (j : Int) - 1 < (m : Int) := by omega
            have i2 : ((j : Int) - 1).toNat = i := by omega
            have i3 : 0 < j := by omega
            have b4 : decide (x.1 ≤ y.1 + y.2) = false := by simp; omega
            clear hi hj0
            obtain ⟨xa, xk⟩ := x
            obtain ⟨ya, yk⟩ := y
            simp only at c0 c1 d0 d1 gm gn gy t1 w1 w2 w4 b1 b2 b3 b4
            generalize total (M.take j) = T at t0 t1 HTS ⊢
            go_wp2_with fail
            go_quiet (fail)
            go_wp2_with fail
            trace_state
            exact ⟨⟨j + 1, by omega, by go_num, by rw [HTS.out], onB HB.out ⟨rfl, rfl, rfl, Nat.le_refl _, fun _ _ => rfl⟩⟩, by simp [intOf]; omega⟩
        · obtain rfl : j = m := by omega
          rw [List.take_of_length_le (by have := HLEN.out; omega)]
          have HM6 := Lib.hid (HM5.out.later hB)
          clear hB
          go_wp2_with fail
          refine (room_free p g' F N M _ HM6.out.room).mono ?_
          rintro e w6 ⟨rfl, hb⟩
          have HM7 := Lib.hid (HM6.out.later hb)
          clear hb
          go_wp2_with fail
          go_roundw
          case rel => exact ⟨k + 1, g', M, by omega, by go_num, HM7.out⟩
          case measure => simp [intOf]; omega
    · obtain rfl : k = len := by omega
      have HE := Lib.hid HM.out.below
      go_wp2_with fail
      go_ret
      exact ⟨rfl, HE.out⟩

theorem walk (F N : Int) (a0 : Option Addr) (len cap : Nat) (w : World) (hacts : Acts w a0 len) (hlen : len ≤ 9223372036854775807) (bF : -9223372036854775808 ≤ F ∧ F ≤ 9223372036854775807) (bN : -9223372036854775808 ≤ N ∧ N ≤ 9223372036854775807) :
    Calls Try.prog 5 #[.int .i64 F, .int .i64 N, .slice a0 len cap] w fun e w' => e = .returned (.bool true) ∧ Below w.heap.size w w' := by
  by_cases g0 : F < 0
  · clear hacts
    go_enter Try.func5, Try.ntmps5
    go_wp2_with fail
    refine (awake_any _).mono ?_
    rintro e w1 ⟨rfl, hB⟩
    go_wp2_with fail
    go_ret
    exact ⟨rfl, hB⟩
  by_cases g1 : 65536 < F
  · clear hacts
    go_enter Try.func5, Try.ntmps5
    go_wp2_with fail
    refine (awake_any _).mono ?_
    rintro e w1 ⟨rfl, hB⟩
    go_wp2_with fail
    go_ret
    exact ⟨rfl, hB⟩
  by_cases g2 : N < 0
  · clear hacts
    go_enter Try.func5, Try.ntmps5
    go_wp2_with fail
    refine (awake_any _).mono ?_
    rintro e w1 ⟨rfl, hB⟩
    go_wp2_with fail
    go_ret
    exact ⟨rfl, hB⟩
  by_cases g3 : 300 < N
  · clear hacts
    go_enter Try.func5, Try.ntmps5
    go_wp2_with fail
    refine (awake_any _).mono ?_
    rintro e w1 ⟨rfl, hB⟩
    go_wp2_with fail
    go_ret
    exact ⟨rfl, hB⟩
  by_cases g4 : 60 < (len : Int)
  · clear hacts
    go_enter Try.func5, Try.ntmps5
    go_wp2_with fail
    refine (awake_any _).mono ?_
    rintro e w1 ⟨rfl, hB⟩
    go_wp2_with fail
    go_ret
    exact ⟨rfl, hB⟩
  exact walk_narrow F N a0 len cap w hacts (by omega) (by omega) (by omega) (by omega) (by omega)

set_option maxRecDepth 100000 in
theorem lifted (os : Os) (started : os.Started) (H : Type) (enc : TypeId × Value → H) :
    ReturnsInHanded {} Try.checked os 5 .any (Rows.extentRisesSpec.pre6 enc Try.prog Try.f5 Rows.extentRisesRow.domain false) (Rows.extentRisesSpec.post enc Try.prog Try.f5 false true false false) := by
  refine returnsInHanded_of_change (C := Try.checked) own started (by kernel_rfl) Try.func5
    (ChangeSpec.witness6 (enc := enc) (C := Try.checked) false ⟨#[], #[.int .i64 0, .int .i64 0, .slice none 0 0], []⟩ 8 (by kernel_rfl) (by kernel_rfl) (by kernel_rfl) (by kernel_rfl)) ?_
  intro W base args ds gs before hval0 hW hcnd _
  have hval : ∀ (j : Nat) t v, Try.f5.params[j]? = some t → args[j]? = some v → Value.okWide Try.prog W .any base t v := hval0
  have hW' := hW
  obtain ⟨p, q, hA0, hV, rfl, hfz, hnd⟩ := hW
  have hA : DataW.TrodAll enc Try.prog W 0 (fun _ => true) true Try.f5.params.toList args.toList ds p := hA0
  rw [Try.params5] at hA hval
  obtain ⟨v0, vs0, d0, ds0, p0, q0, hargs, rfl, rfl, h0, r0⟩ := trodAll_cons hA
  obtain ⟨v1, vs1, d1, ds1, p1, q1, rfl, rfl, rfl, h1, r1⟩ := trodAll_cons r0
  obtain ⟨v2, vs2, d2, ds2, p2, q2, rfl, rfl, rfl, h2, r2⟩ := trodAll_cons r1
  obtain ⟨rfl, rfl, rfl⟩ := trodAll_nil r2
  obtain rfl : args = #[v0, v1, v2] := by cases args; simp_all
  obtain ⟨rfl, rfl⟩ := trodVars_none hV
  obtain ⟨F, rfl, rfl, rfl, wF⟩ := open_int Try.underlying3 (hval 0 3 v0 rfl rfl) h0
  obtain ⟨N, rfl, rfl, rfl, wN⟩ := open_int Try.underlying3 (hval 1 3 v1 rfl rfl) h1
  have h2k := h2
  obtain ⟨a0, len, cap, rfl⟩ := okWide_slice Try.underlying22 (hval 2 22 v2 rfl rfl)
  obtain ⟨fuel, hf⟩ := h2
  clear hA0 hval0
  simp only [List.append_nil] at hW'
  obtain ⟨hacts, hlen⟩ := acts_of (by simpa [Value.cells] using hf)
  refine (walk F N a0 len cap W hacts hlen (bounds_i64 wF) (bounds_i64 wN)).mono fun e W' ⟨he, hb⟩ => ?_
  subst he
  exact ⟨_, rfl, _, _, _, [], _, [], hW', trodAll_cons_mk (shut_bool Try.underlying4 _) trodAll_mk0, trodAll_cons_mk (shut_int Try.underlying3 wF) (trodAll_cons_mk (shut_int Try.underlying3 wN) (trodAll_cons_mk (Below.trod laidOut (by kernel_rfl) (of_decide_eq_true (by kernel_rfl)) h2k hb (fun x hx => by simpa using hW'.lt x (by simp [hx]))) trodAll_mk0)), rfl, hb.frame _, fun h => by cases h⟩

theorem said : Rows.ExtentRisesSaid :=
  OpenClaim.holds_of_wide 5 Try.f5 rfl rfl rfl rfl rfl rfl rfl ⟨rfl, rfl, rfl, rfl, rfl⟩ rfl rfl rfl rfl rfl (by kernel_rfl) Try.func5 (by kernel_rfl)
    (of_decide_eq_true (by kernel_rfl)) (by unfold Func.isWrapper; first | (rw [if_pos (by decide +kernel)]; kernel_rfl) | (rw [if_neg (by decide +kernel)]; exact ⟨rfl, rfl⟩))
    (fun os started H enc _ => lifted os started H enc)
end Go.Proofs.Ytpnojoldcfghfaa.extentRises
namespace Go.Proofs.Ytpnojoldcfghfaa
theorem extentRises_said : Rows.ExtentRisesSaid := extentRises.said
end Go.Proofs.Ytpnojoldcfghfaa
