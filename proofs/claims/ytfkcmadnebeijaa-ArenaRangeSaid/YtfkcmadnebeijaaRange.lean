/- ArenaRange: for all arguments that can be read the statement's function returns true; each argument reads behind the call as before. -/
import Derived.Test.YtfkcmadnebeijaaRows
import Derived.ProofKit
import Derived.OpenShut
import Derived.Test.YtfkcmadnebeijaaArC
namespace Go.Proofs.Ytfkcmadnebeijaa.arenaRange
open Go.ChangeShapes Go.WideShapes Go.ChangeAt Go.RowKit

theorem laidOut : laidOutB Try.prog = true := by kernel_rfl
theorem own : ownKnob Try.prog.godebug = none := by kernel_rfl
theorem bounds_i64 {a : Int} (h : (Lit.int .i64 a).wf = true) : -9223372036854775808 ≤ a ∧ a ≤ 9223372036854775807 := by
  have hmin : IntKind.i64.min = -9223372036854775808 := rfl
  have hmax : IntKind.i64.max = 9223372036854775807 := rfl
  simp only [Lit.wf, Bool.and_eq_true, decide_eq_true_eq] at h
  omega

theorem walk_out (n : Int) (a0 : Option Addr) (len cap : Nat) (w : World) (hl : len ≤ 9223372036854775807) (hr : ¬ (1 ≤ n ∧ n ≤ 3000 ∧ len ≤ 100)) :
    Calls Try.prog 5 #[.int .i64 n, .slice a0 len cap] w fun e w' => e = .returned (.bool true) ∧ Below w.heap.size w w' := by
  by_cases g1 : n < 1
  · go_enter Try.func5, Try.ntmps5
    go_wp2_with fail
    refine (awake_any _).mono ?_
    rintro e w1 ⟨rfl, hB⟩
    go_wp2_with fail
    go_ret
    exact ⟨rfl, hB⟩
  by_cases g2 : n > 3000
  · clear hr
    go_enter Try.func5, Try.ntmps5
    go_wp2_with fail
    refine (awake_any _).mono ?_
    rintro e w1 ⟨rfl, hB⟩
    go_wp2_with fail
    go_ret
    exact ⟨rfl, hB⟩
  · have g3 : (len : Int) > 100 := by omega
    clear hr
    go_enter Try.func5, Try.ntmps5
    go_wp2_with fail
    refine (awake_any _).mono ?_
    rintro e w1 ⟨rfl, hB⟩
    go_wp2_with fail
    go_ret
    exact ⟨rfl, hB⟩

set_option maxHeartbeats 2000000 in
theorem walk_zero (n : Int) (a0 : Option Addr) (cap : Nat) (w : World) (g1 : 1 ≤ n) (g2 : n ≤ 3000) :
    Calls Try.prog 5 #[.int .i64 n, .slice a0 0 cap] w fun e w' => e = .returned (.bool true) ∧ Below w.heap.size w w' := by
  go_enter Try.func5, Try.ntmps5
  go_wp2_with fail
  refine (awake_any _).mono ?_
  rintro e w1 ⟨rfl, hB⟩
  have s1 := hB.size
  go_wp2_with fail
  refine (new_in n g1 (by omega) _).mono ?_
  rintro e w2 ⟨p, d, rfl, hA, hb, lp, ld⟩
  replace hB := stepB hB hb
  have hn : (n.toNat : Int) = n := by omega
  have hm : n.toNat ≤ 3000 := by omega
  generalize n.toNat = m at *
  subst hn
  go_wp2_with fail
  go_loop [7, 8] (fun s i => s = .int .i64 0 ∧ i = .int .i64 0) (fun _ _ => 0)
  case atStart => exact ⟨rfl, rfl⟩
  case round =>
    obtain ⟨rfl, rfl⟩ := hrel
    go_wp2_with fail
    refine (uses_any p d _ _ _ w2 hA).mono ?_
    rintro e w7 ⟨rfl, rfl⟩
    go_wp2_with fail
    refine (len_any p d _ _ _ _ hA).mono ?_
    rintro e w7 ⟨rfl, rfl⟩
    go_wp2_with fail
    go_ret
    exact ⟨rfl, hB⟩

set_option maxHeartbeats 2000000 in
theorem walk_some (n : Int) (b off len cap : Nat) (zs : Nat → Int) (w : World) (g1 : 1 ≤ n) (g2 : n ≤ 3000) (hlen : len ≤ 100) (hc : ∀ k, k < len → w.cell? ⟨b, off + k, none⟩ = some (.int .i64 (zs k))) :
    Calls Try.prog 5 #[.int .i64 n, .slice (some ⟨b, off, none⟩) len cap] w fun e w' => e = .returned (.bool true) ∧ Below w.heap.size w w' := by
  go_enter Try.func5, Try.ntmps5
  go_wp2_with fail
  refine (awake_any _).mono ?_
  rintro e w1 ⟨rfl, hB⟩
  have s1 := hB.size
  go_wp2_with fail
  refine (new_in n g1 (by omega) _).mono ?_
  rintro e w2 ⟨p, d, rfl, hA, hb, lp, ld⟩
  replace hB := stepB hB hb
  have hn : (n.toNat : Int) = n := by omega
  have hm : n.toNat ≤ 3000 := by omega
  generalize n.toNat = m at *
  subst hn
  go_wp2_with fail
  have HC : Hid (∀ k, k < len → w.cell? ⟨b, off + k, none⟩ = some (.int .i64 (zs k))) := hc
  have HA : Hid (At w2 p d m (fun _ => 0) 0) := hA
  clear hc hA hb
  go_loopw [7, 8] (fun s i wr => ∃ (k : Nat) (u : Int) (D : Nat → Int), k ≤ len ∧ 0 ≤ u ∧ u ≤ 2 * k ∧ i = .int .i64 k ∧ s = .int .i64 u ∧ At wr p d m D u ∧ Below w.heap.size w wr) (fun _ i _ => len - (intOf i).toNat)
  case atStart => exact ⟨0, 0, _, Nat.zero_le _, Int.le_refl _, Int.le_refl _, rfl, rfl, HA.out, hB⟩
  case round =>
    obtain ⟨k, u, D, hk, hu0, hu1, rfl, rfl, hA, hBr⟩ := hrel
    by_cases hlt : k < len
    · have hbl : b < w.heap.size := World.block_lt_of_cell? _ _ (HC.out k hlt)
      have hcell : wr.cell? ⟨b, off + k, none⟩ = some (.int .i64 (zs k)) := (hBr.cell (p := ⟨b, off + k, none⟩) hbl).trans (HC.out k hlt)
      generalize zs k = z at hcell
      by_cases z0 : 0 ≤ z
      · by_cases z1 : z < m
        · go_wp2_with fail
          refine (load_in p d m D u z wr hA z0 z1).mono ?_
          rintro e w3 ⟨rfl, hA3, hq⟩
          replace hcell := hq.cell hcell (by simp; omega) (by simp; omega)
          replace hBr := hBr.trans (hq.below (by omega) (by omega) hBr.size)
          clear hq hA
          go_wp2_with fail
          refine (store_in p d m _ _ z k w3 hA3 z0 z1).mono ?_
          rintro e w4 ⟨rfl, hA4, hq⟩
          replace hBr := hBr.trans (hq.below (by omega) (by omega) hBr.size)
          clear hq hA3 hcell
          go_wp2_with fail
          go_roundw
          case rel => exact ⟨k + 1, u + 2, _, by omega, by omega, by omega, by go_num, by go_num, hA4.cast (fun _ _ => rfl) (by unfold wrap64; omega), hBr⟩
          case measure => simp [intOf]; omega
        · go_wp2_with fail
          refine (load_out p d m D u z wr hA (by omega)).mono ?_
          rintro e w3 ⟨rfl, hA3, hq⟩
          replace hcell := hq.cell hcell (by simp; omega) (by simp; omega)
          replace hBr := hBr.trans (hq.below (by omega) (by omega) hBr.size)
          clear hq hA
          go_wp2_with fail
          refine (store_out p d m D u z k w3 hA3 (by omega)).mono ?_
          rintro e w4 ⟨rfl, hA4, hq⟩
          replace hBr := hBr.trans (hq.below (by omega) (by omega) hBr.size)
          clear hq hA3 hcell
          go_wp2_with fail
          go_roundw
          case rel => exact ⟨k + 1, u, _, by omega, by omega, by omega, by go_num, rfl, hA4, hBr⟩
          case measure => simp [intOf]; omega
      · go_wp2_with fail
        refine (load_out p d m D u z wr hA (by omega)).mono ?_
        rintro e w3 ⟨rfl, hA3, hq⟩
        replace hcell := hq.cell hcell (by simp; omega) (by simp; omega)
        replace hBr := hBr.trans (hq.below (by omega) (by omega) hBr.size)
        clear hq hA
        go_wp2_with fail
        refine (store_out p d m D u z k w3 hA3 (by omega)).mono ?_
        rintro e w4 ⟨rfl, hA4, hq⟩
        replace hBr := hBr.trans (hq.below (by omega) (by omega) hBr.size)
        clear hq hA3 hcell
        go_wp2_with fail
        go_roundw
        case rel => exact ⟨k + 1, u, _, by omega, by omega, by omega, by go_num, rfl, hA4, hBr⟩
        case measure => simp [intOf]; omega
    · obtain rfl : k = len := by omega
      go_wp2_with fail
      refine (uses_any p d _ _ _ _ hA).mono ?_
      rintro e w7 ⟨rfl, rfl⟩
      go_wp2_with fail
      refine (len_any p d _ _ _ _ hA).mono ?_
      rintro e w7 ⟨rfl, rfl⟩
      go_wp2_with fail
      go_ret
      exact ⟨rfl, hBr⟩


set_option maxRecDepth 100000 in
theorem lifted (os : Os) (started : os.Started) (H : Type) (enc : TypeId × Value → H) :
    ReturnsInHanded {} Try.checked os 5 .any (Rows.arenaRangeSpec.pre6 enc Try.prog Try.f5 Rows.arenaRangeRow.domain false) (Rows.arenaRangeSpec.post enc Try.prog Try.f5 false true false false) := by
  refine returnsInHanded_of_change (C := Try.checked) own started (by kernel_rfl) Try.func5
    (ChangeSpec.witness6 (enc := enc) (C := Try.checked) false ⟨#[], #[.int .i64 0, .slice none 0 0], []⟩ 8 (by kernel_rfl) (by kernel_rfl) (by kernel_rfl) (by kernel_rfl)) ?_
  intro W base args ds gs before hval0 hW hcnd _
  have hval : ∀ (j : Nat) t v, Try.f5.params[j]? = some t → args[j]? = some v → Value.okWide Try.prog W .any base t v := hval0
  have hW' := hW
  obtain ⟨p, q, hA0, hV, rfl, hfz, hnd⟩ := hW
  have hA : DataW.TrodAll enc Try.prog W 0 (fun _ => true) true Try.f5.params.toList args.toList ds p := hA0
  rw [Try.params5] at hA hval
  obtain ⟨v0, vs0, d0, ds0, p0, q0, hargs, rfl, rfl, h0, r0⟩ := trodAll_cons hA
  obtain ⟨v1, vs1, d1, ds1, p1, q1, rfl, rfl, rfl, h1, r1⟩ := trodAll_cons r0
  obtain ⟨rfl, rfl, rfl⟩ := trodAll_nil r1
  obtain rfl : args = #[v0, v1] := by cases args; simp_all
  obtain ⟨rfl, rfl⟩ := trodVars_none hV
  obtain ⟨n, rfl, rfl, rfl, wn⟩ := open_int Try.underlying3 (hval 0 3 v0 rfl rfl) h0
  have h1k := h1
  obtain ⟨a0, len, cap, rfl⟩ := okWide_slice Try.underlying48 (hval 1 48 v1 rfl rfl)
  obtain ⟨fuel, hf⟩ := h1
  clear hA0 hval0
  simp only [List.append_nil] at hW'
  have hlt : ∀ x ∈ p1, x.block < W.heap.size := fun x hx => by simpa using hW'.lt x (by simp [hx])
  have hcall : Calls Try.prog 5 #[.int .i64 n, .slice a0 len cap] W fun e W' => e = .returned (.bool true) ∧ Below W.heap.size W W' := by
    rcases open_ints Try.underlying48 Try.underlying3 (show Try.prog.cellsOf 3 = 1 by kernel_rfl) hf with ⟨hcs, _⟩ | ⟨a, len', cap', zs, hcs, _, hl, hm, hz, _, hcell, _⟩
    · simp [Value.cells] at hcs
      obtain ⟨rfl, rfl, rfl⟩ := hcs
      by_cases hr : 1 ≤ n ∧ n ≤ 3000
      · exact walk_zero n none 0 W hr.1 hr.2
      · exact walk_out n none 0 0 W (by decide) (by omega)
    · simp [Value.cells] at hcs
      obtain ⟨rfl, rfl, rfl⟩ := hcs
      simp only [if_true] at hz
      unfold maxLen at hm
      by_cases hr : 1 ≤ n ∧ n ≤ 3000 ∧ len ≤ 100
      · by_cases hl0 : len = 0
        · subst hl0
          exact walk_zero n _ cap W hr.1 hr.2.1
        · obtain ⟨b, off, spot⟩ := a
          have hspot : spot = none := by simpa [Addr.add] using World.cell?_spot (hcell 0 (by omega))
          subst hspot
          exact walk_some n b off len cap (fun k => zs.getD k 0) W hr.1 hr.2.1 hr.2.2 (fun k hk => by rw [← add_plain]; exact hcell k (by omega))
      · exact walk_out n _ len cap W (by omega) hr
  refine hcall.mono fun e W' ⟨he, hb⟩ => ?_
  subst he
  exact ⟨_, rfl, _, _, _, [], _, [], hW', trodAll_cons_mk (shut_bool Try.underlying4 _) trodAll_mk0, trodAll_cons_mk (shut_int Try.underlying3 wn) (trodAll_cons_mk (Below.trod laidOut (by kernel_rfl) (of_decide_eq_true (by kernel_rfl)) h1k hb hlt) trodAll_mk0), rfl, hb.frame _, fun h => by cases h⟩

theorem said : Rows.ArenaRangeSaid :=
  OpenClaim.holds_of_wide 5 Try.f5 rfl rfl rfl rfl rfl rfl rfl ⟨rfl, rfl, rfl, rfl, rfl⟩ rfl rfl rfl rfl rfl (by kernel_rfl) Try.func5 (by kernel_rfl)
    (of_decide_eq_true (by kernel_rfl)) (by unfold Func.isWrapper; first | (rw [if_pos (by decide +kernel)]; kernel_rfl) | (rw [if_neg (by decide +kernel)]; exact ⟨rfl, rfl⟩))
    (fun os started H enc _ => lifted os started H enc)
end Go.Proofs.Ytfkcmadnebeijaa.arenaRange
namespace Go.Proofs.Ytfkcmadnebeijaa
theorem arenaRange_said : Rows.ArenaRangeSaid := arenaRange.said
end Go.Proofs.Ytfkcmadnebeijaa
