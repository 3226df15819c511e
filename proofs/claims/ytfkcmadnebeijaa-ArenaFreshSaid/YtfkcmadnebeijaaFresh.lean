/- ArenaFresh: for all arguments that can be read the statement's function returns true; each argument reads behind the call as before. -/
import Derived.Test.YtfkcmadnebeijaaRows
import Derived.ProofKit
import Derived.OpenShut
import Derived.Test.YtfkcmadnebeijaaArC
namespace Go.Proofs.Ytfkcmadnebeijaa.arenaFresh
open Go.ChangeShapes Go.WideShapes Go.ChangeAt Go.RowKit

theorem own : ownKnob Try.prog.godebug = none := by kernel_rfl
theorem bounds_i64 {a : Int} (h : (Lit.int .i64 a).wf = true) : -9223372036854775808 ≤ a ∧ a ≤ 9223372036854775807 := by
  have hmin : IntKind.i64.min = -9223372036854775808 := rfl
  have hmax : IntKind.i64.max = 9223372036854775807 := rfl
  simp only [Lit.wf, Bool.and_eq_true, decide_eq_true_eq] at h
  omega

/-- Store, whatever the place. -/
theorem store_some (p d n : Nat) (D : Nat → Int) (u i x : Int) (w : World) (hA : At w p d n D u) :
    Calls Try.prog 17 #[.pointer (some ⟨p, 0, none⟩), .int .i64 i, .int .i64 x] w fun e w' => ∃ r D' u', e = .returned (.int .i64 r) ∧ At w' p d n D' u' ∧ Apart p d w w' := by
  by_cases h : 0 ≤ i ∧ i < (n : Int)
  · exact (store_in p d n D u i x w hA h.1 h.2).mono fun e w' ⟨h1, h2, h3⟩ => ⟨_, _, _, h1, h2, h3⟩
  · exact (store_out p d n D u i x w hA h).mono fun e w' ⟨h1, h2, h3⟩ => ⟨_, _, _, h1, h2, h3⟩

theorem walk_out (n i x : Int) (w : World) (hr : ¬ (1 ≤ n ∧ n ≤ 5000)) :
    Calls Try.prog 6 #[.int .i64 n, .int .i64 i, .int .i64 x] w fun e w' => e = .returned (.bool true) ∧ Below w.heap.size w w' := by
  by_cases g1 : n < 1
  · go_enter Try.func6, Try.ntmps6
    go_wp2_with fail
    refine (awake_any _).mono ?_
    rintro e w1 ⟨rfl, hB⟩
    go_wp2_with fail
    go_ret
    exact ⟨rfl, hB⟩
  · have g2 : n > 5000 := by omega
    clear hr
    go_enter Try.func6, Try.ntmps6
    go_wp2_with fail
    refine (awake_any _).mono ?_
    rintro e w1 ⟨rfl, hB⟩
    go_wp2_with fail
    go_ret
    exact ⟨rfl, hB⟩

set_option maxHeartbeats 1000000 in
theorem walk_narrow (n i x : Int) (w : World) (g1 : 1 ≤ n) (g2 : n ≤ 5000) :
    Calls Try.prog 6 #[.int .i64 n, .int .i64 i, .int .i64 x] w fun e w' => e = .returned (.bool true) ∧ Below w.heap.size w w' := by
  go_enter Try.func6, Try.ntmps6
  go_wp2_with fail
  refine (awake_any _).mono ?_
  rintro e w1 ⟨rfl, hB⟩
  have s1 := hB.size
  go_wp2_with fail
  refine (new_in n g1 (by omega) _).mono ?_
  rintro e w2 ⟨p, d, rfl, hA, hb, lp, ld⟩
  replace hB := stepB hB hb
  clear hb
  go_wp2_with fail
  refine (new_in n g1 (by omega) _).mono ?_
  rintro e w3 ⟨p2, d2, rfl, hA2, hb, lp2, ld2⟩
  have m1 := hA.lp
  have m2 := hA.ld
  replace hA := hA.later hb
  replace hB := stepB hB hb
  clear hb
  go_wp2_with fail
  refine (uses_any p d _ _ _ w3 hA).mono ?_
  rintro e w4 ⟨rfl, rfl⟩
  go_wp2_with fail
  refine (store_some p d _ _ _ i x _ hA).mono ?_
  rintro e w5 ⟨r, D', u', rfl, hA5, hq⟩
  have hA25 := hA2.apart hq (by omega) (by omega) (by omega) (by omega)
  replace hB := hB.trans (hq.below (by omega) (by omega) hB.size)
  clear hA hA2 hA5 hq
  go_wp2_with fail
  refine (words_any p2 d2 _ _ _ w5 hA25 (by omega) (by omega)).mono ?_
  rintro e w6 ⟨c, cap, rfl, hT, lc, hb⟩
  replace hB := stepB hB hb
  replace hA25 := hA25.later hb
  clear hb
  have hn : (n.toNat : Int) = n := by omega
  have hm : n.toNat ≤ 5000 := by omega
  generalize n.toNat = m at *
  subst hn
  have hdata := hT.data
  clear hT
  go_wp2_with fail
  go_loop [12] (fun s => ∃ k : Nat, k ≤ m ∧ s = .int .i64 k) (fun s => m - (intOf s).toNat)
  case atStart => exact ⟨0, Nat.zero_le _, rfl⟩
  case round =>
    obtain ⟨k, hk, rfl⟩ := hrel
    have hcell : k < m → w6.cell? ⟨c, k, none⟩ = some (.int .i64 0) := fun h => hdata k h
    go_wp2_with fail
    · go_round
      case rel => exact ⟨k + 1, by omega, by go_num⟩
      case measure => simp [intOf]; omega
    · refine (uses_any p2 d2 _ _ _ _ hA25).mono ?_
      rintro e w7 ⟨rfl, rfl⟩
      go_wp2_with fail
      go_ret
      exact ⟨rfl, hB⟩

theorem walk (n i x : Int) (w : World) (_ : -9223372036854775808 ≤ n ∧ n ≤ 9223372036854775807) (_ : -9223372036854775808 ≤ i ∧ i ≤ 9223372036854775807) (_ : -9223372036854775808 ≤ x ∧ x ≤ 9223372036854775807) :
    Calls Try.prog 6 #[.int .i64 n, .int .i64 i, .int .i64 x] w fun e w' => e = .returned (.bool true) ∧ Below w.heap.size w w' := by
  by_cases hr : 1 ≤ n ∧ n ≤ 5000
  · exact walk_narrow n i x w hr.1 hr.2
  · exact walk_out n i x w hr


set_option maxRecDepth 100000 in
theorem lifted (os : Os) (started : os.Started) (H : Type) (enc : TypeId × Value → H) :
    ReturnsInHanded {} Try.checked os 6 .any (Rows.arenaFreshSpec.pre6 enc Try.prog Try.f6 Rows.arenaFreshRow.domain false) (Rows.arenaFreshSpec.post enc Try.prog Try.f6 false true false false) := by
  refine returnsInHanded_of_change (C := Try.checked) own started (by kernel_rfl) Try.func6
    (ChangeSpec.witness6 (enc := enc) (C := Try.checked) false ⟨#[], #[.int .i64 0, .int .i64 0, .int .i64 0], []⟩ 8 (by kernel_rfl) (by kernel_rfl) (by kernel_rfl) (by kernel_rfl)) ?_
  intro W base args ds gs before hval0 hW hcnd _
  have hval : ∀ (j : Nat) t v, Try.f6.params[j]? = some t → args[j]? = some v → Value.okWide Try.prog W .any base t v := hval0
  have hW' := hW
  obtain ⟨p, q, hA0, hV, rfl, hfz, hnd⟩ := hW
  have hA : DataW.TrodAll enc Try.prog W 0 (fun _ => true) true Try.f6.params.toList args.toList ds p := hA0
  rw [Try.params6] at hA hval
  obtain ⟨v0, vs0, d0, ds0, p0, q0, hargs, rfl, rfl, h0, r0⟩ := trodAll_cons hA
  obtain ⟨v1, vs1, d1, ds1, p1, q1, rfl, rfl, rfl, h1, r1⟩ := trodAll_cons r0
  obtain ⟨v2, vs2, d2, ds2, p2, q2, rfl, rfl, rfl, h2, r2⟩ := trodAll_cons r1
  obtain ⟨rfl, rfl, rfl⟩ := trodAll_nil r2
  obtain rfl : args = #[v0, v1, v2] := by cases args; simp_all
  obtain ⟨rfl, rfl⟩ := trodVars_none hV
  obtain ⟨n, rfl, rfl, rfl, wn⟩ := open_int Try.underlying3 (hval 0 3 v0 rfl rfl) h0
  obtain ⟨i, rfl, rfl, rfl, wi⟩ := open_int Try.underlying3 (hval 1 3 v1 rfl rfl) h1
  obtain ⟨x, rfl, rfl, rfl, wx⟩ := open_int Try.underlying2 (hval 2 2 v2 rfl rfl) h2
  clear hA0 hval0
  simp only [List.append_nil] at hW'
  refine (walk n i x W (bounds_i64 wn) (bounds_i64 wi) (bounds_i64 wx)).mono fun e W' ⟨he, hb⟩ => ?_
  subst he
  exact ⟨_, rfl, _, _, _, [], [], [], hW', trodAll_cons_mk (shut_bool Try.underlying4 _) trodAll_mk0, trodAll_cons_mk (shut_int Try.underlying3 wn) (trodAll_cons_mk (shut_int Try.underlying3 wi) (trodAll_cons_mk (shut_int Try.underlying2 wx) trodAll_mk0)), rfl, hb.frame _, fun h => by cases h⟩

theorem said : Rows.ArenaFreshSaid :=
  OpenClaim.holds_of_wide 6 Try.f6 rfl rfl rfl rfl rfl rfl rfl ⟨rfl, rfl, rfl, rfl, rfl⟩ rfl rfl rfl rfl rfl (by kernel_rfl) Try.func6 (by kernel_rfl)
    (of_decide_eq_true (by kernel_rfl)) (by unfold Func.isWrapper; first | (rw [if_pos (by decide +kernel)]; kernel_rfl) | (rw [if_neg (by decide +kernel)]; exact ⟨rfl, rfl⟩))
    (fun os started H enc _ => lifted os started H enc)
end Go.Proofs.Ytfkcmadnebeijaa.arenaFresh
namespace Go.Proofs.Ytfkcmadnebeijaa
theorem arenaFresh_said : Rows.ArenaFreshSaid := arenaFresh.said
end Go.Proofs.Ytfkcmadnebeijaa
