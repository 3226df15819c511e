import Derived.Test.YtdjcdecbmeickaaRows
import Derived.Lib.SmallJoins
import Derived.ChangeMaps5
import Derived.LaidMore
import Derived.Lay
import Derived.Stop.Joined
import Derived.FifthTie
import Derived.Test.YtdjcdecbmeickaaMg21
/- VarsBind: for every text and every name the statement's function returns true; each argument reads behind the call as before. -/
namespace Go.Proofs.Ytdjcdecbmeickaa.varsBind
open Go.ChangeShapes Go.WideShapes Go.ChangeAt Go.RowKit
open Go.ChangeMaps (open_string shut_string)
open Go.Extern.Stop Go.Stop Go.Extern
theorem own : ownKnob Try.prog.godebug = none := by kernel_rfl
set_option maxRecDepth 100000 in
theorem lifted (os : Os) (started : os.Started) (H : Type) (enc : TypeId × Value → H) :
    ReturnsInHanded {} Try.checked os 5 .any (fun w args => (Rows.varsBindSpec.pre enc Try.prog Try.f5 Rows.varsBindRow.domain false w args ∧ laidMetH Try.prog Rows.varsBindRow.laid w) ∧ sizedMet enc Try.prog Try.f5 (OpenSpec.ofChange Rows.varsBindSpec) false w args)
      (Rows.varsBindSpec.post enc Try.prog Try.f5 false true false false) := by
  refine returnsInHanded_of_change_and (C := Try.checked) (X := fun w _ => laidMetH Try.prog Rows.varsBindRow.laid w) (fun _ _ _ hh h => h.of_heap hh) own started (by kernel_rfl) Try.func5
    (ChangeSpec.witness_shaped (enc := enc) (C := Try.checked) (os := os) (X := fun w _ => laidMetH Try.prog Rows.varsBindRow.laid w) false (World.laidAll Try.prog os Rows.varsBindRow.laid) #[.string ⟨#[]⟩, .string ⟨#[]⟩] 8 (World.laidAll_os _ _ _)
      (World.shaped_of_ZipB (by kernel_rfl) (by kernel_rfl)) (by kernel_rfl) (by kernel_rfl) (by kernel_rfl)
      (by rw [MakeChecks.laidMetH_plain _ _ _ (by kernel_rfl)]; exact laidMet_laidAll _ (by kernel_rfl) (by kernel_rfl))) ?_
  intro W base args ds gs before hval0 hW _ hZ hL _
  have hval : ∀ (j : Nat) t v, Try.f5.params[j]? = some t → args[j]? = some v → Value.okWide Try.prog W .any base t v := hval0
  have hW' := hW
  obtain ⟨p, q, hA0, hV, rfl, _, _⟩ := hW
  have hA : DataW.TrodAll enc Try.prog W 0 (fun _ => true) true Try.f5.params.toList args.toList ds p := hA0
  rw [Try.params5] at hA hval
  obtain ⟨v0, vs0, d0, ds0, p0, q0, hargs, rfl, rfl, h0, r0⟩ := trodAll_cons hA
  obtain ⟨v1, vs1, d1, ds1, p1, q1, rfl, rfl, rfl, h1, r1⟩ := trodAll_cons r0
  obtain ⟨rfl, rfl, rfl⟩ := trodAll_nil r1
  obtain rfl : args = #[v0, v1] := by cases args; simp_all
  obtain ⟨rfl, rfl⟩ := trodVars_none hV
  obtain ⟨s0, rfl, rfl, rfl, w0⟩ := open_string Try.underlying9 (hval 0 9 v0 rfl rfl) h0
  obtain ⟨s1, rfl, rfl, rfl, w1⟩ := open_string Try.underlying9 (hval 1 9 v1 rfl rfl) h1
  clear hA0
  simp only [List.append_nil] at hW'
  have hz1 : s1.size ≤ 140737488355328 := by
    have hall := hZ
    rw [Try.params5] at hall
    have hl := List.all_eq_true.1 hall s1.data.toList.length (by simp [DataW.weightsEach, DataW.weights])
    have hl' : s1.data.toList.length ≤ reachBytes := of_decide_eq_true hl
    rw [Go.Lib.size_eq]
    exact Nat.le_trans hl' (by decide)
  refine (vbind_walk s0 s1 hz1 W).mono fun e W' ⟨he, hb⟩ => ?_
  subst he
  exact ⟨_, rfl, _, _, _, [], [], [], hW', trodAll_cons_mk (shut_bool Try.underlying4 _) trodAll_mk0, trodAll_cons_mk (shut_string Try.underlying9 w0) (trodAll_cons_mk (shut_string Try.underlying9 w1) trodAll_mk0), rfl, hb.frame _, fun h => by cases h⟩
theorem said : Rows.VarsBindSaid :=
  OpenClaim.holds_of_wide 5 Try.f5 rfl rfl rfl rfl rfl rfl rfl ⟨rfl, rfl, rfl, rfl, rfl⟩ rfl rfl rfl rfl rfl (by kernel_rfl) Try.func5 (by kernel_rfl)
    (of_decide_eq_true (by kernel_rfl)) (by unfold Func.isWrapper; first | (rw [if_pos (by decide +kernel)]; kernel_rfl) | (rw [if_neg (by decide +kernel)]; exact ⟨rfl, rfl⟩))
    (fun os started H enc _ => by
      rw [OpenClaim.pre_none (show Rows.varsBindRow.laid = [] from rfl)]
      have hm : ∀ w : World, laidMetH Try.prog Rows.varsBindRow.laid w := fun w => by rw [MakeChecks.laidMetH_plain _ _ _ (by kernel_rfl)]; exact laidMet_nil _ _
      refine (congrArg (fun p => ReturnsInHanded {} Try.checked os 5 .any p (Rows.varsBindSpec.post enc Try.prog Try.f5 false true false false)) ?_).mp (lifted os started H enc)
      funext w args
      exact propext ⟨fun h => ⟨h.1.1, h.2⟩, fun h => ⟨⟨h.1, hm w⟩, h.2⟩⟩)
end Go.Proofs.Ytdjcdecbmeickaa.varsBind
namespace Go.Proofs.Ytdjcdecbmeickaa
theorem varsBind_said : Rows.VarsBindSaid := varsBind.said
end Go.Proofs.Ytdjcdecbmeickaa
