/- VarsScope: for every text the statement's function returns true; each argument reads behind the call as before. -/
import Derived.Test.YtdjcdecbmeickaaMg23
import Derived.Test.YtdjcdecbmeickaaRows
import Derived.Lib.SmallJoins
import Derived.ChangeMaps5
import Derived.LaidMore
import Derived.Lay
import Derived.Stop.Joined
import Derived.FifthTie
namespace Go.Proofs.Ytdjcdecbmeickaa.varsScope
open Go.ChangeShapes Go.WideShapes Go.ChangeAt Go.RowKit
open Go.ChangeMaps (open_string shut_string)
open Go.Extern.Stop Go.Stop Go.Extern
theorem own : ownKnob Try.prog.godebug = none := by kernel_rfl
set_option maxRecDepth 100000 in
theorem lifted (os : Os) (started : os.Started) (H : Type) (enc : TypeId × Value → H) :
    ReturnsInHanded {} Try.checked os 4 .any (fun w args => (Rows.varsScopeSpec.pre enc Try.prog Try.f4 Rows.varsScopeRow.domain false w args ∧ laidMetH Try.prog Rows.varsScopeRow.laid w) ∧ sizedMet enc Try.prog Try.f4 (OpenSpec.ofChange Rows.varsScopeSpec) false w args)
      (Rows.varsScopeSpec.post enc Try.prog Try.f4 false true false false) := by
  refine returnsInHanded_of_change_and (C := Try.checked) (X := fun w _ => laidMetH Try.prog Rows.varsScopeRow.laid w) (fun _ _ _ hh h => h.of_heap hh) own started (by kernel_rfl) Try.func4
    (ChangeSpec.witness_shaped (enc := enc) (C := Try.checked) (os := os) (X := fun w _ => laidMetH Try.prog Rows.varsScopeRow.laid w) false (World.laidAll Try.prog os Rows.varsScopeRow.laid) #[.string ⟨#[]⟩] 8 (World.laidAll_os _ _ _)
      (World.shaped_of_ZipB (by kernel_rfl) (by kernel_rfl)) (by kernel_rfl) (by kernel_rfl) (by kernel_rfl)
      (by rw [MakeChecks.laidMetH_plain _ _ _ (by kernel_rfl)]; exact laidMet_laidAll _ (by kernel_rfl) (by kernel_rfl))) ?_
  intro W base args ds gs before hval0 hW _ _ hL _
  have hval : ∀ (j : Nat) t v, Try.f4.params[j]? = some t → args[j]? = some v → Value.okWide Try.prog W .any base t v := hval0
  have hW' := hW
  obtain ⟨p, q, hA0, hV, rfl, _, _⟩ := hW
  have hA : DataW.TrodAll enc Try.prog W 0 (fun _ => true) true Try.f4.params.toList args.toList ds p := hA0
  rw [Try.params4] at hA hval
  obtain ⟨v0, vs0, d0, ds0, p0, q0, hargs, rfl, rfl, h0, r0⟩ := trodAll_cons hA
  obtain ⟨rfl, rfl, rfl⟩ := trodAll_nil r0
  obtain rfl : args = #[v0] := by cases args; simp_all
  obtain ⟨rfl, rfl⟩ := trodVars_none hV
  obtain ⟨s0, rfl, rfl, rfl, w0⟩ := open_string Try.underlying9 (hval 0 9 v0 rfl rfl) h0
  clear hA0
  simp only [List.append_nil] at hW'
  refine (vscope_walk s0 W).mono fun e W' ⟨he, hb⟩ => ?_
  subst he
  exact ⟨_, rfl, _, _, _, [], [], [], hW', trodAll_cons_mk (shut_bool Try.underlying4 _) trodAll_mk0, trodAll_cons_mk (shut_string Try.underlying9 w0) trodAll_mk0, rfl, hb.frame _, fun h => by cases h⟩
theorem said : Rows.VarsScopeSaid :=
  OpenClaim.holds_of_wide 4 Try.f4 rfl rfl rfl rfl rfl rfl rfl ⟨rfl, rfl, rfl, rfl, rfl⟩ rfl rfl rfl rfl rfl (by kernel_rfl) Try.func4 (by kernel_rfl)
    (of_decide_eq_true (by kernel_rfl)) (by unfold Func.isWrapper; first | (rw [if_pos (by decide +kernel)]; kernel_rfl) | (rw [if_neg (by decide +kernel)]; exact ⟨rfl, rfl⟩))
    (fun os started H enc _ => by
      rw [OpenClaim.pre_none (show Rows.varsScopeRow.laid = [] from rfl)]
      have hm : ∀ w : World, laidMetH Try.prog Rows.varsScopeRow.laid w := fun w => by rw [MakeChecks.laidMetH_plain _ _ _ (by kernel_rfl)]; exact laidMet_nil _ _
      refine (congrArg (fun p => ReturnsInHanded {} Try.checked os 4 .any p (Rows.varsScopeSpec.post enc Try.prog Try.f4 false true false false)) ?_).mp (lifted os started H enc)
      funext w args
      exact propext ⟨fun h => ⟨h.1.1, h.2⟩, fun h => ⟨⟨h.1, hm w⟩, h.2⟩⟩)
end Go.Proofs.Ytdjcdecbmeickaa.varsScope
namespace Go.Proofs.Ytdjcdecbmeickaa
theorem varsScope_said : Rows.VarsScopeSaid := varsScope.said
end Go.Proofs.Ytdjcdecbmeickaa
