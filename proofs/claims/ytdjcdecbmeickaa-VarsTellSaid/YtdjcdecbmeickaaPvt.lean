import Derived.Test.YtdjcdecbmeickaaRows
import Derived.Lib.SmallJoins
import Derived.ChangeMaps5
import Derived.LaidMore
import Derived.Lay
import Derived.Stop.Joined
import Derived.FifthTie
import Derived.Test.YtdjcdecbmeickaaMg22
/- VarsTell: for every text and every list of names the statement's function returns true; each argument reads behind the call as before. -/
namespace Go.Proofs.Ytdjcdecbmeickaa.varsTell
open Go.ChangeShapes Go.WideShapes Go.ChangeAt Go.RowKit
open Go.ChangeMaps (open_string shut_string)
open Go.Extern.Stop Go.Stop Go.Extern
theorem own : ownKnob Try.prog.godebug = none := by kernel_rfl
set_option maxRecDepth 100000 in
theorem lifted (os : Os) (started : os.Started) (H : Type) (enc : TypeId × Value → H) :
    ReturnsInHanded {} Try.checked os 3 .any (fun w args => (Rows.varsTellSpec.pre enc Try.prog Try.f3 Rows.varsTellRow.domain false w args ∧ laidMetH Try.prog Rows.varsTellRow.laid w) ∧ sizedMet enc Try.prog Try.f3 (OpenSpec.ofChange Rows.varsTellSpec) false w args)
      (Rows.varsTellSpec.post enc Try.prog Try.f3 false true false false) := by
  refine returnsInHanded_of_change_and (C := Try.checked) (X := fun w _ => laidMetH Try.prog Rows.varsTellRow.laid w) (fun _ _ _ hh h => h.of_heap hh) own started (by kernel_rfl) Try.func3
    (ChangeSpec.witness_shaped (enc := enc) (C := Try.checked) (os := os) (X := fun w _ => laidMetH Try.prog Rows.varsTellRow.laid w) false (World.laidAll Try.prog os Rows.varsTellRow.laid) #[.string ⟨#[]⟩, .slice none 0 0] 8 (World.laidAll_os _ _ _)
      (World.shaped_of_ZipB (by kernel_rfl) (by kernel_rfl)) (by kernel_rfl) (by kernel_rfl) (by kernel_rfl)
      (by rw [MakeChecks.laidMetH_plain _ _ _ (by kernel_rfl)]; exact laidMet_laidAll _ (by kernel_rfl) (by kernel_rfl))) ?_
  intro W base args ds gs before hval0 hW _ hZ hL _
  have hval : ∀ (j : Nat) t v, Try.f3.params[j]? = some t → args[j]? = some v → Value.okWide Try.prog W .any base t v := hval0
  have hW' := hW
  obtain ⟨p, q, hA0, hV, rfl, _, _⟩ := hW
  have hA : DataW.TrodAll enc Try.prog W 0 (fun _ => true) true Try.f3.params.toList args.toList ds p := hA0
  rw [Try.params3] at hA hval
  obtain ⟨v0, vs0, d0, ds0, p0, q0, hargs, rfl, rfl, h0, r0⟩ := trodAll_cons hA
  obtain ⟨v1, vs1, d1, ds1, p1, q1, rfl, rfl, rfl, h1, r1⟩ := trodAll_cons r0
  obtain ⟨rfl, rfl, rfl⟩ := trodAll_nil r1
  obtain rfl : args = #[v0, v1] := by cases args; simp_all
  obtain ⟨rfl, rfl⟩ := trodVars_none hV
  obtain ⟨s0, rfl, rfl, rfl, w0⟩ := open_string Try.underlying9 (hval 0 9 v0 rfl rfl) h0
  have h1k := h1
  have hv1 := hval 1 22 v1 rfl rfl
  obtain ⟨a1, len1, cap1, rfl⟩ := Go.WideShapes.okWide_slice Try.underlying22 hv1
  obtain ⟨fuel1, hf1⟩ := h1
  obtain ⟨names1, hlen1, hrow1, hwt1⟩ := names_of (by simpa [Value.cells] using hf1) hv1
  subst hlen1
  have hz1 : ∀ y, y ∈ names1 → y.length ≤ 140737488355328 := fun y hy => by
    have hall := hZ
    rw [Try.params3] at hall
    have hl := List.all_eq_true.1 hall y.length (by
      have h := hwt1 y hy
      simp [DataW.weightsEach]
      exact Or.inr h)
    have hl' : y.length ≤ reachBytes := of_decide_eq_true hl
    exact Nat.le_trans hl' (by decide)
  clear hA0
  simp only [List.append_nil] at hW'
  refine (vtell_walk s0 names1 hz1 a1 cap1 W hrow1).mono fun e W' ⟨he, hb⟩ => ?_
  subst he
  exact ⟨_, rfl, _, _, _, [], _, [], hW', trodAll_cons_mk (shut_bool Try.underlying4 _) trodAll_mk0, trodAll_cons_mk (shut_string Try.underlying9 w0) (trodAll_cons_mk (Below.trod (show laidOutB Try.prog = true by kernel_rfl) (by kernel_rfl) (of_decide_eq_true (by kernel_rfl)) h1k hb (fun x hx => by simpa using hW'.lt x (by simp [hx]))) trodAll_mk0), rfl, hb.frame _, fun h => by cases h⟩
theorem said : Rows.VarsTellSaid :=
  OpenClaim.holds_of_wide 3 Try.f3 rfl rfl rfl rfl rfl rfl rfl ⟨rfl, rfl, rfl, rfl, rfl⟩ rfl rfl rfl rfl rfl (by kernel_rfl) Try.func3 (by kernel_rfl)
    (of_decide_eq_true (by kernel_rfl)) (by unfold Func.isWrapper; first | (rw [if_pos (by decide +kernel)]; kernel_rfl) | (rw [if_neg (by decide +kernel)]; exact ⟨rfl, rfl⟩))
    (fun os started H enc _ => by
      rw [OpenClaim.pre_none (show Rows.varsTellRow.laid = [] from rfl)]
      have hm : ∀ w : World, laidMetH Try.prog Rows.varsTellRow.laid w := fun w => by rw [MakeChecks.laidMetH_plain _ _ _ (by kernel_rfl)]; exact laidMet_nil _ _
      refine (congrArg (fun p => ReturnsInHanded {} Try.checked os 3 .any p (Rows.varsTellSpec.post enc Try.prog Try.f3 false true false false)) ?_).mp (lifted os started H enc)
      funext w args
      exact propext ⟨fun h => ⟨h.1.1, h.2⟩, fun h => ⟨⟨h.1, hm w⟩, h.2⟩⟩)
end Go.Proofs.Ytdjcdecbmeickaa.varsTell
namespace Go.Proofs.Ytdjcdecbmeickaa
theorem varsTell_said : Rows.VarsTellSaid := varsTell.said
end Go.Proofs.Ytdjcdecbmeickaa
