/- NumRings: for all integers of its parameters' kinds the statement's function returns true, where the three tables of the library that it reads are as the program's text lays them; each argument reads behind the call as before. -/
import Derived.Test.YtkipioojdlkbcaaDoorCards
import Derived.Test.YtkipioojdlkbcaaDoorTie
import Derived.Test.YtkipioojdlkbcaaDoorRingsC
import Derived.Test.YtkipioojdlkbcaaDoorRefB
namespace Go.Proofs.YtkipioojdlkbcaaDoor.numRings
open Go.ChangeShapes Go.WideShapes Go.ChangeAt Go.RowKit

theorem own : ownKnob Tryd.prog.godebug = none := by kernel_rfl

/-- What a rest is. -/
theorem rest_facts (a b : Int) (h0 : b ≠ 0) : (a.tmod b).natAbs < b.natAbs ∧ (0 ≤ a → 0 ≤ a.tmod b) ∧ (a < 0 → a.tmod b ≤ 0) := by
  have hb : 0 < b.natAbs := by omega
  have hlt := Nat.mod_lt a.natAbs hb
  have h := tmod_parts a b
  split at h
  · exact ⟨by omega, fun _ => by omega, fun _ => by omega⟩
  · exact ⟨by omega, fun _ => by omega, fun _ => by omega⟩

theorem walk (a b c : Int) (W : World) (ha : InR a) (hb : InR b) (hc : InR c) (hE : Env W) :
    Calls Tryd.prog 5 #[.int .i64 a, .int .i64 b, .int .i64 c] W fun e W' => e = .returned (.bool true) ∧ Below W.heap.size W W' := by
  by_cases hbad : b = 0 ∨ (a = -9223372036854775808 ∧ b = -1)
  · have hd : dv a b ≠ 0 := by
      unfold dv
      split
      · decide
      · split
        · decide
        · rename_i h1 h2; exact absurd hbad (by simp only [not_or]; exact ⟨h1, h2⟩)
    exact walk_bad a b c W ha hb hc (dv a b) hd hbad (fun w => calc_div_bad a b w ha hb hd) (fun w => calc_rem_bad a b w ha hb hd) hE
  · have h0 : b ≠ 0 := fun h => hbad (Or.inl h)
    have hn : ¬ (a = -9223372036854775808 ∧ b = -1) := fun h => hbad (Or.inr h)
    have hd : dv a b = 0 := by unfold dv; rw [if_neg h0, if_neg hn]
    have hq := quot_InR a b ha h0 hn
    obtain ⟨f1, f2, f3⟩ := rest_facts a b h0
    have hb' := hb
    unfold InR at hb'
    have hr : InR (a.tmod b) := by unfold InR; omega
    refine walk_ok a b c W ha hb hc (a.tdiv b) (a.tmod b) (by simp [h0]) ?_ (fun w => calc_div_ok a b w ha hb hd h0) (fun w => calc_rem_ok a b w ha hb hd h0) (fun w => c_y a b w hq hb) (fun w => c_z a b w hr) ?_ ?_ ?_ hE
    · by_cases h1 : a = -9223372036854775808
      · exact Or.inr (by have : b ≠ -1 := fun h => hn ⟨h1, h⟩
                         simp [this])
      · exact Or.inl (by simp [h1])
    · rw [i64wrap]; exact wrap64_U _ hr
    · by_cases h1 : b < 0
      · exact Or.inl ⟨by simp [h1], by simp; omega, by simp; omega⟩
      · exact Or.inr ⟨by simp; omega, by simp; omega⟩
    · generalize a.tmod b = r at *
      by_cases h1 : r = 0
      · exact Or.inl (by simp [h1])
      · by_cases h2 : r < 0
        · exact Or.inr (Or.inl ⟨by simp [h1], by simp [h2], by simp; omega⟩)
        · exact Or.inr (Or.inr ⟨by simp [h1], by simp; omega, by simp; omega⟩)


set_option maxRecDepth 100000 in
/-- WHAT THE WALK GIVES, FOR EVERY ARGUMENT AND EVERY WORLD THAT HOLDS THE TABLES. -/
theorem contract (H : Type) (enc : TypeId × Value → H) (W : World) (base : Nat) (args : Array Value) (ds gs : List (DataW H)) (before : List MemPlace)
    (hval : ∀ (j : Nat) t v, Tryd.f5.params[j]? = some t → args[j]? = some v → Value.okWide Tryd.prog W .any base t v)
    (hW : DataW.Whole enc Tryd.prog Tryd.f5.params.toList Rows.numRingsSpec.vars false W args.toList ds gs before) (hL : laidMetH Tryd.prog Rows.numRingsRow.laid W) :
    Calls Tryd.prog 5 args W fun e W' => ∃ v, e = .returned v ∧ Rows.numRingsSpec.post enc Tryd.prog Tryd.f5 false true false false W args v W' := by
  have hE : Env W := env_of hL
  have hW' := hW
  obtain ⟨p, q, hA0, hV, rfl, hfz, hnd⟩ := hW
  have hA : DataW.TrodAll enc Tryd.prog W 0 (fun _ => true) true Tryd.f5.params.toList args.toList ds p := hA0
  rw [Tryd.params5] at hA hval
  obtain ⟨v0, vs0, d0, ds0, p0, q0, hargs, rfl, rfl, h0, r0⟩ := trodAll_cons hA
  obtain ⟨v1, vs1, d1, ds1, p1, q1, rfl, rfl, rfl, h1, r1⟩ := trodAll_cons r0
  obtain ⟨v2, vs2, d2, ds2, p2, q2, rfl, rfl, rfl, h2, r2⟩ := trodAll_cons r1
  obtain ⟨rfl, rfl, rfl⟩ := trodAll_nil r2
  obtain rfl : args = #[v0, v1, v2] := by cases args; simp_all
  obtain ⟨rfl, rfl⟩ := trodVars_none hV
  obtain ⟨a, rfl, rfl, rfl, wa⟩ := open_int Tryd.underlying2 (hval 0 2 v0 rfl rfl) h0
  obtain ⟨b, rfl, rfl, rfl, wb⟩ := open_int Tryd.underlying2 (hval 1 2 v1 rfl rfl) h1
  obtain ⟨c, rfl, rfl, rfl, wc⟩ := open_int Tryd.underlying2 (hval 2 2 v2 rfl rfl) h2
  clear hA0
  simp only [List.append_nil] at hW'
  refine (walk a b c W (bounds_i64 wa) (bounds_i64 wb) (bounds_i64 wc) hE).mono fun e W' ⟨he, hb⟩ => ?_
  subst he
  exact ⟨_, rfl, _, _, _, [], [], [], hW', trodAll_cons_mk (shut_bool Tryd.underlying4 _) trodAll_mk0, trodAll_cons_mk (shut_int Tryd.underlying2 wa) (trodAll_cons_mk (shut_int Tryd.underlying2 wb) (trodAll_cons_mk (shut_int Tryd.underlying2 wc) trodAll_mk0)), rfl, hb.frame _, fun h => by cases h⟩

/-- A WORLD FOR THE WITNESS: the settled one, the three tables holding what their initialisers lay. -/
noncomputable def laidWorld (os : Os) : World :=
  { World.holding Tryd.prog os ⟨#[], #[], []⟩ with heap := (((World.holding Tryd.prog os ⟨#[], #[], []⟩).heap.modify 5 (putTab (tab32.map (Value.int .u8)).toArray)).modify 6
      (putTab (tab64.map (Value.int .u8)).toArray)).modify 1 (putTab (Lib.pow10Tab.map (Value.int .u64)).toArray) }
theorem laid_met (os : Os) : laidMet Tryd.prog Rows.numRingsRow.laid ((laidWorld os).forCall (fun _ _ => 0) ⟨#[], #[.int .i64 0, .int .i64 0, .int .i64 0], []⟩).memory :=
  laidMet_of_run' 8 (by kernel_rfl) (by kernel_rfl)
theorem reads (os : Os) {H : Type} (enc : TypeId × Value → H) : ∃ places, DataW.whole enc Tryd.prog ((laidWorld os).forCall (fun _ _ => 0) ⟨#[], #[.int .i64 0, .int .i64 0, .int .i64 0], []⟩).memory Tryd.f5.params.toList Rows.numRingsSpec.vars false (#[.int .i64 0, .int .i64 0, .int .i64 0] : Array Value).toList 8 = some ([.lit (.int .i64 0), .lit (.int .i64 0), .lit (.int .i64 0)], [], places) :=
  ⟨[], by kernel_rfl⟩

set_option maxRecDepth 100000 in
theorem lifted (os : Os) (started : os.Started) (H : Type) (enc : TypeId × Value → H) (F : Stop.Interp) :
    ReturnsInHanded {} Tryd.checked os 5 .any ((OpenSpec.ofChange Rows.numRingsSpec).preRow enc Tryd.prog Tryd.f5 Rows.numRingsRow.domain false Rows.numRingsRow.laid) (((OpenSpec.ofChange Rows.numRingsSpec).at F).post enc Tryd.prog Tryd.f5 false true false false) := by
  obtain ⟨places, hx⟩ := reads os enc
  refine returnsInHanded_of_row (C := Tryd.checked) (s := OpenSpec.ofChange Rows.numRingsSpec) own started (by kernel_rfl) Tryd.func5
    (witness_row_at (enc := enc) (C := Tryd.checked) false (laidWorld os) #[.int .i64 0, .int .i64 0, .int .i64 0] rfl (by kernel_rfl) (by kernel_rfl) (by kernel_rfl)
      (OpenSpec.preRow_of_cond 8 hx (by kernel_rfl) (fun k hk => by cases hk) (by kernel_rfl) (laid_met os))) ?_
  intro W base args ds gs before hval hW _ _ _ hL _ _
  exact contract H enc W base args ds gs before hval hW hL

theorem said : Rows.NumRingsSaid :=
  OpenClaim.holds_of_cond 5 Tryd.f5 rfl rfl rfl rfl rfl rfl rfl ⟨rfl, rfl, rfl, rfl, rfl⟩ rfl rfl rfl rfl rfl (by kernel_rfl) Tryd.func5 (by kernel_rfl)
    (of_decide_eq_true (by kernel_rfl)) (by unfold Func.isWrapper; first | (rw [if_pos (by decide +kernel)]; kernel_rfl) | (rw [if_neg (by decide +kernel)]; exact ⟨rfl, rfl⟩))
    (fun os started H enc _ F => by rw [OpenClaim.pre_eq_preRow]; exact lifted os started H enc F)

/-- No parameter wants a stand-in; the program's own looks are off. -/
theorem plain (f : FuncId) (fn : Func) (hf : Tryd.pinned.checked.prog.funcNamed "treadwheel/treadwheellaw01.NumRings" = some f) (hfn : Tryd.pinned.checked.prog.funcs[f]? = some fn) :
    true = Tryd.pinned.checked.prog.looks [] ∧ ∀ (j : Nat) t, fn.params[j]? = some t → Tryd.pinned.checked.prog.wantsStandIn t = false := by
  obtain rfl : f = 5 := Option.some.inj ((show Tryd.prog.funcNamed "treadwheel/treadwheellaw01.NumRings" = some 5 by kernel_rfl).symm.trans hf) |>.symm
  obtain rfl : fn = Tryd.f5 := (Option.some.inj (Tryd.func5.symm.trans hfn)).symm
  refine ⟨by kernel_rfl, fun j t ht => ?_⟩
  rw [Tryd.params5] at ht
  have hm := Array.mem_of_getElem? ht
  simp only [List.mem_toArray, List.mem_cons, List.not_mem_nil, or_false] at hm
  rcases hm with rfl | rfl | rfl
  · exact (show Tryd.prog.wantsStandIn 2 = false by kernel_rfl)
  · exact (show Tryd.prog.wantsStandIn 2 = false by kernel_rfl)
  · exact (show Tryd.prog.wantsStandIn 2 = false by kernel_rfl)

/-- THE CARD. -/
theorem card : Rows.NumRingsCardSaid :=
  Claim7.holds_tied_plain_at .later [] _ _ _ _ said (fun _ h => by cases h) (by kernel_rfl) (fun _ h => by cases h) numRings_row_tie rfl ⟨rfl, rfl⟩ (by kernel_rfl) rfl plain (by kernel_rfl)
end Go.Proofs.YtkipioojdlkbcaaDoor.numRings
namespace Go.Proofs.YtkipioojdlkbcaaDoor
theorem numRings_card : Rows.NumRingsCardSaid := numRings.card
end Go.Proofs.YtkipioojdlkbcaaDoor
