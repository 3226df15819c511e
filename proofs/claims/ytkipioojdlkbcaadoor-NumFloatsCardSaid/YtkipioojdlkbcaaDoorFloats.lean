/- NumFloats: for all integers of its parameters' kinds the statement's function returns true, where the three tables of the library that it reads are as the program's text lays them; each argument reads behind the call as before. -/
import Derived.Test.YtkipioojdlkbcaaDoorCards
import Derived.Test.YtkipioojdlkbcaaDoorTie
import Derived.Test.YtkipioojdlkbcaaDoorFloatsB
import Derived.Test.YtkipioojdlkbcaaDoorFloatsC
namespace Go.Proofs.YtkipioojdlkbcaaDoor.numFloats
open Go.ChangeShapes Go.WideShapes Go.ChangeAt Go.RowKit

theorem own : ownKnob Tryd.prog.godebug = none := by kernel_rfl

theorem walk (a b : Int) (W : World) (ha : 0 ≤ a ∧ a ≤ 18446744073709551615) (hb : 0 ≤ b ∧ b ≤ 18446744073709551615) (hE : Env W) :
    Calls Tryd.prog 6 #[.int .u64 a, .int .u64 b] W fun e W' => e = .returned (.bool true) ∧ Below W.heap.size W W' := by
  obtain ⟨a, rfl⟩ := Int.eq_ofNat_of_zero_le ha.1
  obtain ⟨b, rfl⟩ := Int.eq_ofNat_of_zero_le hb.1
  have a64 : a < 2 ^ 64 := by omega
  have b64 : b < 2 ^ 64 := by omega
  by_cases hn : 2047 * 2 ^ 52 < a % 2 ^ 63 ∨ 2047 * 2 ^ 52 < b % 2 ^ 63
  · have n1 : Fl.F.add a b = none ∧ Fl.F.sub a b = none ∧ Fl.F.mul a b = none ∧ Fl.F.div a b = none := by
      rcases hn with h | h
      · exact Fl.nan_left a b h
      · exact Fl.nan_right a b h
    have n2 : Fl.F.add b a = none ∧ Fl.F.sub b a = none ∧ Fl.F.mul b a = none ∧ Fl.F.div b a = none := by
      rcases hn with h | h
      · exact Fl.nan_right b a h
      · exact Fl.nan_left b a h
    have o1 : Fl.F.order a b = none := by
      rcases hn with h | h
      · exact Fl.order_nan_left a b h
      · exact Fl.order_nan_right a b h
    have o2 : Fl.F.order b a = none := by
      rcases hn with h | h
      · exact Fl.order_nan_right b a h
      · exact Fl.order_nan_left b a h
    refine walk_nan a b W ha.1 hb.1 (by omega) (by omega) (fo (Fl.F.sub b a)) (fo (Fl.F.div b a)) (by omega) ?_ ?_ ?_ (fun w => calc_fsub b a w) ?_ ?_ ?_ (fun w => calc_fdiv b a w) ?_ ?_ ?_ hE
    · intro w; have h := calc_fadd a b w; rw [n1.1] at h; exact h
    · intro w; have h := calc_fadd b a w; rw [n2.1] at h; exact h
    · intro w; have h := calc_fsub a b w; rw [n1.2.1] at h; exact h
    · intro w; have h := calc_fmul a b w; rw [n1.2.2.1] at h; exact h
    · intro w; have h := calc_fmul b a w; rw [n2.2.2.1] at h; exact h
    · intro w; have h := calc_fdiv a b w; rw [n1.2.2.2] at h; exact h
    · intro w; have h := test_fless a b w; rw [o1] at h; exact h
    · intro w; have h := test_fless b a w; rw [o2] at h; exact h
    · intro w; have h := test_feq a b w; rw [o1] at h; exact h
  · have hna : ¬ 2047 * 2 ^ 52 < a % 2 ^ 63 := fun h => hn (Or.inl h)
    have hnb : ¬ 2047 * 2 ^ 52 < b % 2 ^ 63 := fun h => hn (Or.inr h)
    obtain ⟨o, ho⟩ := Fl.order_some a b a64 b64 hna hnb
    have hs : Fl.F.order b a = some o.swap := by rw [Fl.order_swap a b, ho]; rfl
    obtain ⟨c, h1, _, _, h2⟩ := Fl.minus_minus a a64 hna
    refine walk_num a b W ha.1 hb.1 (by omega) (by omega) (fo (Fl.F.add a b)) (fo (Fl.F.sub a b)) (fo (Fl.F.sub b a)) (fo (Fl.F.mul a b)) (fo (Fl.F.div a b)) (fo (Fl.F.div b a)) c (some o == some .lt) (some o.swap == some .lt) (some o == some .eq)
      ⟨by omega, by omega⟩ (fun w => calc_fadd a b w) ?_ (fun w => calc_fsub a b w) (fun w => calc_fsub b a w) (fun w => calc_fmul a b w) ?_ (fun w => calc_fdiv a b w) (fun w => calc_fdiv b a w) ?_ ?_ ?_ ?_ ?_ ?_ ?_ hE
    · intro w; have h := calc_fadd b a w; rw [Fl.add_comm b a] at h; exact h
    · intro w; have h := calc_fmul b a w; rw [Fl.mul_comm b a] at h; exact h
    · intro w; have h := test_fless a b w; rw [ho] at h; exact h
    · intro w; have h := test_fless b a w; rw [hs] at h; exact h
    · intro w; have h := test_feq a b w; rw [ho] at h; exact h
    · intro w; have h := test_feq a a w; rw [Fl.order_self a a64 hna] at h; exact h
    · intro w; have h := calc_fmul a 13830554455654793216 w; rw [h1] at h; exact h
    · intro w; have h := calc_fmul c 13830554455654793216 w; rw [h2] at h; exact h
    · cases o <;> decide


set_option maxRecDepth 100000 in
/-- WHAT THE WALK GIVES, FOR EVERY ARGUMENT AND EVERY WORLD THAT HOLDS THE TABLES. -/
theorem contract (H : Type) (enc : TypeId × Value → H) (W : World) (base : Nat) (args : Array Value) (ds gs : List (DataW H)) (before : List MemPlace)
    (hval : ∀ (j : Nat) t v, Tryd.f6.params[j]? = some t → args[j]? = some v → Value.okWide Tryd.prog W .any base t v)
    (hW : DataW.Whole enc Tryd.prog Tryd.f6.params.toList Rows.numFloatsSpec.vars false W args.toList ds gs before) (hL : laidMetH Tryd.prog Rows.numFloatsRow.laid W) :
    Calls Tryd.prog 6 args W fun e W' => ∃ v, e = .returned v ∧ Rows.numFloatsSpec.post enc Tryd.prog Tryd.f6 false true false false W args v W' := by
  have hE : Env W := env_of hL
  have hW' := hW
  obtain ⟨p, q, hA0, hV, rfl, hfz, hnd⟩ := hW
  have hA : DataW.TrodAll enc Tryd.prog W 0 (fun _ => true) true Tryd.f6.params.toList args.toList ds p := hA0
  rw [Tryd.params6] at hA hval
  obtain ⟨v0, vs0, d0, ds0, p0, q0, hargs, rfl, rfl, h0, r0⟩ := trodAll_cons hA
  obtain ⟨v1, vs1, d1, ds1, p1, q1, rfl, rfl, rfl, h1, r1⟩ := trodAll_cons r0
  obtain ⟨rfl, rfl, rfl⟩ := trodAll_nil r1
  obtain rfl : args = #[v0, v1] := by cases args; simp_all
  obtain ⟨rfl, rfl⟩ := trodVars_none hV
  obtain ⟨a, rfl, rfl, rfl, wa⟩ := open_int Tryd.underlying22 (hval 0 22 v0 rfl rfl) h0
  obtain ⟨b, rfl, rfl, rfl, wb⟩ := open_int Tryd.underlying22 (hval 1 22 v1 rfl rfl) h1
  clear hA0
  simp only [List.append_nil] at hW'
  refine (walk a b W (bounds_u64 wa) (bounds_u64 wb) hE).mono fun e W' ⟨he, hb⟩ => ?_
  subst he
  exact ⟨_, rfl, _, _, _, [], [], [], hW', trodAll_cons_mk (shut_bool Tryd.underlying4 _) trodAll_mk0, trodAll_cons_mk (shut_int Tryd.underlying22 wa) (trodAll_cons_mk (shut_int Tryd.underlying22 wb) trodAll_mk0), rfl, hb.frame _, fun h => by cases h⟩

/-- A WORLD FOR THE WITNESS: the settled one, the three tables holding what their initialisers lay. -/
noncomputable def laidWorld (os : Os) : World :=
  { World.holding Tryd.prog os ⟨#[], #[], []⟩ with heap := (((World.holding Tryd.prog os ⟨#[], #[], []⟩).heap.modify 5 (putTab (tab32.map (Value.int .u8)).toArray)).modify 6
      (putTab (tab64.map (Value.int .u8)).toArray)).modify 1 (putTab (Lib.pow10Tab.map (Value.int .u64)).toArray) }
theorem laid_met (os : Os) : laidMet Tryd.prog Rows.numFloatsRow.laid ((laidWorld os).forCall (fun _ _ => 0) ⟨#[], #[.int .u64 0, .int .u64 0], []⟩).memory :=
  laidMet_of_run' 8 (by kernel_rfl) (by kernel_rfl)
theorem reads (os : Os) {H : Type} (enc : TypeId × Value → H) : ∃ places, DataW.whole enc Tryd.prog ((laidWorld os).forCall (fun _ _ => 0) ⟨#[], #[.int .u64 0, .int .u64 0], []⟩).memory Tryd.f6.params.toList Rows.numFloatsSpec.vars false (#[.int .u64 0, .int .u64 0] : Array Value).toList 8 = some ([.lit (.int .u64 0), .lit (.int .u64 0)], [], places) :=
  ⟨[], by kernel_rfl⟩

set_option maxRecDepth 100000 in
theorem lifted (os : Os) (started : os.Started) (H : Type) (enc : TypeId × Value → H) (F : Stop.Interp) :
    ReturnsInHanded {} Tryd.checked os 6 .any ((OpenSpec.ofChange Rows.numFloatsSpec).preRow enc Tryd.prog Tryd.f6 Rows.numFloatsRow.domain false Rows.numFloatsRow.laid) (((OpenSpec.ofChange Rows.numFloatsSpec).at F).post enc Tryd.prog Tryd.f6 false true false false) := by
  obtain ⟨places, hx⟩ := reads os enc
  refine returnsInHanded_of_row (C := Tryd.checked) (s := OpenSpec.ofChange Rows.numFloatsSpec) own started (by kernel_rfl) Tryd.func6
    (witness_row_at (enc := enc) (C := Tryd.checked) false (laidWorld os) #[.int .u64 0, .int .u64 0] rfl (by kernel_rfl) (by kernel_rfl) (by kernel_rfl)
      (OpenSpec.preRow_of_cond 8 hx (by kernel_rfl) (fun k hk => by cases hk) (by kernel_rfl) (laid_met os))) ?_
  intro W base args ds gs before hval hW _ _ _ hL _ _
  exact contract H enc W base args ds gs before hval hW hL

theorem said : Rows.NumFloatsSaid :=
  OpenClaim.holds_of_cond 6 Tryd.f6 rfl rfl rfl rfl rfl rfl rfl ⟨rfl, rfl, rfl, rfl, rfl⟩ rfl rfl rfl rfl rfl (by kernel_rfl) Tryd.func6 (by kernel_rfl)
    (of_decide_eq_true (by kernel_rfl)) (by unfold Func.isWrapper; first | (rw [if_pos (by decide +kernel)]; kernel_rfl) | (rw [if_neg (by decide +kernel)]; exact ⟨rfl, rfl⟩))
    (fun os started H enc _ F => by rw [OpenClaim.pre_eq_preRow]; exact lifted os started H enc F)

/-- No parameter wants a stand-in; the program's own looks are off. -/
theorem plain (f : FuncId) (fn : Func) (hf : Tryd.pinned.checked.prog.funcNamed "treadwheel/treadwheellaw01.NumFloats" = some f) (hfn : Tryd.pinned.checked.prog.funcs[f]? = some fn) :
    true = Tryd.pinned.checked.prog.looks [] ∧ ∀ (j : Nat) t, fn.params[j]? = some t → Tryd.pinned.checked.prog.wantsStandIn t = false := by
  obtain rfl : f = 6 := Option.some.inj ((show Tryd.prog.funcNamed "treadwheel/treadwheellaw01.NumFloats" = some 6 by kernel_rfl).symm.trans hf) |>.symm
  obtain rfl : fn = Tryd.f6 := (Option.some.inj (Tryd.func6.symm.trans hfn)).symm
  refine ⟨by kernel_rfl, fun j t ht => ?_⟩
  rw [Tryd.params6] at ht
  have hm := Array.mem_of_getElem? ht
  simp only [List.mem_toArray, List.mem_cons, List.not_mem_nil, or_false] at hm
  rcases hm with rfl | rfl
  · exact (show Tryd.prog.wantsStandIn 22 = false by kernel_rfl)
  · exact (show Tryd.prog.wantsStandIn 22 = false by kernel_rfl)

/-- THE CARD. -/
theorem card : Rows.NumFloatsCardSaid :=
  Claim7.holds_tied_plain_at .later [] _ _ _ _ said (fun _ h => by cases h) (by kernel_rfl) (fun _ h => by cases h) numFloats_row_tie rfl ⟨rfl, rfl⟩ (by kernel_rfl) rfl plain (by kernel_rfl)
end Go.Proofs.YtkipioojdlkbcaaDoor.numFloats
namespace Go.Proofs.YtkipioojdlkbcaaDoor
theorem numFloats_card : Rows.NumFloatsCardSaid := numFloats.card
end Go.Proofs.YtkipioojdlkbcaaDoor
