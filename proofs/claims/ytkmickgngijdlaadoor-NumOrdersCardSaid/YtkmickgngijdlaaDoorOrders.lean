/- NumOrders: for all integers of its parameters' kinds the statement's function returns true, where the three tables of the library that it reads are as the program's text lays them; each argument reads behind the call as before. -/
import Derived.Test.YtkmickgngijdlaaDoorCards
import Derived.Test.YtkmickgngijdlaaDoorTie
import Derived.Test.YtkmickgngijdlaaDoorLaw
namespace Go.Proofs.YtkmickgngijdlaaDoor.numOrders
open Go.ChangeShapes Go.WideShapes Go.ChangeAt Go.RowKit

theorem own : ownKnob Tryd.prog.godebug = none := by kernel_rfl

set_option maxRecDepth 100000 in
set_option maxHeartbeats 4000000 in
theorem walk (a b c : Int) (W : World) (ha : -9223372036854775808 ≤ a ∧ a ≤ 9223372036854775807) (hb : -9223372036854775808 ≤ b ∧ b ≤ 9223372036854775807) (hc : -9223372036854775808 ≤ c ∧ c ≤ 9223372036854775807) (hE : Env W) :
    Calls Tryd.prog 8 #[.int .i64 a, .int .i64 b, .int .i64 c] W fun e W' => e = .returned (.bool true) ∧ Below W.heap.size W W' := by
  have Ha : InR a := ha
  have Hb : InR b := hb
  have Hc : InR c := hc
  clear ha hb hc
  have hB := Below.refl W.heap.size W
  have hA := Lib.hid (awake_any W hE)
  clear hE
  go_enter Tryd.func8, Tryd.ntmps8
  go_wp2_with fail
  refine (hA.out).mono ?_
  rintro e x1 ⟨rfl, hb⟩
  replace hB := stepB hB hb
  clear hb
  go_wp2_with fail
  refine (int_U _ _).mono ?_
  rintro e x2 ⟨rfl, hb⟩
  replace hB := stepB hB hb
  clear hb
  go_wp2_with fail
  refine (int_U _ _).mono ?_
  rintro e x3 ⟨rfl, hb⟩
  replace hB := stepB hB hb
  clear hb
  go_wp2_with fail
  refine (test_less a b _ Ha Hb).mono ?_
  rintro e x4 ⟨rfl, hb⟩
  replace hB := stepB hB hb
  clear hb
  go_wp2_with fail
  refine (int_U _ _).mono ?_
  rintro e x5 ⟨rfl, hb⟩
  replace hB := stepB hB hb
  clear hb
  go_wp2_with fail
  refine (int_U _ _).mono ?_
  rintro e x6 ⟨rfl, hb⟩
  replace hB := stepB hB hb
  clear hb
  go_wp2_with fail
  refine (test_less b a _ Hb Ha).mono ?_
  rintro e x7 ⟨rfl, hb⟩
  replace hB := stepB hB hb
  clear hb
  go_wp2_with fail
  refine (int_U _ _).mono ?_
  rintro e x8 ⟨rfl, hb⟩
  replace hB := stepB hB hb
  clear hb
  go_wp2_with fail
  refine (int_U _ _).mono ?_
  rintro e x9 ⟨rfl, hb⟩
  replace hB := stepB hB hb
  clear hb
  go_wp2_with fail
  refine (test_eq a b _ Ha Hb).mono ?_
  rintro e x10 ⟨rfl, hb⟩
  replace hB := stepB hB hb
  clear hb
  go_wp2_with fail
  refine (int_U _ _).mono ?_
  rintro e x11 ⟨rfl, hb⟩
  replace hB := stepB hB hb
  clear hb
  go_wp2_with fail
  refine (int_U _ _).mono ?_
  rintro e x12 ⟨rfl, hb⟩
  replace hB := stepB hB hb
  clear hb
  go_wp2_with fail
  refine (test_less b c _ Hb Hc).mono ?_
  rintro e x13 ⟨rfl, hb⟩
  replace hB := stepB hB hb
  clear hb
  go_wp2_with fail
  refine (int_U _ _).mono ?_
  rintro e x14 ⟨rfl, hb⟩
  replace hB := stepB hB hb
  clear hb
  go_wp2_with fail
  refine (int_U _ _).mono ?_
  rintro e x15 ⟨rfl, hb⟩
  replace hB := stepB hB hb
  clear hb
  go_wp2_with fail
  refine (test_less a c _ Ha Hc).mono ?_
  rintro e x16 ⟨rfl, hb⟩
  replace hB := stepB hB hb
  clear hb
  have cases : (a < b ∧ ¬ b < a ∧ (a == b) = false) ∨ (¬ a < b ∧ b < a ∧ (a == b) = false) ∨ (¬ a < b ∧ ¬ b < a ∧ (a == b) = true) := by
    rcases Int.lt_trichotomy a b with h | h | h
    · exact Or.inl ⟨h, by omega, by simp; omega⟩
    · exact Or.inr (Or.inr ⟨by omega, by omega, by simp [h]⟩)
    · exact Or.inr (Or.inl ⟨by omega, h, by simp; omega⟩)
  have cases2 : (b < c ∧ a < c) ∨ (b < c ∧ ¬ a < c ∧ ¬ a < b) ∨ (¬ b < c ∧ a < c) ∨ (¬ b < c ∧ ¬ a < c) := by omega
  clear Ha Hb Hc hA
  rcases cases with ⟨h1, h2, h3⟩ | ⟨h1, h2, h3⟩ | ⟨h1, h2, h3⟩ <;> rcases cases2 with ⟨k1, k2⟩ | ⟨k1, k2, k3⟩ | ⟨k1, k2⟩ | ⟨k1, k2⟩
  all_goals try (exfalso; exact k3 h1)
  all_goals
    go_wp2
  all_goals
    go_ret
    exact ⟨rfl, hB⟩



set_option maxRecDepth 100000 in
/-- WHAT THE WALK GIVES, FOR EVERY ARGUMENT AND EVERY WORLD THAT HOLDS THE TABLES. -/
theorem contract (H : Type) (enc : TypeId × Value → H) (W : World) (base : Nat) (args : Array Value) (ds gs : List (DataW H)) (before : List MemPlace)
    (hval : ∀ (j : Nat) t v, Tryd.f8.params[j]? = some t → args[j]? = some v → Value.okWide Tryd.prog W .any base t v)
    (hW : DataW.Whole enc Tryd.prog Tryd.f8.params.toList Rows.numOrdersSpec.vars false W args.toList ds gs before) (hL : laidMetH Tryd.prog Rows.numOrdersRow.laid W) :
    Calls Tryd.prog 8 args W fun e W' => ∃ v, e = .returned v ∧ Rows.numOrdersSpec.post enc Tryd.prog Tryd.f8 false true false false W args v W' := by
  have hE : Env W := env_of hL
  have hW' := hW
  obtain ⟨p, q, hA0, hV, rfl, hfz, hnd⟩ := hW
  have hA : DataW.TrodAll enc Tryd.prog W 0 (fun _ => true) true Tryd.f8.params.toList args.toList ds p := hA0
  rw [Tryd.params8] at hA hval
  obtain ⟨v0, vs0, d0, ds0, p0, q0, hargs, rfl, rfl, h0, r0⟩ := trodAll_cons hA
  obtain ⟨v1, vs1, d1, ds1, p1, q1, rfl, rfl, rfl, h1, r1⟩ := trodAll_cons r0
  obtain ⟨v2, vs2, d2, ds2, p2, q2, rfl, rfl, rfl, h2, r2⟩ := trodAll_cons r1
  obtain ⟨rfl, rfl, rfl⟩ := trodAll_nil r2
  obtain rfl : args = #[v0, v1, v2] := by cases args; simp_all
  obtain ⟨rfl, rfl⟩ := trodVars_none hV
  obtain ⟨a, rfl, rfl, rfl, wa⟩ := open_int Tryd.underlying2 (hval 0 2 v0 rfl rfl) h0
  obtain ⟨b, rfl, rfl, rfl, wb⟩ := open_int Tryd.underlying2 (hval 1 2 v1 rfl rfl) h1
  obtain ⟨c, rfl, rfl, rfl, wc⟩ := open_int Tryd.underlying2 (hval 2 2 v2 rfl rfl) h2
  clear hA0
  simp only [List.append_nil] at hW'
  refine (walk a b c W (bounds_i64 wa) (bounds_i64 wb) (bounds_i64 wc) hE).mono fun e W' ⟨he, hb⟩ => ?_
  subst he
  exact ⟨_, rfl, _, _, _, [], [], [], hW', trodAll_cons_mk (shut_bool Tryd.underlying4 _) trodAll_mk0, trodAll_cons_mk (shut_int Tryd.underlying2 wa) (trodAll_cons_mk (shut_int Tryd.underlying2 wb) (trodAll_cons_mk (shut_int Tryd.underlying2 wc) trodAll_mk0)), rfl, hb.frame _, fun h => by cases h⟩

/-- A WORLD FOR THE WITNESS: the settled one, the three tables holding what their initialisers lay. -/
noncomputable def laidWorld (os : Os) : World :=
  { World.holding Tryd.prog os ⟨#[], #[], []⟩ with heap := (((World.holding Tryd.prog os ⟨#[], #[], []⟩).heap.modify 5 (putTab (tab32.map (Value.int .u8)).toArray)).modify 6
      (putTab (tab64.map (Value.int .u8)).toArray)).modify 1 (putTab (Lib.pow10Tab.map (Value.int .u64)).toArray) }
theorem laid_met (os : Os) : laidMet Tryd.prog Rows.numOrdersRow.laid ((laidWorld os).forCall (fun _ _ => 0) ⟨#[], #[.int .i64 0, .int .i64 0, .int .i64 0], []⟩).memory :=
  laidMet_of_run' 8 (by kernel_rfl) (by kernel_rfl)
theorem reads (os : Os) {H : Type} (enc : TypeId × Value → H) : ∃ places, DataW.whole enc Tryd.prog ((laidWorld os).forCall (fun _ _ => 0) ⟨#[], #[.int .i64 0, .int .i64 0, .int .i64 0], []⟩).memory Tryd.f8.params.toList Rows.numOrdersSpec.vars false (#[.int .i64 0, .int .i64 0, .int .i64 0] : Array Value).toList 8 = some ([.lit (.int .i64 0), .lit (.int .i64 0), .lit (.int .i64 0)], [], places) :=
  ⟨[], by kernel_rfl⟩

set_option maxRecDepth 100000 in
theorem lifted (os : Os) (started : os.Started) (H : Type) (enc : TypeId × Value → H) (F : Stop.Interp) :
    ReturnsInHanded {} Tryd.checked os 8 .any ((OpenSpec.ofChange Rows.numOrdersSpec).preRow enc Tryd.prog Tryd.f8 Rows.numOrdersRow.domain false Rows.numOrdersRow.laid) (((OpenSpec.ofChange Rows.numOrdersSpec).at F).post enc Tryd.prog Tryd.f8 false true false false) := by
  obtain ⟨places, hx⟩ := reads os enc
  refine returnsInHanded_of_row (C := Tryd.checked) (s := OpenSpec.ofChange Rows.numOrdersSpec) own started (by kernel_rfl) Tryd.func8
    (witness_row_at (enc := enc) (C := Tryd.checked) false (laidWorld os) #[.int .i64 0, .int .i64 0, .int .i64 0] rfl (by kernel_rfl) (by kernel_rfl) (by kernel_rfl)
      (OpenSpec.preRow_of_cond 8 hx (by kernel_rfl) (fun k hk => by cases hk) (by kernel_rfl) (laid_met os))) ?_
  intro W base args ds gs before hval hW _ _ _ hL _ _
  exact contract H enc W base args ds gs before hval hW hL

theorem said : Rows.NumOrdersSaid :=
  OpenClaim.holds_of_cond 8 Tryd.f8 rfl rfl rfl rfl rfl rfl rfl ⟨rfl, rfl, rfl, rfl, rfl⟩ rfl rfl rfl rfl rfl (by kernel_rfl) Tryd.func8 (by kernel_rfl)
    (of_decide_eq_true (by kernel_rfl)) (by unfold Func.isWrapper; first | (rw [if_pos (by decide +kernel)]; kernel_rfl) | (rw [if_neg (by decide +kernel)]; exact ⟨rfl, rfl⟩))
    (fun os started H enc _ F => by rw [OpenClaim.pre_eq_preRow]; exact lifted os started H enc F)

/-- No parameter wants a stand-in; the program's own looks are off. -/
theorem plain (f : FuncId) (fn : Func) (hf : Tryd.pinned.checked.prog.funcNamed "treadwheel/treadwheellaw01.NumOrders" = some f) (hfn : Tryd.pinned.checked.prog.funcs[f]? = some fn) :
    true = Tryd.pinned.checked.prog.looks [] ∧ ∀ (j : Nat) t, fn.params[j]? = some t → Tryd.pinned.checked.prog.wantsStandIn t = false := by
  obtain rfl : f = 8 := Option.some.inj ((show Tryd.prog.funcNamed "treadwheel/treadwheellaw01.NumOrders" = some 8 by kernel_rfl).symm.trans hf) |>.symm
  obtain rfl : fn = Tryd.f8 := (Option.some.inj (Tryd.func8.symm.trans hfn)).symm
  refine ⟨by kernel_rfl, fun j t ht => ?_⟩
  rw [Tryd.params8] at ht
  have hm := Array.mem_of_getElem? ht
  simp only [List.mem_toArray, List.mem_cons, List.not_mem_nil, or_false] at hm
  rcases hm with rfl | rfl | rfl
  · exact (show Tryd.prog.wantsStandIn 2 = false by kernel_rfl)
  · exact (show Tryd.prog.wantsStandIn 2 = false by kernel_rfl)
  · exact (show Tryd.prog.wantsStandIn 2 = false by kernel_rfl)

/-- THE CARD. -/
theorem card : Rows.NumOrdersCardSaid :=
  Claim7.holds_tied_plain_at .later [] _ _ _ _ said (fun _ h => by cases h) (by kernel_rfl) (fun _ h => by cases h) numOrders_row_tie rfl ⟨rfl, rfl⟩ (by kernel_rfl) rfl plain (by kernel_rfl)
end Go.Proofs.YtkmickgngijdlaaDoor.numOrders
namespace Go.Proofs.YtkmickgngijdlaaDoor
theorem numOrders_card : Rows.NumOrdersCardSaid := numOrders.card
end Go.Proofs.YtkmickgngijdlaaDoor
