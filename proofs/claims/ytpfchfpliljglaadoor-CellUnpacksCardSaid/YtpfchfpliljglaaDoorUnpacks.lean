/- CellUnpacks: for any word of 64 bits the statement's function returns true, where the table of links is as the program's text lays it; the argument reads behind the call as before. -/
import Derived.Test.YtpfchfpliljglaaDoorCards
import Derived.Test.YtpfchfpliljglaaDoorTie
import Derived.Test.YtpfchfpliljglaaDoorCeH
import Derived.Test.YtpfchfpliljglaaDoorCeE
namespace Go.Proofs.YtpfchfpliljglaaDoor.cellUnpacks
open Go.ChangeShapes Go.WideShapes Go.ChangeAt Go.RowKit

theorem own : ownKnob Tryd.prog.godebug = none := by kernel_rfl

set_option maxHeartbeats 1000000 in
theorem walk_word (n : Int) (W : World) (hE : Env W) (hn : InR n) (h : Word n) :
    Calls Tryd.prog 4 #[.int .i64 n] W fun e W' => e = .returned (.bool true) ∧ Below W.heap.size W W' := by
  have hB := Below.refl W.heap.size W
  have HU : Hid (∀ W : World, Calls Tryd.prog 11 #[.int .i64 n] W fun e w' => e = .returned (.tuple #[.agg #[.int .i64 (kb n), .int .i64 (sb n), .int .i64 (ab n), .int .i64 (mb n)], .int .i64 0]) ∧ Below W.heap.size W w') := Lib.hid fun W => unpack_word n W hn h
  have HR : Hid (∀ W : World, Calls Tryd.prog 12 #[.int .i64 n] W fun e w' => e = .returned (.tuple #[.agg #[.int .i64 (kb n), .int .i64 (sb n), .int .i64 (ab n), .int .i64 (mb n)], .int .i64 0]) ∧ Below W.heap.size W w') := Lib.hid fun W => runpack_word n W h
  have HP : Hid (∀ W : World, Calls Tryd.prog 9 #[.agg #[.int .i64 (kb n), .int .i64 (sb n), .int .i64 (ab n), .int .i64 (mb n)]] W fun e w' => e = .returned (.tuple #[.int .i64 n, .int .i64 0]) ∧ Below W.heap.size W w') := Lib.hid fun W => by
    have hp := pack_any (kb n) (sb n) (ab n) (mb n) W
    rw [pe_word h, pw_word h] at hp
    exact hp
  clear hn h
  go_enter Tryd.func4, Tryd.ntmps4
  go_wp2_with fail
  refine (awake_any _ hE).mono ?_
  rintro e x1 ⟨rfl, hb⟩
  replace hB := onB hB hb
  clear hb
  clear hE
  go_wp2_with fail
  refine (HU.out _).mono ?_
  rintro e x2 ⟨rfl, hb⟩
  replace hB := onB hB hb
  clear hb
  go_wp2_with fail
  have hX := box_new x2 (.int .i64 (kb n)) (.int .i64 (sb n)) (.int .i64 (ab n)) (.int .i64 (mb n)) 23
  replace hB := hB.alloc hB.size (.cells #[.int .i64 (kb n), .int .i64 (sb n), .int .i64 (ab n), .int .i64 (mb n)] 23)
  refine (HR.out _).mono ?_
  rintro e x3 ⟨rfl, hb⟩
  replace hB := onB hB hb
  replace hX := hX.later hb
  clear hb
  obtain ⟨c0, c1, c2, c3, -, -, -, -, hl⟩ := id hX
  go_wp2_with fail
  replace hB := hB.alloc hB.size (.cells #[.int .i64 (kb n), .int .i64 (sb n), .int .i64 (ab n), .int .i64 (mb n)] 30)
  refine (HP.out _).mono ?_
  rintro e x4 ⟨rfl, hb⟩
  replace hB := onB hB hb
  clear hb
  go_wp2_with fail
  go_ret
  exact ⟨rfl, hB⟩

set_option maxHeartbeats 1000000 in
theorem walk_none (n : Int) (W : World) (hE : Env W) (hn : InR n) (h : ¬ Word n) :
    Calls Tryd.prog 4 #[.int .i64 n] W fun e W' => e = .returned (.bool true) ∧ Below W.heap.size W W' := by
  have hB := Below.refl W.heap.size W
  have HU : Hid (∀ W : World, Calls Tryd.prog 11 #[.int .i64 n] W fun e w' => e = .returned (.tuple #[.agg #[.int .i64 0, .int .i64 0, .int .i64 0, .int .i64 0], .int .i64 3]) ∧ Below W.heap.size W w') := Lib.hid fun W => unpack_none n W hn h
  have HR : Hid (∀ W : World, Calls Tryd.prog 12 #[.int .i64 n] W fun e w' => e = .returned (.tuple #[.agg #[.int .i64 0, .int .i64 0, .int .i64 0, .int .i64 0], .int .i64 3]) ∧ Below W.heap.size W w') := Lib.hid fun W => runpack_none n W h hn.2
  clear hn h
  go_enter Tryd.func4, Tryd.ntmps4
  go_wp2_with fail
  refine (awake_any _ hE).mono ?_
  rintro e x1 ⟨rfl, hb⟩
  replace hB := onB hB hb
  clear hb
  clear hE
  go_wp2_with fail
  refine (HU.out _).mono ?_
  rintro e x2 ⟨rfl, hb⟩
  replace hB := onB hB hb
  clear hb
  go_wp2_with fail
  have hX := box_new x2 (.int .i64 0) (.int .i64 0) (.int .i64 0) (.int .i64 0) 23
  replace hB := hB.alloc hB.size (.cells #[.int .i64 0, .int .i64 0, .int .i64 0, .int .i64 0] 23)
  refine (HR.out _).mono ?_
  rintro e x3 ⟨rfl, hb⟩
  replace hB := onB hB hb
  replace hX := hX.later hb
  clear hb
  obtain ⟨c0, c1, c2, c3, -, -, -, -, hl⟩ := id hX
  go_wp2_with fail
  go_ret
  exact ⟨rfl, hB.alloc hB.size _⟩

theorem walk (n : Int) (W : World) (hE : Env W) (hn : -9223372036854775808 ≤ n ∧ n ≤ 9223372036854775807) :
    Calls Tryd.prog 4 #[.int .i64 n] W fun e W' => e = .returned (.bool true) ∧ Below W.heap.size W W' := by
  by_cases h : Word n
  · exact walk_word n W hE hn h
  · exact walk_none n W hE hn h

set_option maxRecDepth 100000 in
/-- WHAT THE WALK GIVES, FOR EVERY ARGUMENT AND EVERY WORLD THAT HOLDS THE TABLE. -/
theorem contract (H : Type) (enc : TypeId × Value → H) (W : World) (base : Nat) (args : Array Value) (ds gs : List (DataW H)) (before : List MemPlace)
    (hval : ∀ (j : Nat) t v, Tryd.f4.params[j]? = some t → args[j]? = some v → Value.okWide Tryd.prog W .any base t v)
    (hW : DataW.Whole enc Tryd.prog Tryd.f4.params.toList Rows.cellUnpacksSpec.vars false W args.toList ds gs before) (hL : laidMetH Tryd.prog Rows.cellUnpacksRow.laid W) :
    Calls Tryd.prog 4 args W fun e W' => ∃ v, e = .returned v ∧ Rows.cellUnpacksSpec.post enc Tryd.prog Tryd.f4 false true false false W args v W' := by
  have hE : Env W := env_of hL
  have hW' := hW
  obtain ⟨p, q, hA0, hV, rfl, hfz, hnd⟩ := hW
  have hA : DataW.TrodAll enc Tryd.prog W 0 (fun _ => true) true Tryd.f4.params.toList args.toList ds p := hA0
  rw [Tryd.params4] at hA hval
  obtain ⟨v0, vs0, d0, ds0, p0, q0, hargs, rfl, rfl, h0, r0⟩ := trodAll_cons hA
  obtain ⟨rfl, rfl, rfl⟩ := trodAll_nil r0
  obtain rfl : args = #[v0] := by cases args; simp_all
  obtain ⟨rfl, rfl⟩ := trodVars_none hV
  obtain ⟨n, rfl, rfl, rfl, wn⟩ := open_int Tryd.underlying2 (hval 0 2 v0 rfl rfl) h0
  clear hA0
  simp only [List.append_nil] at hW'
  refine (walk n W hE (bounds_i64 wn)).mono fun e W' ⟨he, hb⟩ => ?_
  subst he
  exact ⟨_, rfl, _, _, _, [], [], [], hW', trodAll_cons_mk (shut_bool Tryd.underlying4 _) trodAll_mk0, trodAll_cons_mk (shut_int Tryd.underlying2 wn) trodAll_mk0, rfl, hb.frame _, fun h => by cases h⟩

theorem laid_met (os : Os) : laidMet Tryd.prog Rows.cellUnpacksRow.laid ((laidWorld os).forCall (fun _ _ => 0) ⟨#[], #[.int .i64 0], []⟩).memory :=
  laidMet_of_run' 8 (by kernel_rfl) (by kernel_rfl)
theorem reads (os : Os) {H : Type} (enc : TypeId × Value → H) : ∃ places, DataW.whole enc Tryd.prog ((laidWorld os).forCall (fun _ _ => 0) ⟨#[], #[.int .i64 0], []⟩).memory Tryd.f4.params.toList Rows.cellUnpacksSpec.vars false (#[.int .i64 0] : Array Value).toList 8 = some ([.lit (.int .i64 0)], [], places) :=
  ⟨[], by kernel_rfl⟩

set_option maxRecDepth 100000 in
theorem lifted (os : Os) (started : os.Started) (H : Type) (enc : TypeId × Value → H) (F : Stop.Interp) :
    ReturnsInHanded {} Tryd.checked os 4 .any ((OpenSpec.ofChange Rows.cellUnpacksSpec).preRow enc Tryd.prog Tryd.f4 Rows.cellUnpacksRow.domain false Rows.cellUnpacksRow.laid) (((OpenSpec.ofChange Rows.cellUnpacksSpec).at F).post enc Tryd.prog Tryd.f4 false true false false) := by
  obtain ⟨places, hx⟩ := reads os enc
  refine returnsInHanded_of_row (C := Tryd.checked) (s := OpenSpec.ofChange Rows.cellUnpacksSpec) own started (by kernel_rfl) Tryd.func4
    (witness_row_at (enc := enc) (C := Tryd.checked) false (laidWorld os) #[.int .i64 0] rfl (by kernel_rfl) (by kernel_rfl) (by kernel_rfl)
      (OpenSpec.preRow_of_cond 8 hx (by kernel_rfl) (fun k hk => by cases hk) (by kernel_rfl) (laid_met os))) ?_
  intro W base args ds gs before hval hW _ _ _ hL _ _
  exact contract H enc W base args ds gs before hval hW hL

theorem said : Rows.CellUnpacksSaid :=
  OpenClaim.holds_of_cond 4 Tryd.f4 rfl rfl rfl rfl rfl rfl rfl ⟨rfl, rfl, rfl, rfl, rfl⟩ rfl rfl rfl rfl rfl (by kernel_rfl) Tryd.func4 (by kernel_rfl)
    (of_decide_eq_true (by kernel_rfl)) (by unfold Func.isWrapper; first | (rw [if_pos (by decide +kernel)]; kernel_rfl) | (rw [if_neg (by decide +kernel)]; exact ⟨rfl, rfl⟩))
    (fun os started H enc _ F => by rw [OpenClaim.pre_eq_preRow]; exact lifted os started H enc F)

/-- No parameter wants a stand-in; the program's own looks are off. -/
theorem plain (f : FuncId) (fn : Func) (hf : Tryd.pinned.checked.prog.funcNamed "treadwheel/treadwheellaw04.CellUnpacks" = some f) (hfn : Tryd.pinned.checked.prog.funcs[f]? = some fn) :
    false = Tryd.pinned.checked.prog.looks [] ∧ ∀ (j : Nat) t, fn.params[j]? = some t → Tryd.pinned.checked.prog.wantsStandIn t = false := by
  obtain rfl : f = 4 := Option.some.inj ((show Tryd.prog.funcNamed "treadwheel/treadwheellaw04.CellUnpacks" = some 4 by kernel_rfl).symm.trans hf) |>.symm
  obtain rfl : fn = Tryd.f4 := (Option.some.inj (Tryd.func4.symm.trans hfn)).symm
  refine ⟨by kernel_rfl, fun j t ht => ?_⟩
  rw [Tryd.params4] at ht
  have hm := Array.mem_of_getElem? ht
  simp only [List.mem_toArray, List.mem_cons, List.not_mem_nil, or_false] at hm
  subst hm
  · exact (show Tryd.prog.wantsStandIn 2 = false by kernel_rfl)

/-- THE CARD. -/
theorem card : Rows.CellUnpacksCardSaid :=
  Claim7.holds_tied_plain_at .later [] _ _ _ _ said (fun _ h => by cases h) (by kernel_rfl) (fun _ h => by cases h) cellUnpacks_row_tie rfl ⟨rfl, rfl⟩ (by kernel_rfl) rfl plain (by kernel_rfl)
end Go.Proofs.YtpfchfpliljglaaDoor.cellUnpacks
namespace Go.Proofs.YtpfchfpliljglaaDoor
theorem cellUnpacks_card : Rows.CellUnpacksCardSaid := cellUnpacks.card
end Go.Proofs.YtpfchfpliljglaaDoor
