/- CellPacks: for any object's kind, size, extra number and mark the statement's function returns true, where the table of links is as the program's text lays it; the argument reads behind the call as before. -/
import Derived.Test.YtpfchfpliljglaaDoorCards
import Derived.Test.YtpfchfpliljglaaDoorTie
import Derived.Test.YtpfchfpliljglaaDoorCeH
namespace Go.Proofs.YtpfchfpliljglaaDoor.cellPacks
open Go.ChangeShapes Go.WideShapes Go.ChangeAt Go.RowKit

theorem own : ownKnob Tryd.prog.godebug = none := by kernel_rfl

set_option maxHeartbeats 1000000 in
theorem walk_bad (ck cs ca cm : Int) (W : World) (hE : Env W) (h : ¬ pe ck cs ca cm = 0) :
    Calls Tryd.prog 3 #[.agg #[.int .i64 ck, .int .i64 cs, .int .i64 ca, .int .i64 cm]] W fun e W' => e = .returned (.bool true) ∧ Below W.heap.size W W' := by
  have hB := (Below.refl W.heap.size W).alloc (Nat.le_refl _) (.cells #[.int .i64 ck, .int .i64 cs, .int .i64 ca, .int .i64 cm] 23)
  have hX := box_new W (.int .i64 ck) (.int .i64 cs) (.int .i64 ca) (.int .i64 cm) 23
  replace hE := hE.below ((Below.refl W.heap.size W).alloc (Nat.le_refl _) (.cells #[.int .i64 ck, .int .i64 cs, .int .i64 ca, .int .i64 cm] 23))
  go_enter Tryd.func3, Tryd.ntmps3
  go_wp2_with fail
  generalize W.alloc (.cells #[.int .i64 ck, .int .i64 cs, .int .i64 ca, .int .i64 cm] 23) = W0 at hB hX hE ⊢
  refine (awake_any _ hE).mono ?_
  rintro e x1 ⟨rfl, hb⟩
  replace hB := onB hB hb
  replace hX := hX.later hb
  clear hb
  clear hE
  obtain ⟨c0, c1, c2, c3, -, -, -, -, hl⟩ := id hX
  go_wp2_with fail
  refine (pack_any ck cs ca cm _).mono ?_
  rintro e x2 ⟨rfl, hb⟩
  replace hB := onB hB hb
  replace hX := hX.later hb
  clear hb
  clear c0 c1 c2 c3 hl
  obtain ⟨c0, c1, c2, c3, -, -, -, -, hl⟩ := id hX
  go_wp2_with fail
  refine (rpack_any ck cs ca cm _).mono ?_
  rintro e x3 ⟨rfl, hb⟩
  replace hB := onB hB hb
  replace hX := hX.later hb
  clear hb
  clear c0 c1 c2 c3 hl
  obtain ⟨c0, c1, c2, c3, -, -, -, -, hl⟩ := id hX
  go_wp2_with fail
  go_ret
  exact ⟨rfl, hB⟩

set_option maxHeartbeats 1000000 in
theorem walk_fit (ck cs ca cm : Int) (W : World) (hE : Env W) (h : pe ck cs ca cm = 0) :
    Calls Tryd.prog 3 #[.agg #[.int .i64 ck, .int .i64 cs, .int .i64 ca, .int .i64 cm]] W fun e W' => e = .returned (.bool true) ∧ Below W.heap.size W W' := by
  have hB := (Below.refl W.heap.size W).alloc (Nat.le_refl _) (.cells #[.int .i64 ck, .int .i64 cs, .int .i64 ca, .int .i64 cm] 23)
  have hX := box_new W (.int .i64 ck) (.int .i64 cs) (.int .i64 ca) (.int .i64 cm) 23
  replace hE := hE.below ((Below.refl W.heap.size W).alloc (Nat.le_refl _) (.cells #[.int .i64 ck, .int .i64 cs, .int .i64 ca, .int .i64 cm] 23))
  have hF := (pe_fit _ _ _ _).1 h
  have HP : Hid (∀ W : World, Calls Tryd.prog 9 #[.agg #[.int .i64 ck, .int .i64 cs, .int .i64 ca, .int .i64 cm]] W fun e w' => e = .returned (.tuple #[.int .i64 (jn ck cs ca cm), .int .i64 0]) ∧ Below W.heap.size W w') := Lib.hid fun W => by
    have hp := pack_any ck cs ca cm W
    rw [pw_ok hF, h] at hp
    exact hp
  have HQ : Hid (∀ W : World, Calls Tryd.prog 10 #[.agg #[.int .i64 ck, .int .i64 cs, .int .i64 ca, .int .i64 cm]] W fun e w' => e = .returned (.tuple #[.int .i64 (jn ck cs ca cm), .int .i64 0]) ∧ Below W.heap.size W w') := Lib.hid fun W => by
    have hp := rpack_any ck cs ca cm W
    rw [pw_ok hF, h] at hp
    exact hp
  have HU : Hid (∀ W : World, Calls Tryd.prog 11 #[.int .i64 (jn ck cs ca cm)] W fun e w' => e = .returned (.tuple #[.agg #[.int .i64 ck, .int .i64 cs, .int .i64 ca, .int .i64 cm], .int .i64 0]) ∧ Below W.heap.size W w') := Lib.hid fun W => by
    obtain ⟨e1, e2, e3, e4⟩ := parts_of hF rfl
    have hp := unpack_word (jn ck cs ca cm) W (by have := jn_range hF; unfold InR; omega) (word_jn hF)
    rw [e1, e2, e3, e4] at hp
    exact hp
  have HEQ := Lib.hid fun W => eq_obj ck cs ca cm ck cs ca cm W
  clear h hF
  generalize jn ck cs ca cm = J at HP HQ HU
  go_enter Tryd.func3, Tryd.ntmps3
  go_wp2_with fail
  generalize W.alloc (.cells #[.int .i64 ck, .int .i64 cs, .int .i64 ca, .int .i64 cm] 23) = W0 at hB hX hE ⊢
  refine (awake_any _ hE).mono ?_
  rintro e x1 ⟨rfl, hb⟩
  replace hB := onB hB hb
  replace hX := hX.later hb
  clear hb
  clear hE
  obtain ⟨c0, c1, c2, c3, -, -, -, -, hl⟩ := id hX
  go_wp2_with fail
  refine (HP.out _).mono ?_
  rintro e x2 ⟨rfl, hb⟩
  replace hB := onB hB hb
  replace hX := hX.later hb
  clear hb
  clear c0 c1 c2 c3 hl
  obtain ⟨c0, c1, c2, c3, -, -, -, -, hl⟩ := id hX
  go_wp2_with fail
  refine (HQ.out _).mono ?_
  rintro e x3 ⟨rfl, hb⟩
  replace hB := onB hB hb
  replace hX := hX.later hb
  clear hb
  clear c0 c1 c2 c3 hl
  obtain ⟨c0, c1, c2, c3, -, -, -, -, hl⟩ := id hX
  go_wp2_with fail
  refine (HU.out _).mono ?_
  rintro e x4 ⟨rfl, hb⟩
  replace hB := onB hB hb
  replace hX := hX.later hb
  clear hb
  clear c0 c1 c2 c3 hl
  obtain ⟨c0, c1, c2, c3, -, -, -, -, hl⟩ := id hX
  have he := HEQ.out
  simp only [beq_self_eq_true, Bool.and_self] at he
  go_wp2_with fail
  go_ret
  exact ⟨rfl, hB.alloc (by omega) _⟩

theorem walk (ck cs ca cm : Int) (W : World) (hE : Env W) (_ : -9223372036854775808 ≤ ck ∧ ck ≤ 9223372036854775807) (_ : -9223372036854775808 ≤ cs ∧ cs ≤ 9223372036854775807)
    (_ : -9223372036854775808 ≤ ca ∧ ca ≤ 9223372036854775807) (_ : -9223372036854775808 ≤ cm ∧ cm ≤ 9223372036854775807) :
    Calls Tryd.prog 3 #[.agg #[.int .i64 ck, .int .i64 cs, .int .i64 ca, .int .i64 cm]] W fun e W' => e = .returned (.bool true) ∧ Below W.heap.size W W' := by
  by_cases h : pe ck cs ca cm = 0
  · exact walk_fit ck cs ca cm W hE h
  · exact walk_bad ck cs ca cm W hE h

set_option maxRecDepth 100000 in
/-- WHAT THE WALK GIVES, FOR EVERY ARGUMENT AND EVERY WORLD THAT HOLDS THE TABLE. -/
theorem contract (H : Type) (enc : TypeId × Value → H) (W : World) (base : Nat) (args : Array Value) (ds gs : List (DataW H)) (before : List MemPlace)
    (hval : ∀ (j : Nat) t v, Tryd.f3.params[j]? = some t → args[j]? = some v → Value.okWide Tryd.prog W .any base t v)
    (hW : DataW.Whole enc Tryd.prog Tryd.f3.params.toList Rows.cellPacksSpec.vars false W args.toList ds gs before) (hL : laidMetH Tryd.prog Rows.cellPacksRow.laid W) :
    Calls Tryd.prog 3 args W fun e W' => ∃ v, e = .returned v ∧ Rows.cellPacksSpec.post enc Tryd.prog Tryd.f3 false true false false W args v W' := by
  have hE : Env W := env_of hL
  have hW' := hW
  obtain ⟨p, q, hA0, hV, rfl, hfz, hnd⟩ := hW
  have hA : DataW.TrodAll enc Tryd.prog W 0 (fun _ => true) true Tryd.f3.params.toList args.toList ds p := hA0
  rw [Tryd.params3] at hA hval
  obtain ⟨v0, vs0, d0, ds0, p0, q0, hargs, rfl, rfl, h0, r0⟩ := trodAll_cons hA
  obtain ⟨rfl, rfl, rfl⟩ := trodAll_nil r0
  obtain rfl : args = #[v0] := by cases args; simp_all
  obtain ⟨rfl, rfl⟩ := trodVars_none hV
  obtain ⟨ck, cs, ca, cm, rfl, rfl, rfl, wck, wcs, wca, wcm⟩ := open_cell (hval 0 23 v0 rfl rfl) h0
  clear hA0
  simp only [List.append_nil] at hW'
  refine (walk ck cs ca cm W hE (bounds_i64 wck) (bounds_i64 wcs) (bounds_i64 wca) (bounds_i64 wcm)).mono fun e W' ⟨he, hb⟩ => ?_
  subst he
  exact ⟨_, rfl, _, _, _, [], [], [], hW', trodAll_cons_mk (shut_bool Tryd.underlying4 _) trodAll_mk0, trodAll_cons_mk (shut_cell wck wcs wca wcm) trodAll_mk0, rfl, hb.frame _, fun h => by cases h⟩

theorem laid_met (os : Os) : laidMet Tryd.prog Rows.cellPacksRow.laid ((laidWorld os).forCall (fun _ _ => 0) ⟨#[], #[.agg #[.int .i64 0, .int .i64 0, .int .i64 0, .int .i64 0]], []⟩).memory :=
  laidMet_of_run' 8 (by kernel_rfl) (by kernel_rfl)
theorem reads (os : Os) {H : Type} (enc : TypeId × Value → H) : ∃ places, DataW.whole enc Tryd.prog ((laidWorld os).forCall (fun _ _ => 0) ⟨#[], #[.agg #[.int .i64 0, .int .i64 0, .int .i64 0, .int .i64 0]], []⟩).memory Tryd.f3.params.toList Rows.cellPacksSpec.vars false (#[.agg #[.int .i64 0, .int .i64 0, .int .i64 0, .int .i64 0]] : Array Value).toList 8 = some ([.agg [.lit (.int .i64 0), .lit (.int .i64 0), .lit (.int .i64 0), .lit (.int .i64 0)]], [], places) :=
  ⟨[], by kernel_rfl⟩

set_option maxRecDepth 100000 in
theorem lifted (os : Os) (started : os.Started) (H : Type) (enc : TypeId × Value → H) (F : Stop.Interp) :
    ReturnsInHanded {} Tryd.checked os 3 .any ((OpenSpec.ofChange Rows.cellPacksSpec).preRow enc Tryd.prog Tryd.f3 Rows.cellPacksRow.domain false Rows.cellPacksRow.laid) (((OpenSpec.ofChange Rows.cellPacksSpec).at F).post enc Tryd.prog Tryd.f3 false true false false) := by
  obtain ⟨places, hx⟩ := reads os enc
  refine returnsInHanded_of_row (C := Tryd.checked) (s := OpenSpec.ofChange Rows.cellPacksSpec) own started (by kernel_rfl) Tryd.func3
    (witness_row_at (enc := enc) (C := Tryd.checked) false (laidWorld os) #[.agg #[.int .i64 0, .int .i64 0, .int .i64 0, .int .i64 0]] rfl (by kernel_rfl) (by kernel_rfl) (by kernel_rfl)
      (OpenSpec.preRow_of_cond 8 hx (by kernel_rfl) (fun k hk => by cases hk) (by kernel_rfl) (laid_met os))) ?_
  intro W base args ds gs before hval hW _ _ _ hL _ _
  exact contract H enc W base args ds gs before hval hW hL

theorem said : Rows.CellPacksSaid :=
  OpenClaim.holds_of_cond 3 Tryd.f3 rfl rfl rfl rfl rfl rfl rfl ⟨rfl, rfl, rfl, rfl, rfl⟩ rfl rfl rfl rfl rfl (by kernel_rfl) Tryd.func3 (by kernel_rfl)
    (of_decide_eq_true (by kernel_rfl)) (by unfold Func.isWrapper; first | (rw [if_pos (by decide +kernel)]; kernel_rfl) | (rw [if_neg (by decide +kernel)]; exact ⟨rfl, rfl⟩))
    (fun os started H enc _ F => by rw [OpenClaim.pre_eq_preRow]; exact lifted os started H enc F)

/-- No parameter wants a stand-in; the program's own looks are off. -/
theorem plain (f : FuncId) (fn : Func) (hf : Tryd.pinned.checked.prog.funcNamed "treadwheel/treadwheellaw04.CellPacks" = some f) (hfn : Tryd.pinned.checked.prog.funcs[f]? = some fn) :
    false = Tryd.pinned.checked.prog.looks [] ∧ ∀ (j : Nat) t, fn.params[j]? = some t → Tryd.pinned.checked.prog.wantsStandIn t = false := by
  obtain rfl : f = 3 := Option.some.inj ((show Tryd.prog.funcNamed "treadwheel/treadwheellaw04.CellPacks" = some 3 by kernel_rfl).symm.trans hf) |>.symm
  obtain rfl : fn = Tryd.f3 := (Option.some.inj (Tryd.func3.symm.trans hfn)).symm
  refine ⟨by kernel_rfl, fun j t ht => ?_⟩
  rw [Tryd.params3] at ht
  have hm := Array.mem_of_getElem? ht
  simp only [List.mem_toArray, List.mem_cons, List.not_mem_nil, or_false] at hm
  subst hm
  · exact (show Tryd.prog.wantsStandIn 23 = false by kernel_rfl)

/-- THE CARD. -/
theorem card : Rows.CellPacksCardSaid :=
  Claim7.holds_tied_plain_at .later [] _ _ _ _ said (fun _ h => by cases h) (by kernel_rfl) (fun _ h => by cases h) cellPacks_row_tie rfl ⟨rfl, rfl⟩ (by kernel_rfl) rfl plain (by kernel_rfl)
end Go.Proofs.YtpfchfpliljglaaDoor.cellPacks
namespace Go.Proofs.YtpfchfpliljglaaDoor
theorem cellPacks_card : Rows.CellPacksCardSaid := cellPacks.card
end Go.Proofs.YtpfchfpliljglaaDoor
