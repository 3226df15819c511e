/- CellApart: for any two objects' kinds, sizes, extra numbers and marks the statement's function returns true, where the table of links is as the program's text lays it; each argument reads behind the call as before. -/
import Derived.Test.YtpfchfpliljglaaDoorCards
import Derived.Test.YtpfchfpliljglaaDoorTie
import Derived.Test.YtpfchfpliljglaaDoorCeH
import Derived.Test.YtpfchfpliljglaaDoorCeE
namespace Go.Proofs.YtpfchfpliljglaaDoor.cellApart
open Go.ChangeShapes Go.WideShapes Go.ChangeAt Go.RowKit

theorem own : ownKnob Tryd.prog.godebug = none := by kernel_rfl

set_option maxHeartbeats 2000000 in
theorem walk_bad (xk xs xa xm yk ys ya ym : Int) (W : World) (hE : Env W) (h : ¬ pe xk xs xa xm = 0) :
    Calls Tryd.prog 6 #[.agg #[.int .i64 xk, .int .i64 xs, .int .i64 xa, .int .i64 xm], .agg #[.int .i64 yk, .int .i64 ys, .int .i64 ya, .int .i64 ym]] W fun e W' => e = .returned (.bool true) ∧ Below W.heap.size W W' := by
  have hX := (box_new W (.int .i64 xk) (.int .i64 xs) (.int .i64 xa) (.int .i64 xm) 23).alloc (.cells #[.int .i64 yk, .int .i64 ys, .int .i64 ya, .int .i64 ym] 23)
  have hY : Box ((W.alloc (.cells #[.int .i64 xk, .int .i64 xs, .int .i64 xa, .int .i64 xm] 23)).alloc (.cells #[.int .i64 yk, .int .i64 ys, .int .i64 ya, .int .i64 ym] 23)) (W.heap.size + 1) (.int .i64 yk) (.int .i64 ys) (.int .i64 ya) (.int .i64 ym) := by
    simpa using box_new (W.alloc (.cells #[.int .i64 xk, .int .i64 xs, .int .i64 xa, .int .i64 xm] 23)) (.int .i64 yk) (.int .i64 ys) (.int .i64 ya) (.int .i64 ym) 23
  have hB := ((Below.refl W.heap.size W).alloc (Nat.le_refl _) (.cells #[.int .i64 xk, .int .i64 xs, .int .i64 xa, .int .i64 xm] 23)).alloc (by simp) (.cells #[.int .i64 yk, .int .i64 ys, .int .i64 ya, .int .i64 ym] 23)
  replace hE := (hE.below ((Below.refl W.heap.size W).alloc (Nat.le_refl _) (.cells #[.int .i64 xk, .int .i64 xs, .int .i64 xa, .int .i64 xm] 23))).below ((Below.refl _ _).alloc (Nat.le_refl _) (.cells #[.int .i64 yk, .int .i64 ys, .int .i64 ya, .int .i64 ym] 23))
  have HP := Lib.hid fun W => pack_any xk xs xa xm W
  have HQ := Lib.hid fun W => pack_any yk ys ya ym W
  generalize pe xk xs xa xm = q at h HP
  generalize pe yk ys ya ym = q' at HQ
  go_enter Tryd.func6, Tryd.ntmps6
  go_wp2_with fail
  generalize (W.alloc (.cells #[.int .i64 xk, .int .i64 xs, .int .i64 xa, .int .i64 xm] 23)).alloc (.cells #[.int .i64 yk, .int .i64 ys, .int .i64 ya, .int .i64 ym] 23) = W0 at hB hX hY hE ⊢
  refine (awake_any _ hE).mono ?_
  rintro e x1 ⟨rfl, hb⟩
  replace hB := onB hB hb
  replace hX := hX.later hb
  replace hY := hY.later hb
  clear hb
  obtain ⟨c0, c1, c2, c3, f0, f1, f2, f3, hl⟩ := id hX
  obtain ⟨d0, d1, d2, d3, -, -, -, -, dl⟩ := id hY
  clear f0 f1 f2
  go_wp2_with fail
  clear f3
  refine (HP.out _).mono ?_
  rintro e x2 ⟨rfl, hb⟩
  replace hB := onB hB hb
  replace hX := hX.later hb
  replace hY := hY.later hb
  clear hb
  clear c0 c1 c2 c3 hl d0 d1 d2 d3 dl
  obtain ⟨c0, c1, c2, c3, f0, f1, f2, f3, hl⟩ := id hX
  obtain ⟨d0, d1, d2, d3, -, -, -, -, dl⟩ := id hY
  clear f0 f1 f2
  go_wp2_with fail
  clear f3
  refine (HQ.out _).mono ?_
  rintro e x3 ⟨rfl, hb⟩
  replace hB := onB hB hb
  replace hX := hX.later hb
  replace hY := hY.later hb
  clear hb
  clear c0 c1 c2 c3 hl d0 d1 d2 d3 dl
  obtain ⟨c0, c1, c2, c3, f0, f1, f2, f3, hl⟩ := id hX
  obtain ⟨d0, d1, d2, d3, -, -, -, -, dl⟩ := id hY
  clear f0 f1 f2
  go_wp2_with fail
  clear f3
  go_ret
  exact ⟨rfl, hB⟩

set_option maxHeartbeats 4000000 in
theorem walk_mid (xk xs xa xm yk ys ya ym J Y Z q : Int) (B : Bool) (W : World) (hE : Env W)
    (hP : ∀ W : World, Calls Tryd.prog 9 #[.agg #[.int .i64 xk, .int .i64 xs, .int .i64 xa, .int .i64 xm]] W fun e w' => e = .returned (.tuple #[.int .i64 J, .int .i64 0]) ∧ Below W.heap.size W w')
    (hQ : ∀ W : World, Calls Tryd.prog 9 #[.agg #[.int .i64 yk, .int .i64 ys, .int .i64 ya, .int .i64 ym]] W fun e w' => e = .returned (.tuple #[.int .i64 Y, .int .i64 q]) ∧ Below W.heap.size W w')
    (hR : ∀ W : World, Calls Tryd.prog 9 #[.agg #[.int .i64 xk, .int .i64 xs, .int .i64 xa, .int .i64 (1 - xm)]] W fun e w' => e = .returned (.tuple #[.int .i64 Z, .int .i64 0]) ∧ Below W.heap.size W w')
    (hQE : ∀ W : World, (Op.equalIn 10000 23 (.agg #[.int .i64 xk, .int .i64 xs, .int .i64 xa, .int .i64 xm]) (.agg #[.int .i64 yk, .int .i64 ys, .int .i64 ya, .int .i64 ym])).run Tryd.prog W = .ok B W)
    (hz : 0 ≤ Z ∧ Z < 17179869184) (hj : 0 ≤ J ∧ J < 17179869184)
    (hm : (xm = 0 ∧ Z = J + 16) ∨ (xm = 1 ∧ J = Z + 16)) (hq : ¬ q = 0 ∨ (q = 0 ∧ J = Y ∧ B = true) ∨ (q = 0 ∧ ¬ J = Y ∧ B = false)) :
    Calls Tryd.prog 6 #[.agg #[.int .i64 xk, .int .i64 xs, .int .i64 xa, .int .i64 xm], .agg #[.int .i64 yk, .int .i64 ys, .int .i64 ya, .int .i64 ym]] W fun e W' => e = .returned (.bool true) ∧ Below W.heap.size W W' := by
  have hX := (box_new W (.int .i64 xk) (.int .i64 xs) (.int .i64 xa) (.int .i64 xm) 23).alloc (.cells #[.int .i64 yk, .int .i64 ys, .int .i64 ya, .int .i64 ym] 23)
  have hY : Box ((W.alloc (.cells #[.int .i64 xk, .int .i64 xs, .int .i64 xa, .int .i64 xm] 23)).alloc (.cells #[.int .i64 yk, .int .i64 ys, .int .i64 ya, .int .i64 ym] 23)) (W.heap.size + 1) (.int .i64 yk) (.int .i64 ys) (.int .i64 ya) (.int .i64 ym) := by
    simpa using box_new (W.alloc (.cells #[.int .i64 xk, .int .i64 xs, .int .i64 xa, .int .i64 xm] 23)) (.int .i64 yk) (.int .i64 ys) (.int .i64 ya) (.int .i64 ym) 23
  have hB := ((Below.refl W.heap.size W).alloc (Nat.le_refl _) (.cells #[.int .i64 xk, .int .i64 xs, .int .i64 xa, .int .i64 xm] 23)).alloc (by simp) (.cells #[.int .i64 yk, .int .i64 ys, .int .i64 ya, .int .i64 ym] 23)
  replace hE := (hE.below ((Below.refl W.heap.size W).alloc (Nat.le_refl _) (.cells #[.int .i64 xk, .int .i64 xs, .int .i64 xa, .int .i64 xm] 23))).below ((Below.refl _ _).alloc (Nat.le_refl _) (.cells #[.int .i64 yk, .int .i64 ys, .int .i64 ya, .int .i64 ym] 23))
  have HP := Lib.hid hP
  have HQ := Lib.hid hQ
  have HR := Lib.hid hR
  have HQE := Lib.hid hQE
  clear hP hQ hR hQE
  obtain ⟨z0, z1⟩ := hz
  obtain ⟨j0, j1⟩ := hj
  rcases hm with ⟨rfl, rfl⟩ | ⟨rfl, rfl⟩ <;> rcases hq with gq | ⟨rfl, rfl, rfl⟩ | ⟨rfl, gy, rfl⟩
  all_goals
    go_enter Tryd.func6, Tryd.ntmps6
    go_wp2_with fail
    generalize (W.alloc (.cells #[.int .i64 xk, .int .i64 xs, .int .i64 xa, .int .i64 _] 23)).alloc (.cells #[.int .i64 yk, .int .i64 ys, .int .i64 ya, .int .i64 ym] 23) = W0 at hB hX hY hE ⊢
    refine (awake_any _ hE).mono ?_
    rintro e x1 ⟨rfl, hb⟩
    replace hB := onB hB hb
    replace hX := hX.later hb
    replace hY := hY.later hb
    clear hb
    clear hE
    obtain ⟨c0, c1, c2, c3, f0, f1, f2, f3, hl⟩ := id hX
    obtain ⟨d0, d1, d2, d3, -, -, -, -, dl⟩ := id hY
    clear f0 f1 f2
    go_wp2_with fail
    clear f3
    refine (HP.out _).mono ?_
    rintro e x2 ⟨rfl, hb⟩
    replace hB := onB hB hb
    replace hX := hX.later hb
    replace hY := hY.later hb
    clear hb
    clear c0 c1 c2 c3 hl d0 d1 d2 d3 dl
    obtain ⟨c0, c1, c2, c3, f0, f1, f2, f3, hl⟩ := id hX
    obtain ⟨d0, d1, d2, d3, -, -, -, -, dl⟩ := id hY
    clear f0 f1 f2
    go_wp2_with fail
    clear f3
    refine (HQ.out _).mono ?_
    rintro e x3 ⟨rfl, hb⟩
    replace hB := onB hB hb
    replace hX := hX.later hb
    replace hY := hY.later hb
    clear hb
    have he := HQE.out
    clear c0 c1 c2 c3 hl d0 d1 d2 d3 dl
    obtain ⟨c0, c1, c2, c3, f0, f1, f2, f3, hl⟩ := id hX
    obtain ⟨d0, d1, d2, d3, -, -, -, -, dl⟩ := id hY
    clear f0 f1 f2
    go_wp2_with fail
    clear f3
    clear he
    refine (HR.out _).mono ?_
    rintro e x4 ⟨rfl, hb⟩
    replace hB := onB (hB.setCell (Nat.le_refl _) _) hb
    clear hb
    go_wp2_with fail
    go_ret
    refine ⟨?_, hB⟩
    first
      | rfl
      | (show Ending.returned (.bool (_ || (Z + 16 - Z == 16))) = _
         rw [show Z + 16 - Z = 16 by omega]
         simp)

theorem walk (xk xs xa xm yk ys ya ym : Int) (W : World) (hE : Env W) (_ : -9223372036854775808 ≤ xk ∧ xk ≤ 9223372036854775807) (_ : -9223372036854775808 ≤ xs ∧ xs ≤ 9223372036854775807) (_ : -9223372036854775808 ≤ xa ∧ xa ≤ 9223372036854775807) (_ : -9223372036854775808 ≤ xm ∧ xm ≤ 9223372036854775807) (_ : -9223372036854775808 ≤ yk ∧ yk ≤ 9223372036854775807) (_ : -9223372036854775808 ≤ ys ∧ ys ≤ 9223372036854775807) (_ : -9223372036854775808 ≤ ya ∧ ya ≤ 9223372036854775807) (_ : -9223372036854775808 ≤ ym ∧ ym ≤ 9223372036854775807) :
    Calls Tryd.prog 6 #[.agg #[.int .i64 xk, .int .i64 xs, .int .i64 xa, .int .i64 xm], .agg #[.int .i64 yk, .int .i64 ys, .int .i64 ya, .int .i64 ym]] W fun e W' => e = .returned (.bool true) ∧ Below W.heap.size W W' := by
  by_cases h : pe xk xs xa xm = 0
  · have hF := (pe_fit _ _ _ _).1 h
    have hG : Fit xk xs xa (1 - xm) := by unfold Fit at hF ⊢; omega
    refine walk_mid xk xs xa xm yk ys ya ym (jn xk xs xa xm) (pw yk ys ya ym) (jn xk xs xa (1 - xm)) (pe yk ys ya ym) (xk == yk && xs == ys && xa == ya && xm == ym) W hE (fun W => ?_) (fun W => pack_any yk ys ya ym W) (fun W => ?_)
      (fun W => eq_obj xk xs xa xm yk ys ya ym W) (jn_range hG) (jn_range hF) ?_ ?_
    · have hp := pack_any xk xs xa xm W
      rw [pw_ok hF, h] at hp
      exact hp
    · have hp := pack_any xk xs xa (1 - xm) W
      rw [pw_ok hG, pe_ok hG] at hp
      exact hp
    · unfold Fit at hF
      unfold jn
      omega
    · by_cases hq : pe yk ys ya ym = 0
      · have hH := (pe_fit _ _ _ _).1 hq
        rw [pw_ok hH]
        by_cases hj : jn xk xs xa xm = jn yk ys ya ym
        · obtain ⟨rfl, rfl, rfl, rfl⟩ := jn_inj hF hH hj
          exact .inr (.inl ⟨hq, rfl, by simp⟩)
        · refine .inr (.inr ⟨hq, hj, ?_⟩)
          rw [Bool.eq_false_iff]
          intro hb
          simp only [Bool.and_eq_true, beq_iff_eq, and_assoc] at hb
          obtain ⟨rfl, rfl, rfl, rfl⟩ := hb
          exact hj rfl
      · exact .inl hq
  · exact walk_bad xk xs xa xm yk ys ya ym W hE h

set_option maxRecDepth 100000 in
/-- WHAT THE WALK GIVES, FOR EVERY ARGUMENT AND EVERY WORLD THAT HOLDS THE TABLE. -/
theorem contract (H : Type) (enc : TypeId × Value → H) (W : World) (base : Nat) (args : Array Value) (ds gs : List (DataW H)) (before : List MemPlace)
    (hval : ∀ (j : Nat) t v, Tryd.f6.params[j]? = some t → args[j]? = some v → Value.okWide Tryd.prog W .any base t v)
    (hW : DataW.Whole enc Tryd.prog Tryd.f6.params.toList Rows.cellApartSpec.vars false W args.toList ds gs before) (hL : laidMetH Tryd.prog Rows.cellApartRow.laid W) :
    Calls Tryd.prog 6 args W fun e W' => ∃ v, e = .returned v ∧ Rows.cellApartSpec.post enc Tryd.prog Tryd.f6 false true false false W args v W' := by
  have hE : Env W := env_of hL
  have hW' := hW
  obtain ⟨p, q, hA0, hV, rfl, hfz, hnd⟩ := hW
  have hA : DataW.TrodAll enc Tryd.prog W 0 (fun _ => true) true Tryd.f6.params.toList args.toList ds p := hA0
  rw [Tryd.params6] at hA hval
  obtain ⟨v0, vs0, d0, ds0, p0, q0, hargs, rfl, rfl, h0, r0⟩ := trodAll_cons hA
  obtain ⟨v1, vs1, d1, ds1, p1, q1, rfl, rfl, rfl, h1, r1⟩ := trodAll_cons r0
  obtain ⟨rfl, rfl, rfl⟩ := trodAll_nil r1
  obtain rfl : args = #[v0, v1] := by cases args; simp_all
  obtain ⟨rfl, rfl⟩ := trodVars_none hV
  obtain ⟨xk, xs, xa, xm, rfl, rfl, rfl, wxk, wxs, wxa, wxm⟩ := open_cell (hval 0 23 v0 rfl rfl) h0
  obtain ⟨yk, ys, ya, ym, rfl, rfl, rfl, wyk, wys, wya, wym⟩ := open_cell (hval 1 23 v1 rfl rfl) h1
  clear hA0
  simp only [List.append_nil] at hW'
  refine (walk xk xs xa xm yk ys ya ym W hE (bounds_i64 wxk) (bounds_i64 wxs) (bounds_i64 wxa) (bounds_i64 wxm) (bounds_i64 wyk) (bounds_i64 wys) (bounds_i64 wya) (bounds_i64 wym)).mono fun e W' ⟨he, hb⟩ => ?_
  subst he
  exact ⟨_, rfl, _, _, _, [], [], [], hW', trodAll_cons_mk (shut_bool Tryd.underlying4 _) trodAll_mk0, trodAll_cons_mk (shut_cell wxk wxs wxa wxm) (trodAll_cons_mk (shut_cell wyk wys wya wym) trodAll_mk0), rfl, hb.frame _, fun h => by cases h⟩

theorem laid_met (os : Os) : laidMet Tryd.prog Rows.cellApartRow.laid ((laidWorld os).forCall (fun _ _ => 0) ⟨#[], #[.agg #[.int .i64 0, .int .i64 0, .int .i64 0, .int .i64 0], .agg #[.int .i64 0, .int .i64 0, .int .i64 0, .int .i64 0]], []⟩).memory :=
  laidMet_of_run' 8 (by kernel_rfl) (by kernel_rfl)
theorem reads (os : Os) {H : Type} (enc : TypeId × Value → H) : ∃ places, DataW.whole enc Tryd.prog ((laidWorld os).forCall (fun _ _ => 0) ⟨#[], #[.agg #[.int .i64 0, .int .i64 0, .int .i64 0, .int .i64 0], .agg #[.int .i64 0, .int .i64 0, .int .i64 0, .int .i64 0]], []⟩).memory Tryd.f6.params.toList Rows.cellApartSpec.vars false (#[.agg #[.int .i64 0, .int .i64 0, .int .i64 0, .int .i64 0], .agg #[.int .i64 0, .int .i64 0, .int .i64 0, .int .i64 0]] : Array Value).toList 8 = some ([.agg [.lit (.int .i64 0), .lit (.int .i64 0), .lit (.int .i64 0), .lit (.int .i64 0)], .agg [.lit (.int .i64 0), .lit (.int .i64 0), .lit (.int .i64 0), .lit (.int .i64 0)]], [], places) :=
  ⟨[], by kernel_rfl⟩

set_option maxRecDepth 100000 in
theorem lifted (os : Os) (started : os.Started) (H : Type) (enc : TypeId × Value → H) (F : Stop.Interp) :
    ReturnsInHanded {} Tryd.checked os 6 .any ((OpenSpec.ofChange Rows.cellApartSpec).preRow enc Tryd.prog Tryd.f6 Rows.cellApartRow.domain false Rows.cellApartRow.laid) (((OpenSpec.ofChange Rows.cellApartSpec).at F).post enc Tryd.prog Tryd.f6 false true false false) := by
  obtain ⟨places, hx⟩ := reads os enc
  refine returnsInHanded_of_row (C := Tryd.checked) (s := OpenSpec.ofChange Rows.cellApartSpec) own started (by kernel_rfl) Tryd.func6
    (witness_row_at (enc := enc) (C := Tryd.checked) false (laidWorld os) #[.agg #[.int .i64 0, .int .i64 0, .int .i64 0, .int .i64 0], .agg #[.int .i64 0, .int .i64 0, .int .i64 0, .int .i64 0]] rfl (by kernel_rfl) (by kernel_rfl) (by kernel_rfl)
      (OpenSpec.preRow_of_cond 8 hx (by kernel_rfl) (fun k hk => by cases hk) (by kernel_rfl) (laid_met os))) ?_
  intro W base args ds gs before hval hW _ _ _ hL _ _
  exact contract H enc W base args ds gs before hval hW hL

theorem said : Rows.CellApartSaid :=
  OpenClaim.holds_of_cond 6 Tryd.f6 rfl rfl rfl rfl rfl rfl rfl ⟨rfl, rfl, rfl, rfl, rfl⟩ rfl rfl rfl rfl rfl (by kernel_rfl) Tryd.func6 (by kernel_rfl)
    (of_decide_eq_true (by kernel_rfl)) (by unfold Func.isWrapper; first | (rw [if_pos (by decide +kernel)]; kernel_rfl) | (rw [if_neg (by decide +kernel)]; exact ⟨rfl, rfl⟩))
    (fun os started H enc _ F => by rw [OpenClaim.pre_eq_preRow]; exact lifted os started H enc F)

/-- No parameter wants a stand-in; the program's own looks are off. -/
theorem plain (f : FuncId) (fn : Func) (hf : Tryd.pinned.checked.prog.funcNamed "treadwheel/treadwheellaw04.CellApart" = some f) (hfn : Tryd.pinned.checked.prog.funcs[f]? = some fn) :
    false = Tryd.pinned.checked.prog.looks [] ∧ ∀ (j : Nat) t, fn.params[j]? = some t → Tryd.pinned.checked.prog.wantsStandIn t = false := by
  obtain rfl : f = 6 := Option.some.inj ((show Tryd.prog.funcNamed "treadwheel/treadwheellaw04.CellApart" = some 6 by kernel_rfl).symm.trans hf) |>.symm
  obtain rfl : fn = Tryd.f6 := (Option.some.inj (Tryd.func6.symm.trans hfn)).symm
  refine ⟨by kernel_rfl, fun j t ht => ?_⟩
  rw [Tryd.params6] at ht
  have hm := Array.mem_of_getElem? ht
  simp only [List.mem_toArray, List.mem_cons, List.not_mem_nil, or_false] at hm
  rcases hm with rfl | rfl
  · exact (show Tryd.prog.wantsStandIn 23 = false by kernel_rfl)
  · exact (show Tryd.prog.wantsStandIn 23 = false by kernel_rfl)

/-- THE CARD. -/
theorem card : Rows.CellApartCardSaid :=
  Claim7.holds_tied_plain_at .later [] _ _ _ _ said (fun _ h => by cases h) (by kernel_rfl) (fun _ h => by cases h) cellApart_row_tie rfl ⟨rfl, rfl⟩ (by kernel_rfl) rfl plain (by kernel_rfl)
end Go.Proofs.YtpfchfpliljglaaDoor.cellApart
namespace Go.Proofs.YtpfchfpliljglaaDoor
theorem cellApart_card : Rows.CellApartCardSaid := cellApart.card
end Go.Proofs.YtpfchfpliljglaaDoor
