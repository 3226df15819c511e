/- CellLinks: for any object's kind, size, extra number and mark, and any number of a word, the statement's function returns true, where the table of links is as the program's text lays it; each argument reads behind the call as before. -/
import Derived.Test.YtpfchfpliljglaaDoorCards
import Derived.Test.YtpfchfpliljglaaDoorTie
import Derived.Test.YtpfchfpliljglaaDoorCeH
import Derived.Test.YtpfchfpliljglaaDoorCeE
namespace Go.Proofs.YtpfchfpliljglaaDoor.cellLinks
open Go.ChangeShapes Go.WideShapes Go.ChangeAt Go.RowKit

theorem own : ownKnob Tryd.prog.godebug = none := by kernel_rfl

/-- How the links, and the word that is asked for, lie. -/
def Lies (q s f t j : Int) (b : Bool) : Prop :=
  (¬ q = 0 ∧ f = 0 ∧ t = 0 ∧ b = false) ∨ (q = 0 ∧ 0 ≤ s ∧ f = 0 ∧ t = 0 ∧ b = false) ∨
    (q = 0 ∧ 0 ≤ f ∧ f < t ∧ t ≤ s ∧ ((j < f ∧ b = false) ∨ (f ≤ j ∧ j < t ∧ b = true) ∨ (f ≤ j ∧ t ≤ j ∧ b = false)))

theorem from_nonneg (n : Nat) : 0 ≤ lfrom.getD n 0 := by
  match n with
  | 0 | 1 | 2 | 3 | 4 | 5 | 6 | 7 | 8 | 9 | 10 => decide
  | n + 11 => exact Int.le_refl 0

theorem lies (k s a m j : Int) : Lies (pe k s a m) s (lf k s a m) (lt k s a m) j (lk k s a m j) := by
  have hs := same_links k s a m j
  by_cases h : pe k s a m = 0
  · have hf := ((pe_fit _ _ _ _).1 h).2.1.1
    have hn := from_nonneg k.toNat
    by_cases hc : lfrom.getD k.toNat 0 < lt0 k s
    · have e1 : lf k s a m = lfrom.getD k.toNat 0 := by unfold lf has; rw [h]; simp only [hc, decide_true, Bool.and_self, if_true]
      have e2 : lt k s a m = lt0 k s := by unfold lt has; rw [h]; simp only [hc, decide_true, Bool.and_self, if_true]
      rw [e1, e2] at hs ⊢
      have hl : lt0 k s ≤ s := by unfold lt0; omega
      refine .inr (.inr ⟨h, hn, hc, hl, ?_⟩)
      by_cases g1 : lfrom.getD k.toNat 0 ≤ j
      · by_cases g2 : j < lt0 k s
        · refine .inr (.inl ⟨g1, g2, ?_⟩)
          rw [← hs, decide_eq_true g1, decide_eq_true g2]; rfl
        · refine .inr (.inr ⟨g1, by omega, ?_⟩)
          rw [← hs, decide_eq_true g1, decide_eq_false g2]; rfl
      · refine .inl ⟨by omega, ?_⟩
        rw [← hs, decide_eq_false g1]; rfl
    · have e1 : lf k s a m = 0 := by unfold lf has; simp only [hc, decide_false, Bool.and_false, Bool.false_eq_true, if_false]
      have e2 : lt k s a m = 0 := by unfold lt has; simp only [hc, decide_false, Bool.and_false, Bool.false_eq_true, if_false]
      rw [e1, e2] at hs ⊢
      refine .inr (.inl ⟨h, hf, rfl, rfl, ?_⟩)
      rw [← hs]
      by_cases g : 0 ≤ j
      · rw [decide_eq_true g, decide_eq_false (by omega)]; rfl
      · rw [decide_eq_false g]; rfl
  · have e1 : lf k s a m = 0 := by unfold lf has; simp [h]
    have e2 : lt k s a m = 0 := by unfold lt has; simp [h]
    refine .inl ⟨h, e1, e2, ?_⟩
    unfold lk
    simp [h]

set_option maxHeartbeats 4000000 in
theorem walk (ck cs ca cm j : Int) (W : World) (hE : Env W) (_ : -9223372036854775808 ≤ ck ∧ ck ≤ 9223372036854775807) (_ : -9223372036854775808 ≤ cs ∧ cs ≤ 9223372036854775807)
    (_ : -9223372036854775808 ≤ ca ∧ ca ≤ 9223372036854775807) (_ : -9223372036854775808 ≤ cm ∧ cm ≤ 9223372036854775807) (_ : -9223372036854775808 ≤ j ∧ j ≤ 9223372036854775807) :
    Calls Tryd.prog 5 #[.agg #[.int .i64 ck, .int .i64 cs, .int .i64 ca, .int .i64 cm], .int .i64 j] W fun e W' => e = .returned (.bool true) ∧ Below W.heap.size W W' := by
  have hB := (Below.refl W.heap.size W).alloc (Nat.le_refl _) (.cells #[.int .i64 ck, .int .i64 cs, .int .i64 ca, .int .i64 cm] 23)
  have hX := box_new W (.int .i64 ck) (.int .i64 cs) (.int .i64 ca) (.int .i64 cm) 23
  replace hE := hE.below ((Below.refl W.heap.size W).alloc (Nat.le_refl _) (.cells #[.int .i64 ck, .int .i64 cs, .int .i64 ca, .int .i64 cm] 23))
  have HL := Lib.hid fun (W : World) (h : Env W) => links_any ck cs ca cm W h
  have HR := Lib.hid fun W => link_any ck cs ca cm j W
  have HP := Lib.hid fun W => pack_any ck cs ca cm W
  have h := lies ck cs ca cm j
  generalize lf ck cs ca cm = f at h HL
  generalize lt ck cs ca cm = t at h HL
  generalize lk ck cs ca cm j = b at h HR
  generalize pe ck cs ca cm = q at h HP
  generalize pw ck cs ca cm = u at HP
  have h' : (¬ q = 0 ∧ j < 0 ∧ f = 0 ∧ t = 0 ∧ b = false) ∨ (¬ q = 0 ∧ 0 ≤ j ∧ f = 0 ∧ t = 0 ∧ b = false) ∨ (q = 0 ∧ 0 ≤ cs ∧ j < 0 ∧ f = 0 ∧ t = 0 ∧ b = false) ∨ (q = 0 ∧ 0 ≤ cs ∧ 0 ≤ j ∧ f = 0 ∧ t = 0 ∧ b = false) ∨
      (q = 0 ∧ 0 ≤ f ∧ f < t ∧ t ≤ cs ∧ j < f ∧ b = false) ∨ (q = 0 ∧ 0 ≤ f ∧ f < t ∧ t ≤ cs ∧ f ≤ j ∧ j < t ∧ b = true) ∨ (q = 0 ∧ 0 ≤ f ∧ f < t ∧ t ≤ cs ∧ f ≤ j ∧ t ≤ j ∧ b = false) := by
    unfold Lies at h
    rcases h with ⟨h1, h2, h3, h4⟩ | ⟨h1, h2, h3, h4, h5⟩ | ⟨h1, h2, h3, h4, ⟨h5, h6⟩ | ⟨h5, h6, h7⟩ | ⟨h5, h6, h7⟩⟩
    · by_cases g : j < 0
      · exact .inl ⟨h1, g, h2, h3, h4⟩
      · exact .inr (.inl ⟨h1, by omega, h2, h3, h4⟩)
    · by_cases g : j < 0
      · exact .inr (.inr (.inl ⟨h1, h2, g, h3, h4, h5⟩))
      · exact .inr (.inr (.inr (.inl ⟨h1, h2, by omega, h3, h4, h5⟩)))
    · exact .inr (.inr (.inr (.inr (.inl ⟨h1, h2, h3, h4, h5, h6⟩))))
    · exact .inr (.inr (.inr (.inr (.inr (.inl ⟨h1, h2, h3, h4, h5, h6, h7⟩)))))
    · exact .inr (.inr (.inr (.inr (.inr (.inr ⟨h1, h2, h3, h4, h5, h6, h7⟩)))))
  clear h
  rcases h' with ⟨hq, hj, rfl, rfl, rfl⟩ | ⟨hq, hj, rfl, rfl, rfl⟩ | ⟨rfl, hs, hj, rfl, rfl, rfl⟩ | ⟨rfl, hs, hj, rfl, rfl, rfl⟩ | ⟨rfl, hf, ht, hs, hj, rfl⟩ | ⟨rfl, hf, ht, hs, hj, hj2, rfl⟩ | ⟨rfl, hf, ht, hs, hj, hj2, rfl⟩
  all_goals
    go_enter Tryd.func5, Tryd.ntmps5
    go_wp2_with fail
    generalize W.alloc (.cells #[.int .i64 ck, .int .i64 cs, .int .i64 ca, .int .i64 cm] 23) = W0 at hB hX hE ⊢
    refine (awake_any _ hE).mono ?_
    rintro e x1 ⟨rfl, hb⟩
    replace hB := onB hB hb
    replace hX := hX.later hb
    replace hE := hE.below hb
    clear hb
    obtain ⟨c0, c1, c2, c3, -, -, -, -, hl⟩ := id hX
    go_wp2_with fail
    refine (HL.out _ hE).mono ?_
    rintro e x2 ⟨rfl, hb⟩
    replace hB := onB hB hb
    replace hX := hX.later hb
    clear hb
    clear hE
    clear c0 c1 c2 c3 hl
    obtain ⟨c0, c1, c2, c3, -, -, -, -, hl⟩ := id hX
    go_wp2_with fail
    refine (HR.out _).mono ?_
    rintro e x3 ⟨rfl, hb⟩
    replace hB := onB hB hb
    replace hX := hX.later hb
    clear hb
    clear c0 c1 c2 c3 hl
    obtain ⟨c0, c1, c2, c3, -, -, -, -, hl⟩ := id hX
    go_wp2_with fail
    refine (HP.out _).mono ?_
    rintro e x4 ⟨rfl, hb⟩
    replace hB := onB hB hb
    replace hX := hX.later hb
    clear hb
    clear c0 c1 c2 c3 hl
    obtain ⟨c0, c1, c2, c3, -, -, -, -, hl⟩ := id hX
    go_wp2_with fail
    go_ret
    exact ⟨rfl, hB⟩

set_option maxRecDepth 100000 in
/-- WHAT THE WALK GIVES, FOR EVERY ARGUMENT AND EVERY WORLD THAT HOLDS THE TABLE. -/
theorem contract (H : Type) (enc : TypeId × Value → H) (W : World) (base : Nat) (args : Array Value) (ds gs : List (DataW H)) (before : List MemPlace)
    (hval : ∀ (j : Nat) t v, Tryd.f5.params[j]? = some t → args[j]? = some v → Value.okWide Tryd.prog W .any base t v)
    (hW : DataW.Whole enc Tryd.prog Tryd.f5.params.toList Rows.cellLinksSpec.vars false W args.toList ds gs before) (hL : laidMetH Tryd.prog Rows.cellLinksRow.laid W) :
    Calls Tryd.prog 5 args W fun e W' => ∃ v, e = .returned v ∧ Rows.cellLinksSpec.post enc Tryd.prog Tryd.f5 false true false false W args v W' := by
  have hE : Env W := env_of hL
  have hW' := hW
  obtain ⟨p, q, hA0, hV, rfl, hfz, hnd⟩ := hW
  have hA : DataW.TrodAll enc Tryd.prog W 0 (fun _ => true) true Tryd.f5.params.toList args.toList ds p := hA0
  rw [Tryd.params5] at hA hval
  obtain ⟨v0, vs0, d0, ds0, p0, q0, hargs, rfl, rfl, h0, r0⟩ := trodAll_cons hA
  obtain ⟨v1, vs1, d1, ds1, p1, q1, rfl, rfl, rfl, h1, r1⟩ := trodAll_cons r0
  obtain ⟨rfl, rfl, rfl⟩ := trodAll_nil r1
  obtain rfl : args = #[v0, v1] := by cases args; simp_all
  obtain ⟨rfl, rfl⟩ := trodVars_none hV
  obtain ⟨ck, cs, ca, cm, rfl, rfl, rfl, wck, wcs, wca, wcm⟩ := open_cell (hval 0 23 v0 rfl rfl) h0
  obtain ⟨j, rfl, rfl, rfl, wj⟩ := open_int Tryd.underlying3 (hval 1 3 v1 rfl rfl) h1
  clear hA0
  simp only [List.append_nil] at hW'
  refine (walk ck cs ca cm j W hE (bounds_i64 wck) (bounds_i64 wcs) (bounds_i64 wca) (bounds_i64 wcm) (bounds_i64 wj)).mono fun e W' ⟨he, hb⟩ => ?_
  subst he
  exact ⟨_, rfl, _, _, _, [], [], [], hW', trodAll_cons_mk (shut_bool Tryd.underlying4 _) trodAll_mk0, trodAll_cons_mk (shut_cell wck wcs wca wcm) (trodAll_cons_mk (shut_int Tryd.underlying3 wj) trodAll_mk0), rfl, hb.frame _, fun h => by cases h⟩

theorem laid_met (os : Os) : laidMet Tryd.prog Rows.cellLinksRow.laid ((laidWorld os).forCall (fun _ _ => 0) ⟨#[], #[.agg #[.int .i64 0, .int .i64 0, .int .i64 0, .int .i64 0], .int .i64 0], []⟩).memory :=
  laidMet_of_run' 8 (by kernel_rfl) (by kernel_rfl)
theorem reads (os : Os) {H : Type} (enc : TypeId × Value → H) : ∃ places, DataW.whole enc Tryd.prog ((laidWorld os).forCall (fun _ _ => 0) ⟨#[], #[.agg #[.int .i64 0, .int .i64 0, .int .i64 0, .int .i64 0], .int .i64 0], []⟩).memory Tryd.f5.params.toList Rows.cellLinksSpec.vars false (#[.agg #[.int .i64 0, .int .i64 0, .int .i64 0, .int .i64 0], .int .i64 0] : Array Value).toList 8 = some ([.agg [.lit (.int .i64 0), .lit (.int .i64 0), .lit (.int .i64 0), .lit (.int .i64 0)], .lit (.int .i64 0)], [], places) :=
  ⟨[], by kernel_rfl⟩

set_option maxRecDepth 100000 in
theorem lifted (os : Os) (started : os.Started) (H : Type) (enc : TypeId × Value → H) (F : Stop.Interp) :
    ReturnsInHanded {} Tryd.checked os 5 .any ((OpenSpec.ofChange Rows.cellLinksSpec).preRow enc Tryd.prog Tryd.f5 Rows.cellLinksRow.domain false Rows.cellLinksRow.laid) (((OpenSpec.ofChange Rows.cellLinksSpec).at F).post enc Tryd.prog Tryd.f5 false true false false) := by
  obtain ⟨places, hx⟩ := reads os enc
  refine returnsInHanded_of_row (C := Tryd.checked) (s := OpenSpec.ofChange Rows.cellLinksSpec) own started (by kernel_rfl) Tryd.func5
    (witness_row_at (enc := enc) (C := Tryd.checked) false (laidWorld os) #[.agg #[.int .i64 0, .int .i64 0, .int .i64 0, .int .i64 0], .int .i64 0] rfl (by kernel_rfl) (by kernel_rfl) (by kernel_rfl)
      (OpenSpec.preRow_of_cond 8 hx (by kernel_rfl) (fun k hk => by cases hk) (by kernel_rfl) (laid_met os))) ?_
  intro W base args ds gs before hval hW _ _ _ hL _ _
  exact contract H enc W base args ds gs before hval hW hL

theorem said : Rows.CellLinksSaid :=
  OpenClaim.holds_of_cond 5 Tryd.f5 rfl rfl rfl rfl rfl rfl rfl ⟨rfl, rfl, rfl, rfl, rfl⟩ rfl rfl rfl rfl rfl (by kernel_rfl) Tryd.func5 (by kernel_rfl)
    (of_decide_eq_true (by kernel_rfl)) (by unfold Func.isWrapper; first | (rw [if_pos (by decide +kernel)]; kernel_rfl) | (rw [if_neg (by decide +kernel)]; exact ⟨rfl, rfl⟩))
    (fun os started H enc _ F => by rw [OpenClaim.pre_eq_preRow]; exact lifted os started H enc F)

/-- No parameter wants a stand-in; the program's own looks are off. -/
theorem plain (f : FuncId) (fn : Func) (hf : Tryd.pinned.checked.prog.funcNamed "treadwheel/treadwheellaw04.CellLinks" = some f) (hfn : Tryd.pinned.checked.prog.funcs[f]? = some fn) :
    false = Tryd.pinned.checked.prog.looks [] ∧ ∀ (j : Nat) t, fn.params[j]? = some t → Tryd.pinned.checked.prog.wantsStandIn t = false := by
  obtain rfl : f = 5 := Option.some.inj ((show Tryd.prog.funcNamed "treadwheel/treadwheellaw04.CellLinks" = some 5 by kernel_rfl).symm.trans hf) |>.symm
  obtain rfl : fn = Tryd.f5 := (Option.some.inj (Tryd.func5.symm.trans hfn)).symm
  refine ⟨by kernel_rfl, fun j t ht => ?_⟩
  rw [Tryd.params5] at ht
  have hm := Array.mem_of_getElem? ht
  simp only [List.mem_toArray, List.mem_cons, List.not_mem_nil, or_false] at hm
  rcases hm with rfl | rfl
  · exact (show Tryd.prog.wantsStandIn 23 = false by kernel_rfl)
  · exact (show Tryd.prog.wantsStandIn 3 = false by kernel_rfl)

/-- THE CARD. -/
theorem card : Rows.CellLinksCardSaid :=
  Claim7.holds_tied_plain_at .later [] _ _ _ _ said (fun _ h => by cases h) (by kernel_rfl) (fun _ h => by cases h) cellLinks_row_tie rfl ⟨rfl, rfl⟩ (by kernel_rfl) rfl plain (by kernel_rfl)
end Go.Proofs.YtpfchfpliljglaaDoor.cellLinks
namespace Go.Proofs.YtpfchfpliljglaaDoor
theorem cellLinks_card : Rows.CellLinksCardSaid := cellLinks.card
end Go.Proofs.YtpfchfpliljglaaDoor
