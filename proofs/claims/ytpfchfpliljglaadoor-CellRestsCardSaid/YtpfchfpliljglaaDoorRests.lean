/- CellRests: for any object's kind, size, extra number and mark the statement's function returns true, where the table of links is as the program's text lays it; the argument reads behind the call as before. -/
import Derived.Test.YtpfchfpliljglaaDoorCards
import Derived.Test.YtpfchfpliljglaaDoorTie
import Derived.Test.YtpfchfpliljglaaDoorCeH
import Derived.Test.YtpfchfpliljglaaDoorCeE
namespace Go.Proofs.YtpfchfpliljglaaDoor.cellRests
open Go.ChangeShapes Go.WideShapes Go.ChangeAt Go.RowKit

theorem own : ownKnob Tryd.prog.godebug = none := by kernel_rfl

theorem pick0 (W : World) : (Instr.index 42 (.agg #[.int .i64 7, .int .i64 8, .int .i64 6, .int .i64 0]) (.int .i64 0)).run Tryd.prog W = .ok (.int .i64 7) W := by
  have h : Tryd.prog.underlying 42 = some (.array 4 3) := by kernel_rfl
  simp [Instr.index, run_underlying h, asIntOf, part, Tryd.isAgg3, Tryd.sizeOf3, go_sem]
theorem pick1 (W : World) : (Instr.index 42 (.agg #[.int .i64 7, .int .i64 8, .int .i64 6, .int .i64 0]) (.int .i64 1)).run Tryd.prog W = .ok (.int .i64 8) W := by
  have h : Tryd.prog.underlying 42 = some (.array 4 3) := by kernel_rfl
  simp [Instr.index, run_underlying h, asIntOf, part, Tryd.isAgg3, Tryd.sizeOf3, go_sem]
theorem pick2 (W : World) : (Instr.index 42 (.agg #[.int .i64 7, .int .i64 8, .int .i64 6, .int .i64 0]) (.int .i64 2)).run Tryd.prog W = .ok (.int .i64 6) W := by
  have h : Tryd.prog.underlying 42 = some (.array 4 3) := by kernel_rfl
  simp [Instr.index, run_underlying h, asIntOf, part, Tryd.isAgg3, Tryd.sizeOf3, go_sem]
theorem pick3 (W : World) : (Instr.index 42 (.agg #[.int .i64 7, .int .i64 8, .int .i64 6, .int .i64 0]) (.int .i64 3)).run Tryd.prog W = .ok (.int .i64 0) W := by
  have h : Tryd.prog.underlying 42 = some (.array 4 3) := by kernel_rfl
  simp [Instr.index, run_underlying h, asIntOf, part, Tryd.isAgg3, Tryd.sizeOf3, go_sem]

theorem Env.set {w : World} (h : Env w) (b i : Nat) (v : Value) (hb : 0 ≠ b) : Env (w.setCell ⟨b, i, none⟩ v) := fun k hk =>
  ⟨(World.cell?_setCell_other _ _ _ _ (by simp)).trans (h k hk).1, (World.cell?_setCell_other _ _ _ _ (by simp)).trans (h k hk).2⟩
theorem Box.set {w : World} {b : Nat} {k s a m : Value} (h : Box w b k s a m) (v : Value) : Box (w.setCell ⟨b, 0, none⟩ v) b v s a m := by
  obtain ⟨h0, h1, h2, h3, g0, g1, g2, g3, hl⟩ := h
  exact ⟨World.cell?_setCell_same _ _ _ h0, (World.cell?_setCell_other _ _ _ _ (by simp)).trans h1, (World.cell?_setCell_other _ _ _ _ (by simp)).trans h2, (World.cell?_setCell_other _ _ _ _ (by simp)).trans h3,
    (World.frozen?_setCell _ _ _ _).trans g0, (World.frozen?_setCell _ _ _ _).trans g1, (World.frozen?_setCell _ _ _ _).trans g2, (World.frozen?_setCell _ _ _ _).trans g3, by simpa [World.setCell] using hl⟩

theorem links_zero (K s a m : Int) (hK : K = 7 ∨ K = 8 ∨ K = 6 ∨ K = 0) (W : World) (hE : Env W) :
    Calls Tryd.prog 13 #[.agg #[.int .i64 K, .int .i64 s, .int .i64 a, .int .i64 m]] W fun e w' => e = .returned (.tuple #[.int .i64 0, .int .i64 0]) ∧ Below W.heap.size W w' := by
  have hp := links_any K s a m W hE
  have hn : has K s a m = false := by
    rcases hK with rfl | rfl | rfl | rfl <;> simp [has, lt0, lfrom, lto] <;> omega
  have e1 : lf K s a m = 0 := by unfold lf; rw [hn]; rfl
  have e2 : lt K s a m = 0 := by unfold lt; rw [hn]; rfl
  rw [e1, e2] at hp
  exact hp

theorem links_ind (k s a m o : Int) (hF : Fit k s a m) (ho : (s = 0 ∧ o = 0) ∨ (0 < s ∧ o = 1)) (W : World) (hE : Env W) :
    Calls Tryd.prog 13 #[.agg #[.int .i64 5, .int .i64 s, .int .i64 a, .int .i64 m]] W fun e w' => e = .returned (.tuple #[.int .i64 0, .int .i64 o]) ∧ Below W.heap.size W w' := by
  have hp := links_any 5 s a m W hE
  have hF5 : Fit 5 s a m := ⟨⟨by decide, by decide⟩, hF.2⟩
  have e1 : lf 5 s a m = 0 := by unfold lf; split <;> rfl
  have e2 : lt 5 s a m = o := by
    unfold lt has lt0
    rw [pe_ok hF5]
    rcases ho with ⟨rfl, rfl⟩ | ⟨h, rfl⟩
    · decide
    · have e : min (lto.getD (Int.toNat 5) 0) s = 1 := by show min 1 s = 1; omega
      rw [e]
      decide
  rw [e1, e2] at hp
  exact hp

theorem links_con (k s a m : Int) (hF : Fit k s a m) (W : World) (hE : Env W) :
    Calls Tryd.prog 13 #[.agg #[.int .i64 1, .int .i64 s, .int .i64 a, .int .i64 m]] W fun e w' => e = .returned (.tuple #[.int .i64 0, .int .i64 s]) ∧ Below W.heap.size W w' := by
  have hp := links_any 1 s a m W hE
  have hF1 : Fit 1 s a m := ⟨⟨by decide, by decide⟩, hF.2⟩
  have e1 : lf 1 s a m = 0 := by unfold lf; split <;> rfl
  have e2 : lt 1 s a m = s := by
    obtain ⟨-, ⟨h0, h1⟩, -⟩ := hF
    have e : lt0 1 s = s := by show min 31 s = s; omega
    unfold lt has
    rw [pe_ok hF1, e]
    by_cases h : 0 < s
    · rw [show decide (lfrom.getD (Int.toNat 1) 0 < s) = true from decide_eq_true h]
      rfl
    · have hs : s = 0 := by omega
      subst hs
      decide
  rw [e1, e2] at hp
  exact hp

set_option maxHeartbeats 1000000 in
theorem walk_bad (ck cs ca cm : Int) (W : World) (hE : Env W) (h : ¬ pe ck cs ca cm = 0) :
    Calls Tryd.prog 7 #[.agg #[.int .i64 ck, .int .i64 cs, .int .i64 ca, .int .i64 cm]] W fun e W' => e = .returned (.bool true) ∧ Below W.heap.size W W' := by
  have hB := (Below.refl W.heap.size W).alloc (Nat.le_refl _) (.cells #[.int .i64 ck, .int .i64 cs, .int .i64 ca, .int .i64 cm] 23)
  have hX := box_new W (.int .i64 ck) (.int .i64 cs) (.int .i64 ca) (.int .i64 cm) 23
  replace hE := hE.below ((Below.refl W.heap.size W).alloc (Nat.le_refl _) (.cells #[.int .i64 ck, .int .i64 cs, .int .i64 ca, .int .i64 cm] 23))
  go_enter Tryd.func7, Tryd.ntmps7
  go_wp2_with fail
  generalize W.alloc (.cells #[.int .i64 ck, .int .i64 cs, .int .i64 ca, .int .i64 cm] 23) = W0 at hB hX hE ⊢
  refine (awake_any _ hE).mono ?_
  rintro e x1 ⟨rfl, hb⟩
  replace hB := onB hB hb
  replace hX := hX.later hb
  replace hE := hE.below hb
  clear hb
  clear hE
  obtain ⟨c0, c1, c2, c3, -, -, -, -, hl⟩ := id hX
  go_wp2_with fail
  refine (pack_any ck cs ca cm _).mono ?_
  rintro e x2 ⟨rfl, hb⟩
  replace hB := onB hB hb
  clear hb
  go_wp2_with fail
  go_ret
  exact ⟨rfl, hB⟩

set_option maxHeartbeats 4000000 in
theorem walk_fit (ck cs ca cm o : Int) (W : World) (hE : Env W) (hF : Fit ck cs ca cm) (ho : (cs = 0 ∧ o = 0) ∨ (0 < cs ∧ o = 1)) :
    Calls Tryd.prog 7 #[.agg #[.int .i64 ck, .int .i64 cs, .int .i64 ca, .int .i64 cm]] W fun e W' => e = .returned (.bool true) ∧ Below W.heap.size W W' := by
  have hne : 0 ≠ W.heap.size := Nat.ne_of_lt (World.block_lt_of_cell? _ _ (hE 0 (by decide)).1)
  have hB := (Below.refl W.heap.size W).alloc (Nat.le_refl _) (.cells #[.int .i64 ck, .int .i64 cs, .int .i64 ca, .int .i64 cm] 23)
  have hX := box_new W (.int .i64 ck) (.int .i64 cs) (.int .i64 ca) (.int .i64 cm) 23
  replace hE := hE.below ((Below.refl W.heap.size W).alloc (Nat.le_refl _) (.cells #[.int .i64 ck, .int .i64 cs, .int .i64 ca, .int .i64 cm] 23))
  have HZ := Lib.hid fun (K : Int) (hK : K = 7 ∨ K = 8 ∨ K = 6 ∨ K = 0) (W : World) (h : Env W) => links_zero K cs ca cm hK W h
  have HI := Lib.hid fun (W : World) (h : Env W) => links_ind ck cs ca cm o hF ho W h
  have HC := Lib.hid fun (W : World) (h : Env W) => links_con ck cs ca cm hF W h
  have HP : Hid (∀ W : World, Calls Tryd.prog 9 #[.agg #[.int .i64 ck, .int .i64 cs, .int .i64 ca, .int .i64 cm]] W fun e w' => e = .returned (.tuple #[.int .i64 (pw ck cs ca cm), .int .i64 0]) ∧ Below W.heap.size W w') := Lib.hid fun W => by
    have hp := pack_any ck cs ca cm W
    rw [pe_ok hF] at hp
    exact hp
  have HO := Lib.hid ho
  have HNE := Lib.hid hne
  clear hF ho hne
  generalize pw ck cs ca cm = u at HP
  go_enter Tryd.func7, Tryd.ntmps7
  go_wp2_with fail
  generalize W.alloc (.cells #[.int .i64 ck, .int .i64 cs, .int .i64 ca, .int .i64 cm] 23) = W0 at hB hX hE ⊢
  refine (awake_any _ hE).mono ?_
  rintro e x1 ⟨rfl, hb⟩
  replace hB := onB hB hb
  replace hX := hX.later hb
  replace hE := hE.below hb
  clear hb
  obtain ⟨c0, c1, c2, c3, -, -, -, -, hl⟩ := id hX
  go_wp2_with fail
  refine (HP.out _).mono ?_
  rintro e x2 ⟨rfl, hb⟩
  replace hB := onB hB hb
  replace hX := hX.later hb
  replace hE := hE.below hb
  clear hb
  clear c0 c1 c2 c3 hl
  go_wp2_with fail
  go_loopw [24] (fun s wr => ∃ j : Int, 0 ≤ j ∧ j ≤ 4 ∧ s = .int .i64 j ∧ Below W.heap.size W wr ∧ Box wr W.heap.size (.int .i64 ck) (.int .i64 cs) (.int .i64 ca) (.int .i64 cm) ∧ Env wr) (fun s _ => (4 - intOf s).toNat)
  case atStart => exact ⟨0, by decide, by decide, rfl, hB, hX, hE⟩
  case round =>
    clear hB hX hE
    obtain ⟨j, j0, j1, rfl, hB, hX, hE⟩ := hrel
    have hj : j = 0 ∨ j = 1 ∨ j = 2 ∨ j = 3 ∨ j = 4 := by omega
    clear j0 j1
    rcases hj with rfl | rfl | rfl | rfl | rfl
    · obtain ⟨c0, c1, c2, c3, -, -, -, -, hl⟩ := id hX
      have hp := fun W => pick0 W
      go_wp2_with fail
      clear hp c0 c1 c2 c3 hl
      have ha := (Below.refl wr.heap.size wr).alloc (Nat.le_refl _) (.cells #[.int .i64 7, .int .i64 cs, .int .i64 ca, .int .i64 cm] 23)
      replace hB := onB hB ha
      replace hX := hX.later ha
      replace hE := hE.below ha
      clear ha
      refine (HZ.out _ (by decide) _ hE).mono ?_
      rintro e x3 ⟨rfl, hb⟩
      replace hB := onB hB hb
      replace hX := hX.later hb
      replace hE := hE.below hb
      clear hb
      go_wp2_with fail
      go_roundw
      case rel => exact ⟨1, by decide, by decide, rfl, hB, hX, hE⟩
      case measure => decide
    · obtain ⟨c0, c1, c2, c3, -, -, -, -, hl⟩ := id hX
      have hp := fun W => pick1 W
      go_wp2_with fail
      clear hp c0 c1 c2 c3 hl
      have ha := (Below.refl wr.heap.size wr).alloc (Nat.le_refl _) (.cells #[.int .i64 8, .int .i64 cs, .int .i64 ca, .int .i64 cm] 23)
      replace hB := onB hB ha
      replace hX := hX.later ha
      replace hE := hE.below ha
      clear ha
      refine (HZ.out _ (by decide) _ hE).mono ?_
      rintro e x3 ⟨rfl, hb⟩
      replace hB := onB hB hb
      replace hX := hX.later hb
      replace hE := hE.below hb
      clear hb
      go_wp2_with fail
      go_roundw
      case rel => exact ⟨2, by decide, by decide, rfl, hB, hX, hE⟩
      case measure => decide
    · obtain ⟨c0, c1, c2, c3, -, -, -, -, hl⟩ := id hX
      have hp := fun W => pick2 W
      go_wp2_with fail
      clear hp c0 c1 c2 c3 hl
      have ha := (Below.refl wr.heap.size wr).alloc (Nat.le_refl _) (.cells #[.int .i64 6, .int .i64 cs, .int .i64 ca, .int .i64 cm] 23)
      replace hB := onB hB ha
      replace hX := hX.later ha
      replace hE := hE.below ha
      clear ha
      refine (HZ.out _ (by decide) _ hE).mono ?_
      rintro e x3 ⟨rfl, hb⟩
      replace hB := onB hB hb
      replace hX := hX.later hb
      replace hE := hE.below hb
      clear hb
      go_wp2_with fail
      go_roundw
      case rel => exact ⟨3, by decide, by decide, rfl, hB, hX, hE⟩
      case measure => decide
    · obtain ⟨c0, c1, c2, c3, -, -, -, -, hl⟩ := id hX
      have hp := fun W => pick3 W
      go_wp2_with fail
      clear hp c0 c1 c2 c3 hl
      have ha := (Below.refl wr.heap.size wr).alloc (Nat.le_refl _) (.cells #[.int .i64 0, .int .i64 cs, .int .i64 ca, .int .i64 cm] 23)
      replace hB := onB hB ha
      replace hX := hX.later ha
      replace hE := hE.below ha
      clear ha
      refine (HZ.out _ (by decide) _ hE).mono ?_
      rintro e x3 ⟨rfl, hb⟩
      replace hB := onB hB hb
      replace hX := hX.later hb
      replace hE := hE.below hb
      clear hb
      go_wp2_with fail
      go_roundw
      case rel => exact ⟨4, by decide, by decide, rfl, hB, hX, hE⟩
      case measure => decide
    · obtain ⟨c0, c1, c2, c3, f0, -, -, -, hl⟩ := id hX
      go_wp2_with fail
      clear c0 c1 c2 c3 f0 hl
      have hne := HNE.out
      replace hB := hB.setCell (p := ⟨W.heap.size, 0, none⟩) (Nat.le_refl _) (.int .i64 5)
      replace hX := Box.set hX (.int .i64 5)
      replace hE := Env.set hE _ 0 (.int .i64 5) hne
      clear hne
      refine (HI.out _ hE).mono ?_
      rintro e x3 ⟨rfl, hb⟩
      replace hB := onB hB hb
      replace hX := hX.later hb
      replace hE := hE.below hb
      clear hb
      obtain ⟨c0, c1, c2, c3, f0, -, -, -, hl⟩ := id hX
      go_wp2_with fail
      clear c0 c1 c2 c3 f0 hl
      have hne := HNE.out
      replace hB := hB.setCell (p := ⟨W.heap.size, 0, none⟩) (Nat.le_refl _) (.int .i64 1)
      replace hX := Box.set hX (.int .i64 1)
      replace hE := Env.set hE _ 0 (.int .i64 1) hne
      clear hne
      refine (HC.out _ hE).mono ?_
      rintro e x4 ⟨rfl, hb⟩
      replace hB := onB hB hb
      replace hX := hX.later hb
      clear hb hE
      obtain ⟨c0, c1, c2, c3, f0, -, -, -, hl⟩ := id hX
      rcases HO.out with ⟨g, rfl⟩ | ⟨g, rfl⟩
      · subst g
        go_wp2_with fail
        go_ret
        exact ⟨rfl, hB⟩
      · go_wp2_with fail
        go_ret
        exact ⟨rfl, hB⟩

theorem walk (ck cs ca cm : Int) (W : World) (hE : Env W) (_ : -9223372036854775808 ≤ ck ∧ ck ≤ 9223372036854775807) (_ : -9223372036854775808 ≤ cs ∧ cs ≤ 9223372036854775807)
    (_ : -9223372036854775808 ≤ ca ∧ ca ≤ 9223372036854775807) (_ : -9223372036854775808 ≤ cm ∧ cm ≤ 9223372036854775807) :
    Calls Tryd.prog 7 #[.agg #[.int .i64 ck, .int .i64 cs, .int .i64 ca, .int .i64 cm]] W fun e W' => e = .returned (.bool true) ∧ Below W.heap.size W W' := by
  by_cases h : pe ck cs ca cm = 0
  · have hF := (pe_fit _ _ _ _).1 h
    by_cases hs : cs = 0
    · exact walk_fit ck cs ca cm 0 W hE hF (.inl ⟨hs, rfl⟩)
    · exact walk_fit ck cs ca cm 1 W hE hF (.inr ⟨by have := hF.2.1.1; omega, rfl⟩)
  · exact walk_bad ck cs ca cm W hE h

set_option maxRecDepth 100000 in
/-- WHAT THE WALK GIVES, FOR EVERY ARGUMENT AND EVERY WORLD THAT HOLDS THE TABLE. -/
theorem contract (H : Type) (enc : TypeId × Value → H) (W : World) (base : Nat) (args : Array Value) (ds gs : List (DataW H)) (before : List MemPlace)
    (hval : ∀ (j : Nat) t v, Tryd.f7.params[j]? = some t → args[j]? = some v → Value.okWide Tryd.prog W .any base t v)
    (hW : DataW.Whole enc Tryd.prog Tryd.f7.params.toList Rows.cellRestsSpec.vars false W args.toList ds gs before) (hL : laidMetH Tryd.prog Rows.cellRestsRow.laid W) :
    Calls Tryd.prog 7 args W fun e W' => ∃ v, e = .returned v ∧ Rows.cellRestsSpec.post enc Tryd.prog Tryd.f7 false true false false W args v W' := by
  have hE : Env W := env_of hL
  have hW' := hW
  obtain ⟨p, q, hA0, hV, rfl, hfz, hnd⟩ := hW
  have hA : DataW.TrodAll enc Tryd.prog W 0 (fun _ => true) true Tryd.f7.params.toList args.toList ds p := hA0
  rw [Tryd.params7] at hA hval
  obtain ⟨v0, vs0, d0, ds0, p0, q0, hargs, rfl, rfl, h0, r0⟩ := trodAll_cons hA
  obtain ⟨rfl, rfl, rfl⟩ := trodAll_nil r0
  obtain rfl : args = #[v0] := by cases args; simp_all
  obtain ⟨rfl, rfl⟩ := trodVars_none hV
  obtain ⟨ck, cs, ca, cm, rfl, rfl, rfl, wck, wcs, wca, wcm⟩ := open_cell (hval 0 23 v0 rfl rfl) h0
  clear hA0
  simp only [List.append_nil] at hW'
  refine (walk ck cs ca cm W hE (bounds_i64 wck) (bounds_i64 wcs) (bounds_i64 wca) (bounds_i64 wcm)).mono fun e W' ⟨he, hb⟩ => ?_
  subst he
  exact ⟨_, rfl, _, _, _, [], [], [], hW', trodAll_cons_mk (shut_bool Tryd.underlying4 _) trodAll_mk0, trodAll_cons_mk (shut_cell wck wcs wca wcm) trodAll_mk0, rfl, hb.frame _, fun h => by cases h⟩

theorem laid_met (os : Os) : laidMet Tryd.prog Rows.cellRestsRow.laid ((laidWorld os).forCall (fun _ _ => 0) ⟨#[], #[.agg #[.int .i64 0, .int .i64 0, .int .i64 0, .int .i64 0]], []⟩).memory :=
  laidMet_of_run' 8 (by kernel_rfl) (by kernel_rfl)
theorem reads (os : Os) {H : Type} (enc : TypeId × Value → H) : ∃ places, DataW.whole enc Tryd.prog ((laidWorld os).forCall (fun _ _ => 0) ⟨#[], #[.agg #[.int .i64 0, .int .i64 0, .int .i64 0, .int .i64 0]], []⟩).memory Tryd.f7.params.toList Rows.cellRestsSpec.vars false (#[.agg #[.int .i64 0, .int .i64 0, .int .i64 0, .int .i64 0]] : Array Value).toList 8 = some ([.agg [.lit (.int .i64 0), .lit (.int .i64 0), .lit (.int .i64 0), .lit (.int .i64 0)]], [], places) :=
  ⟨[], by kernel_rfl⟩

set_option maxRecDepth 100000 in
theorem lifted (os : Os) (started : os.Started) (H : Type) (enc : TypeId × Value → H) (F : Stop.Interp) :
    ReturnsInHanded {} Tryd.checked os 7 .any ((OpenSpec.ofChange Rows.cellRestsSpec).preRow enc Tryd.prog Tryd.f7 Rows.cellRestsRow.domain false Rows.cellRestsRow.laid) (((OpenSpec.ofChange Rows.cellRestsSpec).at F).post enc Tryd.prog Tryd.f7 false true false false) := by
  obtain ⟨places, hx⟩ := reads os enc
  refine returnsInHanded_of_row (C := Tryd.checked) (s := OpenSpec.ofChange Rows.cellRestsSpec) own started (by kernel_rfl) Tryd.func7
    (witness_row_at (enc := enc) (C := Tryd.checked) false (laidWorld os) #[.agg #[.int .i64 0, .int .i64 0, .int .i64 0, .int .i64 0]] rfl (by kernel_rfl) (by kernel_rfl) (by kernel_rfl)
      (OpenSpec.preRow_of_cond 8 hx (by kernel_rfl) (fun k hk => by cases hk) (by kernel_rfl) (laid_met os))) ?_
  intro W base args ds gs before hval hW _ _ _ hL _ _
  exact contract H enc W base args ds gs before hval hW hL

theorem said : Rows.CellRestsSaid :=
  OpenClaim.holds_of_cond 7 Tryd.f7 rfl rfl rfl rfl rfl rfl rfl ⟨rfl, rfl, rfl, rfl, rfl⟩ rfl rfl rfl rfl rfl (by kernel_rfl) Tryd.func7 (by kernel_rfl)
    (of_decide_eq_true (by kernel_rfl)) (by unfold Func.isWrapper; first | (rw [if_pos (by decide +kernel)]; kernel_rfl) | (rw [if_neg (by decide +kernel)]; exact ⟨rfl, rfl⟩))
    (fun os started H enc _ F => by rw [OpenClaim.pre_eq_preRow]; exact lifted os started H enc F)

/-- No parameter wants a stand-in; the program's own looks are off. -/
theorem plain (f : FuncId) (fn : Func) (hf : Tryd.pinned.checked.prog.funcNamed "treadwheel/treadwheellaw04.CellRests" = some f) (hfn : Tryd.pinned.checked.prog.funcs[f]? = some fn) :
    false = Tryd.pinned.checked.prog.looks [] ∧ ∀ (j : Nat) t, fn.params[j]? = some t → Tryd.pinned.checked.prog.wantsStandIn t = false := by
  obtain rfl : f = 7 := Option.some.inj ((show Tryd.prog.funcNamed "treadwheel/treadwheellaw04.CellRests" = some 7 by kernel_rfl).symm.trans hf) |>.symm
  obtain rfl : fn = Tryd.f7 := (Option.some.inj (Tryd.func7.symm.trans hfn)).symm
  refine ⟨by kernel_rfl, fun j t ht => ?_⟩
  rw [Tryd.params7] at ht
  have hm := Array.mem_of_getElem? ht
  simp only [List.mem_toArray, List.mem_cons, List.not_mem_nil, or_false] at hm
  subst hm
  · exact (show Tryd.prog.wantsStandIn 23 = false by kernel_rfl)

/-- THE CARD. -/
theorem card : Rows.CellRestsCardSaid :=
  Claim7.holds_tied_plain_at .later [] _ _ _ _ said (fun _ h => by cases h) (by kernel_rfl) (fun _ h => by cases h) cellRests_row_tie rfl ⟨rfl, rfl⟩ (by kernel_rfl) rfl plain (by kernel_rfl)
end Go.Proofs.YtpfchfpliljglaaDoor.cellRests
namespace Go.Proofs.YtpfchfpliljglaaDoor
theorem cellRests_card : Rows.CellRestsCardSaid := cellRests.card
end Go.Proofs.YtpfchfpliljglaaDoor
