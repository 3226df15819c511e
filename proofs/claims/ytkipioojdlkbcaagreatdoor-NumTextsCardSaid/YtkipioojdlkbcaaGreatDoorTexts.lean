/- NumTexts: for every number and every text the statement's function returns true (any number has just the document's text, any text tells just its number, or its error), where the listed tables and the two errors of the library are as the program's text lays them; each argument reads behind the call as before. -/
import Derived.Test.YtkipioojdlkbcaaGreatDoorCards
import Derived.Test.YtkipioojdlkbcaaGreatDoorTie
import Derived.Test.YtkipioojdlkbcaaGreatDoorTextW
import Derived.Lib.SmallJoins
import Derived.ChangeMaps5
import Derived.LaidMore
import Derived.Lay
import Derived.SevenTiedAt
import Derived.Stop.Joined
namespace Go.Proofs.YtkipioojdlkbcaaGreatDoor.numTexts
open Go.ChangeShapes Go.WideShapes Go.ChangeAt Go.RowKit
open Go.ChangeMaps (open_string shut_string)
open Go.Extern.Stop Go.Stop Go.Extern

theorem own : ownKnob Tryz.prog.godebug = none := by kernel_rfl

theorem und_num : Tryz.prog.underlying 24 = some (.struct #[⟨"Float", 4, 0, false, "", "", 0⟩, ⟨"Bits", 22, 1, false, "", "", 8⟩]) := by kernel_rfl

set_option maxRecDepth 100000 in
theorem open_num {H : Type} {enc : TypeId × Value → H} {w : World} {base : Nat} {spare : Nat → Bool} {held : Bool} {r : Reach} {b0 : Nat} {v : Value} {d : DataW H} {p : List MemPlace}
    (hv : Value.okWide Tryz.prog w r b0 24 v) (h : DataW.Trod enc Tryz.prog w base spare held 24 v d p) :
    ∃ (f : Bool) (x : Int), v = .agg #[.bool f, .int .u64 x] ∧ d = .agg [.lit (.bool f), .lit (.int .u64 x)] ∧ p = [] ∧ (Lit.int .u64 x).wf = true := by
  obtain ⟨v0, v1, y0, y1, n, rfl, rfl, rfl, h0, h1⟩ := Go.Joins.open_agg2 und_num (by kernel_rfl) (by kernel_rfl) hv h
  obtain ⟨f, hf, rfl⟩ := DataW.trod_bool Tryz.underlying4 h0
  obtain ⟨x, hx, rfl, hw⟩ := DataW.trod_int Tryz.underlying22 h1
  simp only [List.cons.injEq, and_true] at hf hx
  subst hf
  subst hx
  exact ⟨f, x, rfl, rfl, rfl, hw⟩

set_option maxRecDepth 100000 in
theorem shut_num {H : Type} {enc : TypeId × Value → H} {w : World} {base : Nat} {spare : Nat → Bool} {held : Bool} {f : Bool} {x : Int} (hw : (Lit.int .u64 x).wf = true) :
    DataW.Trod enc Tryz.prog w base spare held 24 (.agg #[.bool f, .int .u64 x]) (.agg [.lit (.bool f), .lit (.int .u64 x)]) [] :=
  Go.Joins.shut_agg2 (y0 := (.lit (.bool f), [])) (y1 := (.lit (.int .u64 x), [])) und_num (by kernel_rfl) (by kernel_rfl) ⟨1, by simp [DataW.trod, Tryz.underlying4]⟩ ⟨1, by simp [DataW.trod, Tryz.underlying22, hw]⟩

theorem star : "*" ++ "errors.errorString" = "*errors.errorString" := by decide
theorem rowErr (u : TypeId) (h : Tryz.prog.typeName? 3 u = some "*errors.errorString") : u = 121 :=
  typeName_ptr_named (nm := "errors.errorString") (by rw [star]; kernel_rfl) (by kernel_rfl) (by decide) u (by rw [star]; exact h)

/-- WHAT THE ROW's LIST GIVES. -/
theorem env2 {W : World} (h0 : laidMetH Tryz.prog Rows.numTextsRow.laid W) : Env W ∧ EE W := by
  have h' : laidMet Tryz.prog Rows.numTextsRow.laid W := by
    have h := h0
    rw [MakeChecks.laidMetH_plain _ _ _ (by kernel_rfl)] at h
    exact h
  have h2 := laidMet.tail h'
  have h3 := laidMet.tail h2
  have h4 := laidMet.tail h3
  have h5 := laidMet.tail h4
  have h6 := laidMet.tail h5
  have g1 : Tryz.prog.globalNamed "internal/strconv.uint64pow10" = some 0 := by kernel_rfl
  have g6 : Tryz.prog.globalNamed "math/bits.deBruijn64tab" = some 6 := by kernel_rfl
  have gR : Tryz.prog.globalNamed "strconv.ErrRange" = some 3 := by kernel_rfl
  have gS : Tryz.prog.globalNamed "strconv.ErrSyntax" = some 2 := by kernel_rfl
  have t1 : Lib.TabIs Tryz.prog W "internal/strconv.uint64pow10" .u64 Lib.pow10Tab :=
    Lib.tabIs_of_head g1 (show (Tryz.prog.globals[0]?).map (·.type) = some 105 by kernel_rfl) Tryz.underlying105 Tryz.underlying22 (by kernel_rfl) (by kernel_rfl) h3
  have t6 : Lib.TabIs Tryz.prog W "math/bits.deBruijn64tab" .u8 tab64 :=
    Lib.tabIs_of_head g6 (show (Tryz.prog.globals[6]?).map (·.type) = some 126 by kernel_rfl) Tryz.underlying126 Tryz.underlying5 (by kernel_rfl) (by kernel_rfl) h2
  obtain ⟨a1, s1, v1, _, _, _⟩ := laid_sentinel h5 gR (show (Tryz.prog.globals[3]?).map (·.type) = some 50 by kernel_rfl) Tryz.underlying50 rowErr Tryz.underlying121 Tryz.underlying123 rfl rfl Tryz.underlying9 (by kernel_rfl) (by kernel_rfl)
  obtain ⟨a2, s2, v2, _, _, _⟩ := laid_sentinel h6 gS (show (Tryz.prog.globals[2]?).map (·.type) = some 50 by kernel_rfl) Tryz.underlying50 rowErr Tryz.underlying121 Tryz.underlying123 rfl rfl Tryz.underlying9 (by kernel_rfl) (by kernel_rfl)
  have c1 : W.cell? ⟨3, 0, none⟩ = some (.iface 121 (.pointer (some a1))) := by simpa using World.var?_cell gR v1 0
  have c2 : W.cell? ⟨2, 0, none⟩ = some (.iface 121 (.pointer (some a2))) := by simpa using World.var?_cell gS v2 0
  exact ⟨⟨t1, t6.cell g6 15 (by decide)⟩, ⟨_, c2, Or.inr ⟨_, _, rfl⟩⟩, ⟨_, c1, Or.inr ⟨_, _, rfl⟩⟩⟩

theorem walk (f : Bool) (x : Int) (s : ByteArray) (W : World) (hx : 0 ≤ x ∧ x ≤ 18446744073709551615) (hE : Env W) (hEE : EE W) :
    Calls Tryz.prog 3 #[.agg #[.bool f, .int .u64 x], .string s] W fun e W' => e = .returned (.bool true) ∧ Below W.heap.size W W' := by
  by_cases h : s.size ≤ 1000
  · exact texts_short f x s W hx.1 (by omega) h hE hEE
  · exact texts_long f x s W (by omega) hE

set_option maxRecDepth 100000 in
theorem lifted (os : Os) (started : os.Started) (H : Type) (enc : TypeId × Value → H) :
    ReturnsInHanded {} Tryz.checked os 3 .any (fun w args => (Rows.numTextsSpec.pre enc Tryz.prog Tryz.f3 Rows.numTextsRow.domain false w args ∧ laidMetH Tryz.prog Rows.numTextsRow.laid w) ∧ sizedMet enc Tryz.prog Tryz.f3 (OpenSpec.ofChange Rows.numTextsSpec) false w args)
      (Rows.numTextsSpec.post enc Tryz.prog Tryz.f3 false true false false) := by
  refine returnsInHanded_of_change_and (C := Tryz.checked) (X := fun w _ => laidMetH Tryz.prog Rows.numTextsRow.laid w) (fun _ _ _ hh h => h.of_heap hh) own started (by kernel_rfl) Tryz.func3
    (ChangeSpec.witness_shaped (enc := enc) (C := Tryz.checked) (os := os) (X := fun w _ => laidMetH Tryz.prog Rows.numTextsRow.laid w) false (World.laidAll Tryz.prog os Rows.numTextsRow.laid) #[.agg #[.bool false, .int .u64 0], .string ⟨#[]⟩] 8 (World.laidAll_os _ _ _)
      (World.shaped_of_ZipB (by kernel_rfl) (by kernel_rfl)) (by kernel_rfl) (by kernel_rfl) (by kernel_rfl)
      (by rw [MakeChecks.laidMetH_plain _ _ _ (by kernel_rfl)]; exact laidMet_laidAll _ (by kernel_rfl) (by kernel_rfl))) ?_
  intro W base args ds gs before hval0 hW _ _ hL _
  have hval : ∀ (j : Nat) t v, Tryz.f3.params[j]? = some t → args[j]? = some v → Value.okWide Tryz.prog W .any base t v := hval0
  obtain ⟨hE, hEE⟩ := env2 hL
  have hW' := hW
  obtain ⟨p, q, hA0, hV, rfl, _, _⟩ := hW
  have hA : DataW.TrodAll enc Tryz.prog W 0 (fun _ => true) true Tryz.f3.params.toList args.toList ds p := hA0
  rw [Tryz.params3] at hA hval
  obtain ⟨v0, vs0, d0, ds0, p0, q0, hargs, rfl, rfl, h0, r0⟩ := trodAll_cons hA
  obtain ⟨v1, vs1, d1, ds1, p1, q1, rfl, rfl, rfl, h1, r1⟩ := trodAll_cons r0
  obtain ⟨rfl, rfl, rfl⟩ := trodAll_nil r1
  obtain rfl : args = #[v0, v1] := by cases args; simp_all
  obtain ⟨rfl, rfl⟩ := trodVars_none hV
  obtain ⟨f, x, rfl, rfl, rfl, wx⟩ := open_num (hval 0 24 v0 rfl rfl) h0
  obtain ⟨s, rfl, rfl, rfl, ws⟩ := open_string Tryz.underlying9 (hval 1 9 v1 rfl rfl) h1
  clear hA0
  simp only [List.append_nil] at hW'
  refine (walk f x s W (bounds_u64 wx) hE hEE).mono fun e W' ⟨he, hb⟩ => ?_
  subst he
  exact ⟨_, rfl, _, _, _, [], [], [], hW', trodAll_cons_mk (shut_bool Tryz.underlying4 _) trodAll_mk0, trodAll_cons_mk (shut_num wx) (trodAll_cons_mk (shut_string Tryz.underlying9 ws) trodAll_mk0), rfl, hb.frame _, fun h => by cases h⟩

theorem said : Rows.NumTextsSaid :=
  OpenClaim.holds_of_wide 3 Tryz.f3 rfl rfl rfl rfl rfl rfl rfl ⟨rfl, rfl, rfl, rfl, rfl⟩ rfl rfl rfl rfl rfl (by kernel_rfl) Tryz.func3 (by kernel_rfl)
    (of_decide_eq_true (by kernel_rfl)) (by unfold Func.isWrapper; first | (rw [if_pos (by decide +kernel)]; kernel_rfl) | (rw [if_neg (by decide +kernel)]; exact ⟨rfl, rfl⟩))
    (fun os started H enc _ => lifted os started H enc)

/-- No parameter wants a stand-in; the program's own looks are off. -/
theorem plain (f : FuncId) (fn : Func) (hf : Tryz.pinned.checked.prog.funcNamed "treadwheel/treadwheellaw01.NumTexts" = some f) (hfn : Tryz.pinned.checked.prog.funcs[f]? = some fn) :
    true = Tryz.pinned.checked.prog.looks [] ∧ ∀ (j : Nat) t, fn.params[j]? = some t → Tryz.pinned.checked.prog.wantsStandIn t = false := by
  obtain rfl : f = 3 := Option.some.inj ((show Tryz.prog.funcNamed "treadwheel/treadwheellaw01.NumTexts" = some 3 by kernel_rfl).symm.trans hf) |>.symm
  obtain rfl : fn = Tryz.f3 := (Option.some.inj (Tryz.func3.symm.trans hfn)).symm
  refine ⟨by kernel_rfl, fun j t ht => ?_⟩
  rw [Tryz.params3] at ht
  have hm := Array.mem_of_getElem? ht
  simp only [List.mem_toArray, List.mem_cons, List.not_mem_nil, or_false] at hm
  rcases hm with rfl | rfl
  · exact (show Tryz.prog.wantsStandIn 24 = false by kernel_rfl)
  · exact (show Tryz.prog.wantsStandIn 9 = false by kernel_rfl)

/-- THE CARD. -/
theorem card : Rows.NumTextsCardSaid :=
  Claim7.holds_tied_plain_at .later [] _ _ _ _ said (fun _ h => by cases h) (by kernel_rfl) (fun _ h => by cases h) numTexts_row_tie rfl ⟨rfl, rfl⟩ (by kernel_rfl) rfl plain (by kernel_rfl)
end Go.Proofs.YtkipioojdlkbcaaGreatDoor.numTexts
namespace Go.Proofs.YtkipioojdlkbcaaGreatDoor
theorem numTexts_card : Rows.NumTextsCardSaid := numTexts.card
end Go.Proofs.YtkipioojdlkbcaaGreatDoor
