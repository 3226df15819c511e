/- NumCalcs: for all an operation's number and two numbers the statement's function returns true, where the three tables of the library that it reads are as the program's text lays them; each argument reads behind the call as before. -/
import Derived.Test.YtkmickgngijdlaaDoorCards
import Derived.Test.YtkmickgngijdlaaDoorTie
import Derived.Test.YtkmickgngijdlaaDoorBoth
import Derived.Lib.SmallJoins
namespace Go.Proofs.YtkmickgngijdlaaDoor.numCalcs
open Go.ChangeShapes Go.WideShapes Go.ChangeAt Go.RowKit

theorem own : ownKnob Tryd.prog.godebug = none := by kernel_rfl

theorem und_num : Tryd.prog.underlying 24 = some (.struct #[⟨"Float", 4, 0, false, "", "", 0⟩, ⟨"Bits", 22, 1, false, "", "", 8⟩]) := by kernel_rfl

set_option maxRecDepth 100000 in
theorem open_num {H : Type} {enc : TypeId × Value → H} {w : World} {base : Nat} {spare : Nat → Bool} {held : Bool} {r : Reach} {b0 : Nat} {v : Value} {d : DataW H} {p : List MemPlace}
    (hv : Value.okWide Tryd.prog w r b0 24 v) (h : DataW.Trod enc Tryd.prog w base spare held 24 v d p) :
    ∃ (f : Bool) (x : Int), v = .agg #[.bool f, .int .u64 x] ∧ d = .agg [.lit (.bool f), .lit (.int .u64 x)] ∧ p = [] ∧ (Lit.int .u64 x).wf = true := by
  obtain ⟨v0, v1, y0, y1, n, rfl, rfl, rfl, h0, h1⟩ := Go.Joins.open_agg2 und_num (by kernel_rfl) (by kernel_rfl) hv h
  obtain ⟨f, hf, rfl⟩ := DataW.trod_bool Tryd.underlying4 h0
  obtain ⟨x, hx, rfl, hw⟩ := DataW.trod_int Tryd.underlying22 h1
  simp only [List.cons.injEq, and_true] at hf hx
  subst hf
  subst hx
  exact ⟨f, x, rfl, rfl, rfl, hw⟩

set_option maxRecDepth 100000 in
theorem shut_num {H : Type} {enc : TypeId × Value → H} {w : World} {base : Nat} {spare : Nat → Bool} {held : Bool} {f : Bool} {x : Int} (hw : (Lit.int .u64 x).wf = true) :
    DataW.Trod enc Tryd.prog w base spare held 24 (.agg #[.bool f, .int .u64 x]) (.agg [.lit (.bool f), .lit (.int .u64 x)]) [] :=
  Go.Joins.shut_agg2 (y0 := (.lit (.bool f), [])) (y1 := (.lit (.int .u64 x), [])) und_num (by kernel_rfl) (by kernel_rfl) ⟨1, by simp [DataW.trod, Tryd.underlying4]⟩ ⟨1, by simp [DataW.trod, Tryd.underlying22, hw]⟩

set_option maxRecDepth 100000 in
set_option maxHeartbeats 4000000 in
theorem walk (op : Int) (f g : Bool) (x y : Int) (W : World) (hx : In64 x) (hy : In64 y) (hE : Env W) :
    Calls Tryd.prog 3 #[.int .i64 op, .agg #[.bool f, .int .u64 x], .agg #[.bool g, .int .u64 y]] W fun e W' => e = .returned (.bool true) ∧ Below W.heap.size W W' := by
  obtain ⟨vf, vb, E, hN, hR⟩ := both_calc op f g x y hx hy
  obtain ⟨tv, tE, hT, hQ⟩ := both_test op f g x y hx hy
  have HN := Lib.hid hN
  have HR := Lib.hid hR
  have HT := Lib.hid hT
  have HQ := Lib.hid hQ
  clear hN hR hT hQ hx hy
  obtain ⟨W0, hW0, hS⟩ := boxes2 f g x y W
  have HW := Lib.hid hW0; clear hW0
  go_enter Tryd.func3, Tryd.ntmps3
  go_wp2_with fail
  rw [← HW.out]
  clear HW
  replace hE := hE.below hS.1
  refine (awake_any _ hE).mono ?_
  rintro e x1 ⟨rfl, hb⟩
  replace hS := S2.below hS hb
  clear hb hE
  obtain ⟨-, s1, c1, c2, c3, c4⟩ := id hS
  go_wp2_with fail
  refine (HN.out _).mono ?_
  rintro e x2 ⟨rfl, hb⟩
  replace hS := S2.below hS hb
  clear hb c1 c2 c3 c4 HN
  obtain ⟨-, s2, c1, c2, c3, c4⟩ := id hS
  have l1 : W.heap.size < x2.heap.size := by omega
  have l2 : W.heap.size + 1 < x2.heap.size := by omega
  go_wp2_with fail
  clear l1 l2
  have p0 : (World.alloc x2 (Obj.cells #[Value.bool vf, Value.int IntKind.u64 vb] 24)).cell? ⟨x2.heap.size, 0, none⟩ = some (.bool vf) := by simp
  have p1 : (World.alloc x2 (Obj.cells #[Value.bool vf, Value.int IntKind.u64 vb] 24)).cell? ⟨x2.heap.size, 1, none⟩ = some (.int .u64 vb) := by simp
  replace hS := S2.below hS ((Below.refl _ _).alloc (Nat.le_refl _) (Obj.cells #[Value.bool vf, Value.int IntKind.u64 vb] 24))
  clear c1 c2 c3 c4
  refine (HR.out _).mono ?_
  rintro e x3 ⟨rfl, hb⟩
  replace hS := S2.below hS hb
  replace p0 := cell_later hb p0
  replace p1 := cell_later hb p1
  clear hb HR
  obtain ⟨-, s3, c1, c2, c3, c4⟩ := id hS
  have l1 : W.heap.size < x3.heap.size := by omega
  have l2 : W.heap.size + 1 < x3.heap.size := by omega
  have l3 : x2.heap.size < x3.heap.size := World.block_lt_of_cell? _ _ p0
  go_wp2_with fail
  clear l1 l2 l3
  have q0 : (World.alloc x3 (Obj.cells #[Value.bool vf, Value.int IntKind.u64 vb] 24)).cell? ⟨x3.heap.size, 0, none⟩ = some (.bool vf) := by simp
  have q1 : (World.alloc x3 (Obj.cells #[Value.bool vf, Value.int IntKind.u64 vb] 24)).cell? ⟨x3.heap.size, 1, none⟩ = some (.int .u64 vb) := by simp
  replace p0 := cell_later ((Below.refl _ _).alloc (Nat.le_refl _) (Obj.cells #[Value.bool vf, Value.int IntKind.u64 vb] 24)) p0
  replace p1 := cell_later ((Below.refl _ _).alloc (Nat.le_refl _) (Obj.cells #[Value.bool vf, Value.int IntKind.u64 vb] 24)) p1
  replace hS := S2.below hS ((Below.refl _ _).alloc (Nat.le_refl _) (Obj.cells #[Value.bool vf, Value.int IntKind.u64 vb] 24))
  clear c1 c2 c3 c4
  refine (HT.out _).mono ?_
  rintro e x4 ⟨rfl, hb⟩
  replace hS := S2.below hS hb
  replace p0 := cell_later hb p0
  replace p1 := cell_later hb p1
  replace q0 := cell_later hb q0
  replace q1 := cell_later hb q1
  clear hb HT
  obtain ⟨-, s4, c1, c2, c3, c4⟩ := id hS
  go_wp2_with fail
  clear c1 c2 c3 c4
  refine (HQ.out _).mono ?_
  rintro e x5 ⟨rfl, hb⟩
  replace hS := S2.below hS hb
  replace p0 := cell_later hb p0
  replace p1 := cell_later hb p1
  replace q0 := cell_later hb q0
  replace q1 := cell_later hb q1
  clear hb HQ
  obtain ⟨hB, s5, c1, c2, c3, c4⟩ := id hS
  go_wp2_with fail
  go_ret
  exact ⟨rfl, hB⟩


set_option maxRecDepth 100000 in
/-- WHAT THE WALK GIVES, FOR EVERY ARGUMENT AND EVERY WORLD THAT HOLDS THE TABLES. -/
theorem contract (H : Type) (enc : TypeId × Value → H) (W : World) (base : Nat) (args : Array Value) (ds gs : List (DataW H)) (before : List MemPlace)
    (hval : ∀ (j : Nat) t v, Tryd.f3.params[j]? = some t → args[j]? = some v → Value.okWide Tryd.prog W .any base t v)
    (hW : DataW.Whole enc Tryd.prog Tryd.f3.params.toList Rows.numCalcsSpec.vars false W args.toList ds gs before) (hL : laidMetH Tryd.prog Rows.numCalcsRow.laid W) :
    Calls Tryd.prog 3 args W fun e W' => ∃ v, e = .returned v ∧ Rows.numCalcsSpec.post enc Tryd.prog Tryd.f3 false true false false W args v W' := by
  have hE : Env W := env_of hL
  have hW' := hW
  obtain ⟨p, q, hA0, hV, rfl, hfz, hnd⟩ := hW
  have hA : DataW.TrodAll enc Tryd.prog W 0 (fun _ => true) true Tryd.f3.params.toList args.toList ds p := hA0
  rw [Tryd.params3] at hA hval
  obtain ⟨v0, vs0, d0, ds0, p0, q0, hargs, rfl, rfl, h0, r0⟩ := trodAll_cons hA
  obtain ⟨v1, vs1, d1, ds1, p1, q1, rfl, rfl, rfl, h1, r1⟩ := trodAll_cons r0
  obtain ⟨v2, vs2, d2, ds2, p2, q2, rfl, rfl, rfl, h2, r2⟩ := trodAll_cons r1
  obtain ⟨rfl, rfl, rfl⟩ := trodAll_nil r2
  obtain rfl : args = #[v0, v1, v2] := by cases args; simp_all
  obtain ⟨rfl, rfl⟩ := trodVars_none hV
  obtain ⟨op, rfl, rfl, rfl, wop⟩ := open_int Tryd.underlying3 (hval 0 3 v0 rfl rfl) h0
  obtain ⟨f, x, rfl, rfl, rfl, wx⟩ := open_num (hval 1 24 v1 rfl rfl) h1
  obtain ⟨g, y, rfl, rfl, rfl, wy⟩ := open_num (hval 2 24 v2 rfl rfl) h2
  clear hA0
  simp only [List.append_nil] at hW'
  refine (walk op f g x y W (bounds_u64 wx) (bounds_u64 wy) hE).mono fun e W' ⟨he, hb⟩ => ?_
  subst he
  exact ⟨_, rfl, _, _, _, [], [], [], hW', trodAll_cons_mk (shut_bool Tryd.underlying4 _) trodAll_mk0, trodAll_cons_mk (shut_int Tryd.underlying3 wop) (trodAll_cons_mk (shut_num wx) (trodAll_cons_mk (shut_num wy) trodAll_mk0)), rfl, hb.frame _, fun h => by cases h⟩

/-- A WORLD FOR THE WITNESS: the settled one, the three tables holding what their initialisers lay. -/
noncomputable def laidWorld (os : Os) : World :=
  { World.holding Tryd.prog os ⟨#[], #[], []⟩ with heap := (((World.holding Tryd.prog os ⟨#[], #[], []⟩).heap.modify 5 (putTab (tab32.map (Value.int .u8)).toArray)).modify 6
      (putTab (tab64.map (Value.int .u8)).toArray)).modify 1 (putTab (Lib.pow10Tab.map (Value.int .u64)).toArray) }
theorem laid_met (os : Os) : laidMet Tryd.prog Rows.numCalcsRow.laid ((laidWorld os).forCall (fun _ _ => 0) ⟨#[], #[.int .i64 0, .agg #[.bool false, .int .u64 0], .agg #[.bool false, .int .u64 0]], []⟩).memory :=
  laidMet_of_run' 8 (by kernel_rfl) (by kernel_rfl)
theorem reads (os : Os) {H : Type} (enc : TypeId × Value → H) : ∃ places, DataW.whole enc Tryd.prog ((laidWorld os).forCall (fun _ _ => 0) ⟨#[], #[.int .i64 0, .agg #[.bool false, .int .u64 0], .agg #[.bool false, .int .u64 0]], []⟩).memory Tryd.f3.params.toList Rows.numCalcsSpec.vars false (#[.int .i64 0, .agg #[.bool false, .int .u64 0], .agg #[.bool false, .int .u64 0]] : Array Value).toList 8 = some ([.lit (.int .i64 0), .agg [.lit (.bool false), .lit (.int .u64 0)], .agg [.lit (.bool false), .lit (.int .u64 0)]], [], places) :=
  ⟨[], by kernel_rfl⟩

set_option maxRecDepth 100000 in
theorem lifted (os : Os) (started : os.Started) (H : Type) (enc : TypeId × Value → H) (F : Stop.Interp) :
    ReturnsInHanded {} Tryd.checked os 3 .any ((OpenSpec.ofChange Rows.numCalcsSpec).preRow enc Tryd.prog Tryd.f3 Rows.numCalcsRow.domain false Rows.numCalcsRow.laid) (((OpenSpec.ofChange Rows.numCalcsSpec).at F).post enc Tryd.prog Tryd.f3 false true false false) := by
  obtain ⟨places, hx⟩ := reads os enc
  refine returnsInHanded_of_row (C := Tryd.checked) (s := OpenSpec.ofChange Rows.numCalcsSpec) own started (by kernel_rfl) Tryd.func3
    (witness_row_at (enc := enc) (C := Tryd.checked) false (laidWorld os) #[.int .i64 0, .agg #[.bool false, .int .u64 0], .agg #[.bool false, .int .u64 0]] rfl (by kernel_rfl) (by kernel_rfl) (by kernel_rfl)
      (OpenSpec.preRow_of_cond 8 hx (by kernel_rfl) (fun k hk => by cases hk) (by kernel_rfl) (laid_met os))) ?_
  intro W base args ds gs before hval hW _ _ _ hL _ _
  exact contract H enc W base args ds gs before hval hW hL

theorem said : Rows.NumCalcsSaid :=
  OpenClaim.holds_of_cond 3 Tryd.f3 rfl rfl rfl rfl rfl rfl rfl ⟨rfl, rfl, rfl, rfl, rfl⟩ rfl rfl rfl rfl rfl (by kernel_rfl) Tryd.func3 (by kernel_rfl)
    (of_decide_eq_true (by kernel_rfl)) (by unfold Func.isWrapper; first | (rw [if_pos (by decide +kernel)]; kernel_rfl) | (rw [if_neg (by decide +kernel)]; exact ⟨rfl, rfl⟩))
    (fun os started H enc _ F => by rw [OpenClaim.pre_eq_preRow]; exact lifted os started H enc F)

/-- No parameter wants a stand-in; the program's own looks are off. -/
theorem plain (f : FuncId) (fn : Func) (hf : Tryd.pinned.checked.prog.funcNamed "treadwheel/treadwheellaw01.NumCalcs" = some f) (hfn : Tryd.pinned.checked.prog.funcs[f]? = some fn) :
    true = Tryd.pinned.checked.prog.looks [] ∧ ∀ (j : Nat) t, fn.params[j]? = some t → Tryd.pinned.checked.prog.wantsStandIn t = false := by
  obtain rfl : f = 3 := Option.some.inj ((show Tryd.prog.funcNamed "treadwheel/treadwheellaw01.NumCalcs" = some 3 by kernel_rfl).symm.trans hf) |>.symm
  obtain rfl : fn = Tryd.f3 := (Option.some.inj (Tryd.func3.symm.trans hfn)).symm
  refine ⟨by kernel_rfl, fun j t ht => ?_⟩
  rw [Tryd.params3] at ht
  have hm := Array.mem_of_getElem? ht
  simp only [List.mem_toArray, List.mem_cons, List.not_mem_nil, or_false] at hm
  rcases hm with rfl | rfl | rfl
  · exact (show Tryd.prog.wantsStandIn 3 = false by kernel_rfl)
  · exact (show Tryd.prog.wantsStandIn 24 = false by kernel_rfl)
  · exact (show Tryd.prog.wantsStandIn 24 = false by kernel_rfl)

/-- THE CARD. -/
theorem card : Rows.NumCalcsCardSaid :=
  Claim7.holds_tied_plain_at .later [] _ _ _ _ said (fun _ h => by cases h) (by kernel_rfl) (fun _ h => by cases h) numCalcs_row_tie rfl ⟨rfl, rfl⟩ (by kernel_rfl) rfl plain (by kernel_rfl)
end Go.Proofs.YtkmickgngijdlaaDoor.numCalcs
namespace Go.Proofs.YtkmickgngijdlaaDoor
theorem numCalcs_card : Rows.NumCalcsCardSaid := numCalcs.card
end Go.Proofs.YtkmickgngijdlaaDoor
