/- The document's example; an object as an argument: opened, and shut again. -/
import Derived.Test.YtpfchfpliljglaaDoorCeG
import Derived.ProofKit
import Derived.OpenShut
import Derived.Deep.DeepHandedRow
import Derived.Lib.SmallJoins
import Derived.Stop.LaidErr
namespace Go.Proofs.YtpfchfpliljglaaDoor
open Go.RowKit Go.Sort Go.ChangeShapes Go.WideShapes Go.ChangeAt

theorem awake_any (w : World) (hE : Env w) : Calls Tryd.prog 8 #[] w fun e w' => e = .returned (.bool true) ∧ Below w.heap.size w w' := by
  have HP : Hid (∀ W : World, Calls Tryd.prog 9 #[.agg #[.int .i64 1, .int .i64 2, .int .i64 5, .int .i64 1]] W fun e w' => e = .returned (.tuple #[.int .i64 5201, .int .i64 0]) ∧ Below W.heap.size W w') := Lib.hid fun W => by
    have hp := pack_any 1 2 5 1 W
    rw [show pw 1 2 5 1 = 5201 by decide, show pe 1 2 5 1 = 0 by decide] at hp
    exact hp
  have HL : Hid (∀ W : World, Env W → Calls Tryd.prog 13 #[.agg #[.int .i64 9, .int .i64 4, .int .i64 0, .int .i64 0]] W fun e w' => e = .returned (.tuple #[.int .i64 1, .int .i64 4]) ∧ Below W.heap.size W w') := Lib.hid fun W h => by
    have hp := links_any 9 4 0 0 W h
    rw [show lf 9 4 0 0 = 1 by decide, show lt 9 4 0 0 = 4 by decide] at hp
    exact hp
  go_enter Tryd.func8, Tryd.ntmps8
  go_wp2_with fail
  refine (HP.out _).mono ?_
  rintro e x1 ⟨rfl, hb⟩
  replace hE := hE.below hb
  go_wp2_with fail
  refine (HL.out _ hE).mono ?_
  rintro e x2 ⟨rfl, hb2⟩
  replace hb := onB hb hb2
  clear hb2 hE
  go_wp2
  go_ret
  exact ⟨rfl, hb⟩

theorem und_cell : Tryd.prog.underlying 23 = some (.struct #[⟨"Kind", 3, 0, false, "", "", 0⟩, ⟨"Size", 3, 1, false, "", "", 8⟩, ⟨"Aux", 3, 2, false, "", "", 16⟩, ⟨"Mark", 3, 3, false, "", "", 24⟩]) := by kernel_rfl

set_option maxRecDepth 100000 in
theorem open_cell {H : Type} {enc : TypeId × Value → H} {w : World} {base : Nat} {spare : Nat → Bool} {held : Bool} {r : Reach} {b0 : Nat} {v : Value} {d : DataW H} {p : List MemPlace}
    (hv : Value.okWide Tryd.prog w r b0 23 v) (h : DataW.Trod enc Tryd.prog w base spare held 23 v d p) :
    ∃ (k s a m : Int), v = .agg #[.int .i64 k, .int .i64 s, .int .i64 a, .int .i64 m] ∧ d = .agg [.lit (.int .i64 k), .lit (.int .i64 s), .lit (.int .i64 a), .lit (.int .i64 m)] ∧ p = [] ∧
      (Lit.int .i64 k).wf = true ∧ (Lit.int .i64 s).wf = true ∧ (Lit.int .i64 a).wf = true ∧ (Lit.int .i64 m).wf = true := by
  obtain ⟨v0, v1, v2, v3, y0, y1, y2, y3, n, rfl, rfl, rfl, h0, h1, h2, h3⟩ := Go.Joins.open_agg4 und_cell (by kernel_rfl) (by kernel_rfl) hv h
  obtain ⟨k, hk, rfl, wk⟩ := DataW.trod_int Tryd.underlying3 h0
  obtain ⟨s, hs, rfl, ws⟩ := DataW.trod_int Tryd.underlying3 h1
  obtain ⟨a, ha, rfl, wa⟩ := DataW.trod_int Tryd.underlying3 h2
  obtain ⟨m, hm, rfl, wm⟩ := DataW.trod_int Tryd.underlying3 h3
  simp only [List.cons.injEq, and_true] at hk hs ha hm
  subst hk hs ha hm
  exact ⟨k, s, a, m, rfl, rfl, rfl, wk, ws, wa, wm⟩

set_option maxRecDepth 100000 in
theorem shut_cell {H : Type} {enc : TypeId × Value → H} {w : World} {base : Nat} {spare : Nat → Bool} {held : Bool} {k s a m : Int} (wk : (Lit.int .i64 k).wf = true) (ws : (Lit.int .i64 s).wf = true) (wa : (Lit.int .i64 a).wf = true) (wm : (Lit.int .i64 m).wf = true) :
    DataW.Trod enc Tryd.prog w base spare held 23 (.agg #[.int .i64 k, .int .i64 s, .int .i64 a, .int .i64 m]) (.agg [.lit (.int .i64 k), .lit (.int .i64 s), .lit (.int .i64 a), .lit (.int .i64 m)]) [] :=
  Go.Joins.shut_agg4 (y0 := (.lit (.int .i64 k), [])) (y1 := (.lit (.int .i64 s), [])) (y2 := (.lit (.int .i64 a), [])) (y3 := (.lit (.int .i64 m), [])) und_cell (by kernel_rfl) (by kernel_rfl)
    ⟨1, by simp [DataW.trod, Tryd.underlying3, wk]⟩ ⟨1, by simp [DataW.trod, Tryd.underlying3, ws]⟩ ⟨1, by simp [DataW.trod, Tryd.underlying3, wa]⟩ ⟨1, by simp [DataW.trod, Tryd.underlying3, wm]⟩

/-- A block's cells, laid anew. -/
def putTab (cs : Array Value) : Obj → Obj
  | .cells _ t frozen => .cells cs t frozen
  | o => o
/-- The table's cells. -/
def tabCells : Array Value := ((lfrom.zip lto).flatMap fun x => [Value.int .i64 x.1, Value.int .i64 x.2]).toArray
/-- A WORLD FOR THE WITNESS: the settled one, the table holding what its initialiser lays. -/
noncomputable def laidWorld (os : Os) : World :=
  { World.holding Tryd.prog os ⟨#[], #[], []⟩ with heap := (World.holding Tryd.prog os ⟨#[], #[], []⟩).heap.modify 0 (putTab tabCells) }
end Go.Proofs.YtpfchfpliljglaaDoor
