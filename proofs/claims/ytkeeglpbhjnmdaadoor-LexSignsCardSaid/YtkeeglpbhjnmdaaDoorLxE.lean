/- The sign that a text begins with. -/
import Derived.Test.YtkeeglpbhjnmdaaDoorLxD
import Derived.Deep.MidRow
namespace Go.Proofs.YtkeeglpbhjnmdaaDoor
open Go.RowKit Go.Lib

/-- The signs, and their kinds. -/
def signsB : List (ByteArray × Int) := [(⟨#[61, 61, 46]⟩, 4), (⟨#[61, 61]⟩, 4), (⟨#[61]⟩, 6), (⟨#[45, 62]⟩, 6), (⟨#[45, 46]⟩, 4), (⟨#[45]⟩, 4), (⟨#[43, 46]⟩, 4), (⟨#[43]⟩, 4), (⟨#[42, 46]⟩, 4), (⟨#[42]⟩, 4), (⟨#[47, 46]⟩, 4), (⟨#[47]⟩, 4), (⟨#[60, 46]⟩, 4), (⟨#[60]⟩, 4), (⟨#[37]⟩, 4), (⟨#[40]⟩, 6), (⟨#[41]⟩, 6), (⟨#[123]⟩, 6), (⟨#[125]⟩, 6), (⟨#[59]⟩, 6), (⟨#[92]⟩, 6)]
/-- The first of them that a text begins with. -/
def signL (l : List UInt8) : Option (ByteArray × Int) := signsB.find? fun x => hasPrefix l x.1.data.toList
def sgL : List Value := [.string ⟨#[61, 61, 46]⟩, .int .i64 4, .string ⟨#[61, 61]⟩, .int .i64 4, .string ⟨#[61]⟩, .int .i64 6, .string ⟨#[45, 62]⟩, .int .i64 6, .string ⟨#[45, 46]⟩, .int .i64 4, .string ⟨#[45]⟩, .int .i64 4, .string ⟨#[43, 46]⟩, .int .i64 4, .string ⟨#[43]⟩, .int .i64 4, .string ⟨#[42, 46]⟩, .int .i64 4, .string ⟨#[42]⟩, .int .i64 4, .string ⟨#[47, 46]⟩, .int .i64 4, .string ⟨#[47]⟩, .int .i64 4, .string ⟨#[60, 46]⟩, .int .i64 4, .string ⟨#[60]⟩, .int .i64 4, .string ⟨#[37]⟩, .int .i64 4, .string ⟨#[40]⟩, .int .i64 6, .string ⟨#[41]⟩, .int .i64 6, .string ⟨#[123]⟩, .int .i64 6, .string ⟨#[125]⟩, .int .i64 6, .string ⟨#[59]⟩, .int .i64 6, .string ⟨#[92]⟩, .int .i64 6]
/-- The table as it lies. -/
def SG (w : World) : Prop := w.rangeAt 0 0 sgL
theorem SG.below {w w' : World} (h : SG w) (hb : Below w.heap.size w w') : SG w' := fun j v hv => later' hb (h j v hv)

set_option maxRecDepth 100000 in
set_option maxHeartbeats 4000000 in
theorem pick_sign (i : Nat) (h : i < 21) (W : World) : (Instr.index 67 (.agg sgL.toArray) (.int .i64 i)).run Tryd.prog W = .ok (.agg #[.string (signsB[i]'h).1, .int .i64 (signsB[i]'h).2]) W := by
  have h' : Tryd.prog.underlying 67 = some (.array 21 56) := by kernel_rfl
  obtain rfl | rfl | rfl | rfl | rfl | rfl | rfl | rfl | rfl | rfl | rfl | rfl | rfl | rfl | rfl | rfl | rfl | rfl | rfl | rfl | rfl : i = 0 ∨ i = 1 ∨ i = 2 ∨ i = 3 ∨ i = 4 ∨ i = 5 ∨ i = 6 ∨ i = 7 ∨ i = 8 ∨ i = 9 ∨ i = 10 ∨ i = 11 ∨ i = 12 ∨ i = 13 ∨ i = 14 ∨ i = 15 ∨ i = 16 ∨ i = 17 ∨ i = 18 ∨ i = 19 ∨ i = 20 := by omega
  all_goals simp [Instr.index, run_underlying h', asIntOf, part, Tryd.isAgg56, Tryd.sizeOf56, signsB, sgL, go_sem]

theorem load_signs (W : World) (h : SG W) : (Instr.loadAt 67 (.pointer (some ⟨0, 0, none⟩))).run Tryd.prog W = .ok (.agg sgL.toArray) W :=
  run_loadAt_mid W _ 0 _ sgL (.array 21 56) h (by kernel_rfl) rfl (by kernel_rfl)

theorem find_drop (l : List UInt8) (k : Nat) (hk : k < 21) (h : signL l = (signsB.drop k).find? fun x => hasPrefix l x.1.data.toList) :
    (hasPrefix l (signsB[k]'hk).1.data.toList = true → signL l = some (signsB[k]'hk)) ∧ (hasPrefix l (signsB[k]'hk).1.data.toList = false → signL l = (signsB.drop (k + 1)).find? fun x => hasPrefix l x.1.data.toList) := by
  have hk' : k < signsB.length := hk
  rw [List.drop_eq_getElem_cons hk', List.find?_cons] at h
  constructor
  · intro g
    have g' : hasPrefix l (signsB[k]'hk').1.data.toList = true := g
    rw [g'] at h
    exact h
  · intro g
    have g' : hasPrefix l (signsB[k]'hk').1.data.toList = false := g
    rw [g'] at h
    exact h

end Go.Proofs.YtkeeglpbhjnmdaaDoor
