/- What Lex told, in one shape. -/
import Derived.Test.YtkeeglpbhjnmdaaDoorLxM
import Derived.Deep.QuietTactic
import Derived.BigQuiet
namespace Go.Proofs.YtkeeglpbhjnmdaaDoor
open Go.RowKit Go.Lib

theorem cat_list (a b : ByteArray) : (a ++ b).data.toList = a.data.toList ++ b.data.toList := by simp
theorem rep_snoc (k : Nat) (c : UInt8) : List.replicate k c ++ [c] = List.replicate (k + 1) c := by
  rw [List.replicate_succ']

/-- What Lex told, in one shape. -/
theorem LexSaid.view {R : Res} {w w' : World} {e : Ending} (h : LexSaid R w e w') : ∃ (T : List (Tk × Int)) (a : Option Addr) (c : Nat) (er line : Int), e = .returned (.tuple #[.slice a T.length c, .int .i64 er, .int .i64 line]) ∧ w'.ownsRow w.heap.size 35 5 (.slice a T.length c) T.length (flatT T) ∧ Below w.heap.size w w' ∧ ((R = .good T ∧ er = 0 ∧ line = 0) ∨ (R = .bad er line ∧ T = [])) := by
  obtain ⟨hb, h⟩ := h
  cases R with
  | good T =>
    obtain ⟨a, n, c, he, hown⟩ := h
    obtain rfl := own_n hown
    exact ⟨T, a, c, 0, 0, he, hown, hb, Or.inl ⟨rfl, rfl, rfl⟩⟩
  | bad er line => exact ⟨[], none, 0, er, line, h, World.ownsRow_nil _ _ _ _, hb, Or.inr ⟨rfl, rfl⟩⟩
theorem view_shift {R : Res} {n : Int} {T T2 : List (Tk × Int)} {er er2 line line2 : Int} (h : (R = .good T ∧ er = 0 ∧ line = 0) ∨ (R = .bad er line ∧ T = [])) (h2 : (R.shift n = .good T2 ∧ er2 = 0 ∧ line2 = 0) ∨ (R.shift n = .bad er2 line2 ∧ T2 = [])) :
    er2 = er ∧ T2 = T.map (fun x => (x.1, x.2 + n)) ∧ (er = 0 ∨ line2 = line + n) := by
  rcases h with ⟨rfl, rfl, rfl⟩ | ⟨rfl, rfl⟩
  · rcases h2 with ⟨e, rfl, rfl⟩ | ⟨e, rfl⟩
    · simp only [Res.shift, Res.good.injEq] at e
      exact ⟨rfl, e.symm, Or.inl rfl⟩
    · cases e
  · rcases h2 with ⟨e, rfl, rfl⟩ | ⟨e, rfl⟩
    · cases e
    · simp only [Res.shift, Res.bad.injEq] at e
      obtain ⟨rfl, rfl⟩ := e
      exact ⟨rfl, rfl, Or.inr rfl⟩

end Go.Proofs.YtkeeglpbhjnmdaaDoor
