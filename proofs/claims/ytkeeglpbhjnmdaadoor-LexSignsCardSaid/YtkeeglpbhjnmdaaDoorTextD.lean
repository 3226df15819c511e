/- What the document's own functions answer: a digit's worth; a number's digits. -/
import Derived.Test.YtkeeglpbhjnmdaaDoorLxI
import Derived.Deep.QuietTactic
import Derived.BigQuiet
import Derived.Laws.DeepStrings4
namespace Go.Proofs.YtkeeglpbhjnmdaaDoor
open Go.RowKit

/-- A digit's worth; 99: it is none. -/
def digV (c : Nat) : Nat := if 48 ≤ c ∧ c ≤ 57 then c - 48 else if 97 ≤ c ∧ c ≤ 102 then c - 87 else 99

theorem digit_any (c : Nat) (w : World) (hc : c < 256) :
    Calls Tryd.prog 54 #[.int .u8 c] w fun e w' => e = .returned (.int .u64 (digV c : Nat)) ∧ w' = w := by
  have h : (48 ≤ c ∧ c ≤ 57) ∨ (97 ≤ c ∧ c ≤ 102) ∨ c < 48 ∨ (57 < c ∧ c < 97) ∨ 102 < c := by omega
  rcases h with h | h | h | h | h
  · have e : (digV c : Int) = (c : Int) - 48 := by unfold digV; rw [if_pos h]; omega
    rw [e]; clear e
    obtain ⟨h1, h2⟩ := h
    go_enter Tryd.func54, Tryd.ntmps54
    go_wp2_with fail
    go_ret
    exact ⟨rfl, rfl⟩
  · have e : (digV c : Int) = (c : Int) - 97 + 10 := by unfold digV; rw [if_neg (by omega), if_pos h]; omega
    rw [e]; clear e
    obtain ⟨h1, h2⟩ := h
    go_enter Tryd.func54, Tryd.ntmps54
    go_wp2_with fail
    go_ret
    exact ⟨rfl, rfl⟩
  · have e : (digV c : Int) = 99 := by unfold digV; rw [if_neg (by omega), if_neg (by omega)]; rfl
    rw [e]; clear e
    go_enter Tryd.func54, Tryd.ntmps54
    go_wp2_with fail
    go_ret
    exact ⟨rfl, rfl⟩
  · have e : (digV c : Int) = 99 := by unfold digV; rw [if_neg (by omega), if_neg (by omega)]; rfl
    rw [e]; clear e
    obtain ⟨h1, h2⟩ := h
    go_enter Tryd.func54, Tryd.ntmps54
    go_wp2_with fail
    go_ret
    exact ⟨rfl, rfl⟩
  · have e : (digV c : Int) = 99 := by unfold digV; rw [if_neg (by omega), if_neg (by omega)]; rfl
    rw [e]; clear e
    go_enter Tryd.func54, Tryd.ntmps54
    go_wp2_with fail
    go_ret
    exact ⟨rfl, rfl⟩

end Go.Proofs.YtkeeglpbhjnmdaaDoor
