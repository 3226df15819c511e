/- The document's Kind; its capital. -/
import Derived.Test.YtkeeglpbhjnmdaaDoorLxO
namespace Go.Proofs.YtkeeglpbhjnmdaaDoor
open Go.RowKit Go.Lib

theorem capital_any (c : UInt8) (w : World) : Calls Tryd.prog 20 #[.int .u8 c.toNat] w fun e w' => e = .returned (.bool (decide (65 ≤ c.toNat ∧ c.toNat ≤ 90))) ∧ Below w.heap.size w w' := by
  by_cases g1 : 65 ≤ c.toNat
  · have f1 : decide ((65 : Int) ≤ (c.toNat : Int)) = true := decide_eq_true (by omega)
    by_cases g2 : c.toNat ≤ 90
    · have f2 : decide ((c.toNat : Int) ≤ (90 : Int)) = true := decide_eq_true (by omega)
      rw [decide_eq_true (show 65 ≤ c.toNat ∧ c.toNat ≤ 90 from ⟨g1, g2⟩)]
      go_enter Tryd.func20, Tryd.ntmps20
      go_wp2_with fail
      go_ret
      exact ⟨rfl, Below.refl _ _⟩
    · have f2 : decide ((c.toNat : Int) ≤ (90 : Int)) = false := decide_eq_false (by omega)
      rw [decide_eq_false (show ¬ (65 ≤ c.toNat ∧ c.toNat ≤ 90) from fun h => g2 h.2)]
      go_enter Tryd.func20, Tryd.ntmps20
      go_wp2_with fail
      go_ret
      exact ⟨rfl, Below.refl _ _⟩
  · have f1 : decide ((65 : Int) ≤ (c.toNat : Int)) = false := decide_eq_false (by omega)
    rw [decide_eq_false (show ¬ (65 ≤ c.toNat ∧ c.toNat ≤ 90) from fun h => g1 h.1)]
    go_enter Tryd.func20, Tryd.ntmps20
    go_wp2_with fail
    go_ret
    exact ⟨rfl, Below.refl _ _⟩

/-- The document's kind of a run that begins with this byte. -/
def refK (l : List UInt8) (c : UInt8) : Int := (wordF l).getD (if 65 ≤ c.toNat ∧ c.toNat ≤ 90 then 2 else 1)
theorem words10 (l : List UInt8) : l = [108, 101, 116] ∨ l = [105, 110] ∨ l = [99, 97, 115, 101] ∨ l = [111, 102] ∨ l = [100, 97, 116, 97] ∨ l = [119, 101, 97, 107] ∨ l = [100, 101, 114, 101, 102] ∨ l = [115, 101, 113] ∨ l = [102, 108, 111, 97, 116] ∨ l = [116, 114, 117, 110, 99] ∨ (l ≠ [108, 101, 116] ∧ l ≠ [105, 110] ∧ l ≠ [99, 97, 115, 101] ∧ l ≠ [111, 102] ∧ l ≠ [100, 97, 116, 97] ∧ l ≠ [119, 101, 97, 107] ∧ l ≠ [100, 101, 114, 101, 102] ∧ l ≠ [115, 101, 113] ∧ l ≠ [102, 108, 111, 97, 116] ∧ l ≠ [116, 114, 117, 110, 99]) := by
  by_cases h0 : l = [108, 101, 116]
  · exact Or.inl h0
  by_cases h1 : l = [105, 110]
  · exact Or.inr (Or.inl h1)
  by_cases h2 : l = [99, 97, 115, 101]
  · exact Or.inr (Or.inr (Or.inl h2))
  by_cases h3 : l = [111, 102]
  · exact Or.inr (Or.inr (Or.inr (Or.inl h3)))
  by_cases h4 : l = [100, 97, 116, 97]
  · exact Or.inr (Or.inr (Or.inr (Or.inr (Or.inl h4))))
  by_cases h5 : l = [119, 101, 97, 107]
  · exact Or.inr (Or.inr (Or.inr (Or.inr (Or.inr (Or.inl h5)))))
  by_cases h6 : l = [100, 101, 114, 101, 102]
  · exact Or.inr (Or.inr (Or.inr (Or.inr (Or.inr (Or.inr (Or.inl h6))))))
  by_cases h7 : l = [115, 101, 113]
  · exact Or.inr (Or.inr (Or.inr (Or.inr (Or.inr (Or.inr (Or.inr (Or.inl h7)))))))
  by_cases h8 : l = [102, 108, 111, 97, 116]
  · exact Or.inr (Or.inr (Or.inr (Or.inr (Or.inr (Or.inr (Or.inr (Or.inr (Or.inl h8))))))))
  by_cases h9 : l = [116, 114, 117, 110, 99]
  · exact Or.inr (Or.inr (Or.inr (Or.inr (Or.inr (Or.inr (Or.inr (Or.inr (Or.inr (Or.inl h9)))))))))
  exact Or.inr (Or.inr (Or.inr (Or.inr (Or.inr (Or.inr (Or.inr (Or.inr (Or.inr (Or.inr (⟨h0, h1, h2, h3, h4, h5, h6, h7, h8, h9⟩))))))))))

set_option maxHeartbeats 8000000 in
set_option maxRecDepth 100000 in
theorem kind_any (s : ByteArray) (c : UInt8) (t : List UInt8) (hs : s.data.toList = c :: t) (w : World) : Calls Tryd.prog 13 #[.string s] w fun e w' => e = .returned (.int .i64 (refK (c :: t) c)) ∧ Below w.heap.size w w' := by
  have e0 : s.toList = c :: t := by rw [ByteArray.toList_eq, hs]
  have hz : 0 < s.size := by rw [size_eq, hs]; simp
  have hx : s[0]'hz = c := by
    have e : s[0]'hz = s.data.toList[0]'(by rw [hs]; simp) := rfl
    rw [e]
    simp only [hs, List.getElem_cons_zero]
  obtain ⟨r, hr⟩ : ∃ r, refK (c :: t) c = r := ⟨_, rfl⟩
  rw [hr]
  rcases words10 (c :: t) with h | h | h | h | h | h | h | h | h | h | h
  · have b0 : (s.toList == [108, 101, 116]) = true := by rw [e0, h]; decide
    have hk : r = 5 := by
      rw [← hr, h]
      rfl
    subst hk
    clear hx hr h e0 hs hz
    go_enter Tryd.func13, Tryd.ntmps13
    go_wp2_with fail
    go_ret
    exact ⟨rfl, Below.refl _ _⟩
  · have b0 : (s.toList == [108, 101, 116]) = false := by rw [e0, h]; decide
    have b1 : (s.toList == [105, 110]) = true := by rw [e0, h]; decide
    have hk : r = 5 := by
      rw [← hr, h]
      rfl
    subst hk
    clear hx hr h e0 hs hz
    go_enter Tryd.func13, Tryd.ntmps13
    go_wp2_with fail
    go_ret
    exact ⟨rfl, Below.refl _ _⟩
  · have b0 : (s.toList == [108, 101, 116]) = false := by rw [e0, h]; decide
    have b1 : (s.toList == [105, 110]) = false := by rw [e0, h]; decide
    have b2 : (s.toList == [99, 97, 115, 101]) = true := by rw [e0, h]; decide
    have hk : r = 5 := by
      rw [← hr, h]
      rfl
    subst hk
    clear hx hr h e0 hs hz
    go_enter Tryd.func13, Tryd.ntmps13
    go_wp2_with fail
    go_ret
    exact ⟨rfl, Below.refl _ _⟩
  · have b0 : (s.toList == [108, 101, 116]) = false := by rw [e0, h]; decide
    have b1 : (s.toList == [105, 110]) = false := by rw [e0, h]; decide
    have b2 : (s.toList == [99, 97, 115, 101]) = false := by rw [e0, h]; decide
    have b3 : (s.toList == [111, 102]) = true := by rw [e0, h]; decide
    have hk : r = 5 := by
      rw [← hr, h]
      rfl
    subst hk
    clear hx hr h e0 hs hz
    go_enter Tryd.func13, Tryd.ntmps13
    go_wp2_with fail
    go_ret
    exact ⟨rfl, Below.refl _ _⟩
  · have b0 : (s.toList == [108, 101, 116]) = false := by rw [e0, h]; decide
    have b1 : (s.toList == [105, 110]) = false := by rw [e0, h]; decide
    have b2 : (s.toList == [99, 97, 115, 101]) = false := by rw [e0, h]; decide
    have b3 : (s.toList == [111, 102]) = false := by rw [e0, h]; decide
    have b4 : (s.toList == [100, 97, 116, 97]) = true := by rw [e0, h]; decide
    have hk : r = 5 := by
      rw [← hr, h]
      rfl
    subst hk
    clear hx hr h e0 hs hz
    go_enter Tryd.func13, Tryd.ntmps13
    go_wp2_with fail
    go_ret
    exact ⟨rfl, Below.refl _ _⟩
  · have b0 : (s.toList == [108, 101, 116]) = false := by rw [e0, h]; decide
    have b1 : (s.toList == [105, 110]) = false := by rw [e0, h]; decide
    have b2 : (s.toList == [99, 97, 115, 101]) = false := by rw [e0, h]; decide
    have b3 : (s.toList == [111, 102]) = false := by rw [e0, h]; decide
    have b4 : (s.toList == [100, 97, 116, 97]) = false := by rw [e0, h]; decide
    have b5 : (s.toList == [119, 101, 97, 107]) = true := by rw [e0, h]; decide
    have hk : r = 7 := by
      rw [← hr, h]
      rfl
    subst hk
    clear hx hr h e0 hs hz
    go_enter Tryd.func13, Tryd.ntmps13
    go_wp2_with fail
    go_ret
    exact ⟨rfl, Below.refl _ _⟩
  · have b0 : (s.toList == [108, 101, 116]) = false := by rw [e0, h]; decide
    have b1 : (s.toList == [105, 110]) = false := by rw [e0, h]; decide
    have b2 : (s.toList == [99, 97, 115, 101]) = false := by rw [e0, h]; decide
    have b3 : (s.toList == [111, 102]) = false := by rw [e0, h]; decide
    have b4 : (s.toList == [100, 97, 116, 97]) = false := by rw [e0, h]; decide
    have b5 : (s.toList == [119, 101, 97, 107]) = false := by rw [e0, h]; decide
    have b6 : (s.toList == [100, 101, 114, 101, 102]) = true := by rw [e0, h]; decide
    have hk : r = 7 := by
      rw [← hr, h]
      rfl
    subst hk
    clear hx hr h e0 hs hz
    go_enter Tryd.func13, Tryd.ntmps13
    go_wp2_with fail
    go_ret
    exact ⟨rfl, Below.refl _ _⟩
  · have b0 : (s.toList == [108, 101, 116]) = false := by rw [e0, h]; decide
    have b1 : (s.toList == [105, 110]) = false := by rw [e0, h]; decide
    have b2 : (s.toList == [99, 97, 115, 101]) = false := by rw [e0, h]; decide
    have b3 : (s.toList == [111, 102]) = false := by rw [e0, h]; decide
    have b4 : (s.toList == [100, 97, 116, 97]) = false := by rw [e0, h]; decide
    have b5 : (s.toList == [119, 101, 97, 107]) = false := by rw [e0, h]; decide
    have b6 : (s.toList == [100, 101, 114, 101, 102]) = false := by rw [e0, h]; decide
    have b7 : (s.toList == [115, 101, 113]) = true := by rw [e0, h]; decide
    have hk : r = 7 := by
      rw [← hr, h]
      rfl
    subst hk
    clear hx hr h e0 hs hz
    go_enter Tryd.func13, Tryd.ntmps13
    go_wp2_with fail
    go_ret
    exact ⟨rfl, Below.refl _ _⟩
  · have b0 : (s.toList == [108, 101, 116]) = false := by rw [e0, h]; decide
    have b1 : (s.toList == [105, 110]) = false := by rw [e0, h]; decide
    have b2 : (s.toList == [99, 97, 115, 101]) = false := by rw [e0, h]; decide
    have b3 : (s.toList == [111, 102]) = false := by rw [e0, h]; decide
    have b4 : (s.toList == [100, 97, 116, 97]) = false := by rw [e0, h]; decide
    have b5 : (s.toList == [119, 101, 97, 107]) = false := by rw [e0, h]; decide
    have b6 : (s.toList == [100, 101, 114, 101, 102]) = false := by rw [e0, h]; decide
    have b7 : (s.toList == [115, 101, 113]) = false := by rw [e0, h]; decide
    have b8 : (s.toList == [102, 108, 111, 97, 116]) = true := by rw [e0, h]; decide
    have hk : r = 7 := by
      rw [← hr, h]
      rfl
    subst hk
    clear hx hr h e0 hs hz
    go_enter Tryd.func13, Tryd.ntmps13
    go_wp2_with fail
    go_ret
    exact ⟨rfl, Below.refl _ _⟩
  · have b0 : (s.toList == [108, 101, 116]) = false := by rw [e0, h]; decide
    have b1 : (s.toList == [105, 110]) = false := by rw [e0, h]; decide
    have b2 : (s.toList == [99, 97, 115, 101]) = false := by rw [e0, h]; decide
    have b3 : (s.toList == [111, 102]) = false := by rw [e0, h]; decide
    have b4 : (s.toList == [100, 97, 116, 97]) = false := by rw [e0, h]; decide
    have b5 : (s.toList == [119, 101, 97, 107]) = false := by rw [e0, h]; decide
    have b6 : (s.toList == [100, 101, 114, 101, 102]) = false := by rw [e0, h]; decide
    have b7 : (s.toList == [115, 101, 113]) = false := by rw [e0, h]; decide
    have b8 : (s.toList == [102, 108, 111, 97, 116]) = false := by rw [e0, h]; decide
    have b9 : (s.toList == [116, 114, 117, 110, 99]) = true := by rw [e0, h]; decide
    have hk : r = 7 := by
      rw [← hr, h]
      rfl
    subst hk
    clear hx hr h e0 hs hz
    go_enter Tryd.func13, Tryd.ntmps13
    go_wp2_with fail
    go_ret
    exact ⟨rfl, Below.refl _ _⟩
  · have b0 : (s.toList == [108, 101, 116]) = false := by rw [e0]; exact beq_false_of_ne h.1
    have b1 : (s.toList == [105, 110]) = false := by rw [e0]; exact beq_false_of_ne h.2.1
    have b2 : (s.toList == [99, 97, 115, 101]) = false := by rw [e0]; exact beq_false_of_ne h.2.2.1
    have b3 : (s.toList == [111, 102]) = false := by rw [e0]; exact beq_false_of_ne h.2.2.2.1
    have b4 : (s.toList == [100, 97, 116, 97]) = false := by rw [e0]; exact beq_false_of_ne h.2.2.2.2.1
    have b5 : (s.toList == [119, 101, 97, 107]) = false := by rw [e0]; exact beq_false_of_ne h.2.2.2.2.2.1
    have b6 : (s.toList == [100, 101, 114, 101, 102]) = false := by rw [e0]; exact beq_false_of_ne h.2.2.2.2.2.2.1
    have b7 : (s.toList == [115, 101, 113]) = false := by rw [e0]; exact beq_false_of_ne h.2.2.2.2.2.2.2.1
    have b8 : (s.toList == [102, 108, 111, 97, 116]) = false := by rw [e0]; exact beq_false_of_ne h.2.2.2.2.2.2.2.2.1
    have b9 : (s.toList == [116, 114, 117, 110, 99]) = false := by rw [e0]; exact beq_false_of_ne h.2.2.2.2.2.2.2.2.2
    have hk : r = if 65 ≤ c.toNat ∧ c.toNat ≤ 90 then 2 else 1 := by
      rw [← hr]
      have hw : wordF (c :: t) = none := by
        unfold wordF kput
        simp only [h.1, h.2.1, h.2.2.1, h.2.2.2.1, h.2.2.2.2.1, h.2.2.2.2.2.1, h.2.2.2.2.2.2.1, h.2.2.2.2.2.2.2.1, h.2.2.2.2.2.2.2.2.1, h.2.2.2.2.2.2.2.2.2, if_false]
      unfold refK
      rw [hw]
      rfl
    subst hk
    clear hr h e0 hs
    by_cases g : 65 ≤ c.toNat ∧ c.toNat ≤ 90
    · rw [if_pos g]
      go_enter Tryd.func13, Tryd.ntmps13
      go_wp2_with fail
      refine (capital_any c _).mono ?_
      rw [decide_eq_true g]
      rintro e w2 ⟨rfl, hb⟩
      go_wp2_with fail
      go_ret
      exact ⟨rfl, hb⟩
    · rw [if_neg g]
      go_enter Tryd.func13, Tryd.ntmps13
      go_wp2_with fail
      refine (capital_any c _).mono ?_
      rw [decide_eq_false g]
      rintro e w2 ⟨rfl, hb⟩
      go_wp2_with fail
      go_ret
      exact ⟨rfl, hb⟩
end Go.Proofs.YtkeeglpbhjnmdaaDoor
