/- The document's small functions: its letters, its runs. -/
import Derived.Test.YtkeeglpbhjnmdaaDoorLxT
import Derived.Deep.QuietTactic
import Derived.BigQuiet
namespace Go.Proofs.YtkeeglpbhjnmdaaDoor
open Go.RowKit Go.Lib

theorem smB_any (c : UInt8) (w : World) : Calls Tryd.prog 31 #[.int .u8 c.toNat] w fun e w' => e = .returned (.bool (smB c)) ∧ w' = w := by
  by_cases g1 : 97 ≤ c.toNat
  · have f1 : decide ((97 : Int) ≤ (c.toNat : Int)) = true := decide_eq_true (by omega)
    by_cases g2 : c.toNat ≤ 122
    · have f2 : decide ((c.toNat : Int) ≤ (122 : Int)) = true := decide_eq_true (by omega)
      have hb : smB c = true := decide_eq_true (show 97 ≤ c.toNat ∧ c.toNat ≤ 122 from ⟨g1, g2⟩)
      rw [hb]
      clear hb
      go_enter Tryd.func31, Tryd.ntmps31
      go_wp2_with fail
      go_ret
      exact ⟨rfl, rfl⟩
    · have f2 : decide ((c.toNat : Int) ≤ (122 : Int)) = false := decide_eq_false (by omega)
      have hb : smB c = false := decide_eq_false (show ¬ (97 ≤ c.toNat ∧ c.toNat ≤ 122) from fun h => g2 h.2)
      rw [hb]
      clear hb
      go_enter Tryd.func31, Tryd.ntmps31
      go_wp2_with fail
      go_ret
      exact ⟨rfl, rfl⟩
  · have f1 : decide ((97 : Int) ≤ (c.toNat : Int)) = false := decide_eq_false (by omega)
    have hb : smB c = false := decide_eq_false (show ¬ (97 ≤ c.toNat ∧ c.toNat ≤ 122) from fun h => g1 h.1)
    rw [hb]
    clear hb
    go_enter Tryd.func31, Tryd.ntmps31
    go_wp2_with fail
    go_ret
    exact ⟨rfl, rfl⟩
theorem cpB_any (c : UInt8) (w : World) : Calls Tryd.prog 20 #[.int .u8 c.toNat] w fun e w' => e = .returned (.bool (cpB c)) ∧ w' = w := by
  by_cases g1 : 65 ≤ c.toNat
  · have f1 : decide ((65 : Int) ≤ (c.toNat : Int)) = true := decide_eq_true (by omega)
    by_cases g2 : c.toNat ≤ 90
    · have f2 : decide ((c.toNat : Int) ≤ (90 : Int)) = true := decide_eq_true (by omega)
      have hb : cpB c = true := decide_eq_true (show 65 ≤ c.toNat ∧ c.toNat ≤ 90 from ⟨g1, g2⟩)
      rw [hb]
      clear hb
      go_enter Tryd.func20, Tryd.ntmps20
      go_wp2_with fail
      go_ret
      exact ⟨rfl, rfl⟩
    · have f2 : decide ((c.toNat : Int) ≤ (90 : Int)) = false := decide_eq_false (by omega)
      have hb : cpB c = false := decide_eq_false (show ¬ (65 ≤ c.toNat ∧ c.toNat ≤ 90) from fun h => g2 h.2)
      rw [hb]
      clear hb
      go_enter Tryd.func20, Tryd.ntmps20
      go_wp2_with fail
      go_ret
      exact ⟨rfl, rfl⟩
  · have f1 : decide ((65 : Int) ≤ (c.toNat : Int)) = false := decide_eq_false (by omega)
    have hb : cpB c = false := decide_eq_false (show ¬ (65 ≤ c.toNat ∧ c.toNat ≤ 90) from fun h => g1 h.1)
    rw [hb]
    clear hb
    go_enter Tryd.func20, Tryd.ntmps20
    go_wp2_with fail
    go_ret
    exact ⟨rfl, rfl⟩
theorem dgB_any (c : UInt8) (w : World) : Calls Tryd.prog 33 #[.int .u8 c.toNat] w fun e w' => e = .returned (.bool (dgB c)) ∧ w' = w := by
  by_cases g1 : 48 ≤ c.toNat
  · have f1 : decide ((48 : Int) ≤ (c.toNat : Int)) = true := decide_eq_true (by omega)
    by_cases g2 : c.toNat ≤ 57
    · have f2 : decide ((c.toNat : Int) ≤ (57 : Int)) = true := decide_eq_true (by omega)
      have hb : dgB c = true := decide_eq_true (show 48 ≤ c.toNat ∧ c.toNat ≤ 57 from ⟨g1, g2⟩)
      rw [hb]
      clear hb
      go_enter Tryd.func33, Tryd.ntmps33
      go_wp2_with fail
      go_ret
      exact ⟨rfl, rfl⟩
    · have f2 : decide ((c.toNat : Int) ≤ (57 : Int)) = false := decide_eq_false (by omega)
      have hb : dgB c = false := decide_eq_false (show ¬ (48 ≤ c.toNat ∧ c.toNat ≤ 57) from fun h => g2 h.2)
      rw [hb]
      clear hb
      go_enter Tryd.func33, Tryd.ntmps33
      go_wp2_with fail
      go_ret
      exact ⟨rfl, rfl⟩
  · have f1 : decide ((48 : Int) ≤ (c.toNat : Int)) = false := decide_eq_false (by omega)
    have hb : dgB c = false := decide_eq_false (show ¬ (48 ≤ c.toNat ∧ c.toNat ≤ 57) from fun h => g1 h.1)
    rw [hb]
    clear hb
    go_enter Tryd.func33, Tryd.ntmps33
    go_wp2_with fail
    go_ret
    exact ⟨rfl, rfl⟩

theorem drop_cons_of {s : ByteArray} {k : Nat} (h : k < s.size) : ∃ c, s.data.toList.drop k = c :: s.data.toList.drop (k + 1) ∧ s[k]'h = c := by
  have h' : k < s.data.toList.length := by rw [← size_eq]; exact h
  exact ⟨s.data.toList[k], List.drop_eq_getElem_cons h', rfl⟩

def RunSaid (n : Nat) (w : World) (e : Ending) (w' : World) : Prop := e = .returned (.int .i64 n) ∧ Below w.heap.size w w'
theorem RunSaid.mk {m n : Nat} {w w' : World} (h : m = n) (hb : Below w.heap.size w w') : RunSaid m w (.returned (.int .i64 n)) w' := by
  subst h
  exact ⟨rfl, hb⟩
set_option maxHeartbeats 4000000 in
set_option maxRecDepth 100000 in
theorem run7_any (s : ByteArray) (hs : s.size ≤ 100000) (at0 : Nat) (h0 : at0 ≤ s.size) (w : World) :
    Calls Tryd.prog 32 #[.string s, .int .i64 at0] w (RunSaid (runL (s.data.toList.drop at0)).length w) := by
  go_enter Tryd.func32, Tryd.ntmps32
  go_wp2_with fail
  go_loopw [5] (fun s5 wr => ∃ n : Nat, s5 = .int .i64 n ∧ at0 + n ≤ s.size ∧ Hid ((runL (s.data.toList.drop at0)).length = n + (runL (s.data.toList.drop (at0 + n))).length) ∧ Below w.heap.size w wr) (fun s5 _ => s.size - at0 - (RowKit.intOf s5).toNat)
  case atStart => exact ⟨0, rfl, by omega, Lib.hid (by simp), Below.refl _ _⟩
  case round =>
    obtain ⟨n, rfl, hn, hr, hb⟩ := hrel
    have HB := Lib.hid hb
    clear hb
    have hlt0 : (0 : Int) ≤ (at0 : Int) + (n : Int) := by omega
    by_cases hlt : at0 + n < s.size
    · obtain ⟨c, hd, hsc⟩ := drop_cons_of hlt
      have hR := hr.out
      rw [hd, run_cons, inRun_eq] at hR
      have hlt' : (at0 : Int) + (n : Int) < (s.size : Int) := by omega
      clear hd hr
      have en1 : IntKind.i64.wrap ((n : Int) + 1) = (n : Int) + 1 := by rw [IntKind.wrap_i64]; omega
      have hus : (usB c = true ∧ ((c.toNat : Int) == 95) = true) ∨ (usB c = false ∧ ((c.toNat : Int) == 95) = false) := by
        unfold usB
        by_cases g : c.toNat = 95
        · exact Or.inl ⟨decide_eq_true g, by rw [g]; rfl⟩
        · exact Or.inr ⟨decide_eq_false g, by simp; omega⟩
      have HUS := Lib.hid hus
      clear hus
      cases h1 : smB c with
      | true =>
        have HR := Lib.hid (show (runL (s.data.toList.drop at0)).length = n + 1 + (runL (s.data.toList.drop (at0 + (n + 1)))).length by
          rw [hR, h1]
          rw [show at0 + (n + 1) = at0 + n + 1 by omega]
          simp <;> omega)
        clear hR
        go_wp2_with fail
        rw [hsc]
        refine (smB_any c _).mono ?_
        rintro e w2 ⟨rfl, rfl⟩
        rw [h1]
        go_wp2_with fail
        exact ⟨⟨n + 1, by go_num, by omega, HR, HB.out⟩, by simp [RowKit.intOf]; omega⟩
      | false =>
        cases h2 : cpB c with
        | true =>
          have HR := Lib.hid (show (runL (s.data.toList.drop at0)).length = n + 1 + (runL (s.data.toList.drop (at0 + (n + 1)))).length by
            rw [hR, h1, h2]
            rw [show at0 + (n + 1) = at0 + n + 1 by omega]
            simp <;> omega)
          clear hR
          go_wp2_with fail
          rw [hsc]
          refine (smB_any c _).mono ?_
          rintro e w2 ⟨rfl, rfl⟩
          rw [h1]
          go_wp2_with fail
          rw [hsc]
          refine (cpB_any c _).mono ?_
          rintro e w3 ⟨rfl, rfl⟩
          rw [h2]
          go_wp2_with fail
          exact ⟨⟨n + 1, by go_num, by omega, HR, HB.out⟩, by simp [RowKit.intOf]; omega⟩
        | false =>
          cases h3 : dgB c with
          | true =>
            have HR := Lib.hid (show (runL (s.data.toList.drop at0)).length = n + 1 + (runL (s.data.toList.drop (at0 + (n + 1)))).length by
              rw [hR, h1, h2, h3]
              rw [show at0 + (n + 1) = at0 + n + 1 by omega]
              simp <;> omega)
            clear hR
            go_wp2_with fail
            rw [hsc]
            refine (smB_any c _).mono ?_
            rintro e w2 ⟨rfl, rfl⟩
            rw [h1]
            go_wp2_with fail
            rw [hsc]
            refine (cpB_any c _).mono ?_
            rintro e w3 ⟨rfl, rfl⟩
            rw [h2]
            go_wp2_with fail
            rw [hsc]
            refine (dgB_any c _).mono ?_
            rintro e w4 ⟨rfl, rfl⟩
            rw [h3]
            go_wp2_with fail
            exact ⟨⟨n + 1, by go_num, by omega, HR, HB.out⟩, by simp [RowKit.intOf]; omega⟩
          | false =>
            rcases HUS.out with ⟨h4, h5⟩ | ⟨h4, h5⟩
            · have HR := Lib.hid (show (runL (s.data.toList.drop at0)).length = n + 1 + (runL (s.data.toList.drop (at0 + (n + 1)))).length by
                rw [hR, h1, h2, h3, h4]
                rw [show at0 + (n + 1) = at0 + n + 1 by omega]
                simp <;> omega)
              clear hR
              go_wp2_with fail
              rw [hsc]
              refine (smB_any c _).mono ?_
              rintro e w2 ⟨rfl, rfl⟩
              rw [h1]
              go_wp2_with fail
              rw [hsc]
              refine (cpB_any c _).mono ?_
              rintro e w3 ⟨rfl, rfl⟩
              rw [h2]
              go_wp2_with fail
              rw [hsc]
              refine (dgB_any c _).mono ?_
              rintro e w4 ⟨rfl, rfl⟩
              rw [h3]
              go_wp2_with fail
              exact ⟨⟨n + 1, by go_num, by omega, HR, HB.out⟩, by simp [RowKit.intOf]; omega⟩
            · have HR := Lib.hid (show (runL (s.data.toList.drop at0)).length = n by
                rw [hR, h1, h2, h3, h4]
                simp)
              clear hR
              go_wp2_with fail
              rw [hsc]
              refine (smB_any c _).mono ?_
              rintro e w2 ⟨rfl, rfl⟩
              rw [h1]
              go_wp2_with fail
              rw [hsc]
              refine (cpB_any c _).mono ?_
              rintro e w3 ⟨rfl, rfl⟩
              rw [h2]
              go_wp2_with fail
              rw [hsc]
              refine (dgB_any c _).mono ?_
              rintro e w4 ⟨rfl, rfl⟩
              rw [h3]
              go_wp2_with fail
              go_ret
              exact RunSaid.mk HR.out HB.out
    · have hd : s.data.toList.drop (at0 + n) = [] := List.drop_eq_nil_of_le (by rw [← size_eq]; omega)
      have HR := Lib.hid (show (runL (s.data.toList.drop at0)).length = n by rw [hr.out, hd]; rfl)
      have hlt' : ¬ (at0 : Int) + (n : Int) < (s.size : Int) := by omega
      clear hd hr
      go_wp2_with fail
      go_ret
      exact RunSaid.mk HR.out HB.out

end Go.Proofs.YtkeeglpbhjnmdaaDoor
