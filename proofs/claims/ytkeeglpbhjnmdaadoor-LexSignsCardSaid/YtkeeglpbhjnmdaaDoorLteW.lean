/- LexTells: its walk. -/
import Derived.Test.YtkeeglpbhjnmdaaDoorRexB
namespace Go.Proofs.YtkeeglpbhjnmdaaDoor
open Go.RowKit Go.Lib

theorem view_same {R : Res} {T T2 : List (Tk × Int)} {er er2 line line2 : Int} (h : (R = .good T ∧ er = 0 ∧ line = 0) ∨ (R = .bad er line ∧ T = [])) (h2 : (R = .good T2 ∧ er2 = 0 ∧ line2 = 0) ∨ (R = .bad er2 line2 ∧ T2 = [])) : T2 = T ∧ er2 = er ∧ line2 = line := by
  rcases h with ⟨rfl, rfl, rfl⟩ | ⟨rfl, rfl⟩
  · rcases h2 with ⟨q, rfl, rfl⟩ | ⟨q, -⟩
    · cases q; exact ⟨rfl, rfl, rfl⟩
    · cases q
  · rcases h2 with ⟨q, -⟩ | ⟨q, rfl⟩
    · cases q
    · cases q; exact ⟨rfl, rfl, rfl⟩

set_option maxHeartbeats 16000000 in
set_option maxRecDepth 100000 in
theorem tells_walk (s : ByteArray) (w : World) (hS : SG w) (hE : EE w) :
    Calls Tryd.prog 3 #[.string s] w fun e w' => e = .returned (.bool true) ∧ Below w.heap.size w w' := by
  have HSE := Lib.hid (And.intro hS hE)
  clear hS hE
  go_enter Tryd.func3, Tryd.ntmps3
  go_wp2_with fail
  refine (lawake_any w HSE.out.1 HSE.out.2).mono ?_
  rintro e w1 ⟨rfl, hb⟩
  have H1 := Lib.hid (And.intro hb (And.intro (HSE.out.1.below hb) (HSE.out.2.below hb)))
  clear hb HSE
  by_cases g3 : 20000 < s.size
  · have f3 : decide ((20000 : Int) < (s.size : Int)) = true := decide_eq_true (by omega)
    go_wp2_with fail
    go_ret
    exact ⟨rfl, H1.out.1⟩
  have f3 : decide ((20000 : Int) < (s.size : Int)) = false := decide_eq_false (by omega)
  have HL1 := Lib.hid (lex_any s (by omega) w1 H1.out.2.1 H1.out.2.2)
  have HL2 := Lib.hid (fun W => reflex_any s (by omega) W)
  go_wp2_with fail
  clear f3
  refine HL1.out.mono ?_
  intro e w2 h2
  obtain ⟨T, a1, c1, er, line, rfl, hown, hb2, hv⟩ := h2.view
  have H2 := Lib.hid (And.intro (onB' H1.out.1 hb2) hown)
  have HV := Lib.hid hv
  clear h2 hown hb2 HL1 hv
  go_wp2_with fail
  refine (HL2.out _).mono ?_
  intro e w3 h3
  obtain ⟨T2, a2, c2, er2, line2, rfl, hown2, hb3, hv2⟩ := h3.view
  obtain ⟨rfl, rfl, rfl⟩ := view_same HV.out hv2
  have H3 := Lib.hid (onB' H2.out.1 hb3)
  have HS := Lib.hid (fun W (hb : Below w3.heap.size w3 W) => same_any T2 a1 a2 c1 c2 _ _ W (own_below (own_below H2.out.2 hb3) hb) (own_below hown2 hb))
  clear h3 hown2 hb3 hv2 HL2 HV H2
  go_wp2_with fail
  refine (HS.out _ (Below.refl _ _)).mono ?_
  rintro e w4 ⟨rfl, hb4⟩
  have H4 := Lib.hid (onB' H3.out hb4)
  clear hb4
  go_wp2_with fail
  go_ret
  exact ⟨rfl, H4.out⟩

end Go.Proofs.YtkeeglpbhjnmdaaDoor
