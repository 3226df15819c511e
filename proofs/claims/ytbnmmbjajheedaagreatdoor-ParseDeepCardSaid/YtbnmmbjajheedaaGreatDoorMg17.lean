import Derived.Test.YtbnmmbjajheedaaGreatDoorMg3
import Derived.Test.YtbnmmbjajheedaaGreatDoorMg4
import Derived.Test.YtbnmmbjajheedaaGreatDoorMg15
import Derived.Test.YtbnmmbjajheedaaGreatDoorMg16
/- What the rows' list gives of the shapes. -/
namespace Go.Proofs.YtbnmmbjajheedaaGreatDoor
open Go.RowKit Go.Lib Go.ChangeAt Go.Stop Go.Extern.Stop

theorem sh_of {W : World} {nm : String} {d : DataW Unit} {rest : List (String × DataW Unit)} {g : Nat} {s : Sh} (h : laidMet Tryz.prog ((nm, d) :: rest) W) (hg : Tryz.prog.globalNamed nm = some g) (hty : (Tryz.prog.globals[g]?).map (·.type) = some 105) (hd : d = .agg [.lit (.int .i64 s.1), .lit (.string s.2)]) : ShAt W g s := by
  subst hd
  obtain ⟨ps, ⟨g', t', cs, fuel, p, q, hg', ht', hvar, hx, _, _⟩, _⟩ := h
  obtain rfl := Option.some.inj (hg.symm.trans hg')
  obtain rfl := Option.some.inj (hty.symm.trans ht')
  have hu : Tryz.prog.underlying 105 = some (.struct (Tryz.prog.fieldsOf 105)) := by kernel_rfl
  obtain ⟨zs, m, -, hbz, hcl, hzl, hat⟩ := DataW.trod_struct hu hx
  have hl : Tryz.prog.fieldsOf 105 = #[⟨"kind", 3, 0, false, "", "treadwheel/parse", 0⟩, ⟨"text", 9, 1, false, "", "treadwheel/parse", 8⟩] := by kernel_rfl
  rw [hl] at hat hzl
  have a0 := hat 0 ⟨"kind", 3, 0, false, "", "treadwheel/parse", 0⟩ rfl
  have a1 := hat 1 ⟨"text", 9, 1, false, "", "treadwheel/parse", 8⟩ rfl
  dsimp only at a0 a1
  obtain ⟨z0, z1, rfl⟩ : ∃ z0 z1, zs = [z0, z1] := by
    match zs, hzl with
    | [z0, z1], _ => exact ⟨z0, z1, rfl⟩
  rw [show Tryz.prog.cellsOf 3 = 1 by kernel_rfl] at a0
  rw [show Tryz.prog.cellsOf 9 = 1 by kernel_rfl] at a1
  obtain ⟨u, hu0, e0, -⟩ := DataW.trod_int Tryz.underlying3 a0
  obtain ⟨v, hv0, e1, -⟩ := DataW.trod_string Tryz.underlying9 a1
  subst e0 e1
  simp at hbz
  obtain ⟨⟨b0, b1⟩, -⟩ := hbz
  have c0 := congrArg (·[0]?) hu0
  have c1 := congrArg (·[0]?) hv0
  replace c0 : cs[0]? = some (.int .i64 u) := by simpa [List.getElem?_take] using c0
  replace c1 : cs[1]? = some (.string v) := by simpa [List.getElem?_drop] using c1
  refine ⟨?_, ?_⟩
  · rw [World.var?_cell hg hvar, c0, b0]
  · rw [World.var?_cell hg hvar, c1]
    have : v = tx s.2 := ByteArray.ext (Array.ext' b1.symm)
    rw [this]
set_option maxRecDepth 100000 in
theorem env8_all {W : World} (h0 : laidMetH Tryz.prog Rows.parsePartsRow.laid W) : SG W ∧ EE W ∧ Shs W := by
  have hSE := env_all (W := W) (show laidMetH Tryz.prog Rows.parseTellsRow.laid W from h0)
  have h' : laidMet Tryz.prog Rows.parsePartsRow.laid W := by
    have h := h0
    rw [MakeChecks.laidMetH_plain _ _ _ (by kernel_rfl)] at h
    exact h
  have h2 := laidMet.tail h'
  have h3 := laidMet.tail h2
  have h4 := laidMet.tail h3
  have h5 := laidMet.tail h4
  have h6 := laidMet.tail h5
  have h7 := laidMet.tail h6
  have h8 := laidMet.tail h7
  have h9 := laidMet.tail h8
  have h10 := laidMet.tail h9
  have h11 := laidMet.tail h10
  have h12 := laidMet.tail h11
  have h13 := laidMet.tail h12
  have h14 := laidMet.tail h13
  have h15 := laidMet.tail h14
  have h16 := laidMet.tail h15
  have h17 := laidMet.tail h16
  have h18 := laidMet.tail h17
  have h19 := laidMet.tail h18
  have h20 := laidMet.tail h19
  have h21 := laidMet.tail h20
  have h22 := laidMet.tail h21
  have h23 := laidMet.tail h22
  have h24 := laidMet.tail h23
  have h25 := laidMet.tail h24
  have s_name : ShAt W 3 sName := sh_of h8 (show Tryz.prog.globalNamed "treadwheel/parse.name" = some 3 by kernel_rfl) (by kernel_rfl) rfl
  have s_con : ShAt W 4 sCon := sh_of h9 (show Tryz.prog.globalNamed "treadwheel/parse.con" = some 4 by kernel_rfl) (by kernel_rfl) rfl
  have s_num : ShAt W 5 sNum := sh_of h10 (show Tryz.prog.globalNamed "treadwheel/parse.number" = some 5 by kernel_rfl) (by kernel_rfl) rfl
  have s_sign : ShAt W 15 sSign := sh_of h11 (show Tryz.prog.globalNamed "treadwheel/parse.sign" = some 15 by kernel_rfl) (by kernel_rfl) rfl
  have s_back : ShAt W 6 sBack := sh_of h12 (show Tryz.prog.globalNamed "treadwheel/parse.builtIn" = some 6 by kernel_rfl) (by kernel_rfl) rfl
  have s_data : ShAt W 8 sData := sh_of h13 (show Tryz.prog.globalNamed "treadwheel/parse.dataWord" = some 8 by kernel_rfl) (by kernel_rfl) rfl
  have s_letw : ShAt W 0 sLet := sh_of h14 (show Tryz.prog.globalNamed "treadwheel/parse.letWord" = some 0 by kernel_rfl) (by kernel_rfl) rfl
  have s_inw : ShAt W 10 sIn := sh_of h15 (show Tryz.prog.globalNamed "treadwheel/parse.inWord" = some 10 by kernel_rfl) (by kernel_rfl) rfl
  have s_casew : ShAt W 1 sCase := sh_of h16 (show Tryz.prog.globalNamed "treadwheel/parse.caseWord" = some 1 by kernel_rfl) (by kernel_rfl) rfl
  have s_ofw : ShAt W 11 sOf := sh_of h17 (show Tryz.prog.globalNamed "treadwheel/parse.ofWord" = some 11 by kernel_rfl) (by kernel_rfl) rfl
  have s_opn : ShAt W 7 sOpen := sh_of h18 (show Tryz.prog.globalNamed "treadwheel/parse.roundOpen" = some 7 by kernel_rfl) (by kernel_rfl) rfl
  have s_shut : ShAt W 16 sShut := sh_of h19 (show Tryz.prog.globalNamed "treadwheel/parse.roundClose" = some 16 by kernel_rfl) (by kernel_rfl) rfl
  have s_curl : ShAt W 12 sCurl := sh_of h20 (show Tryz.prog.globalNamed "treadwheel/parse.curlyOpen" = some 12 by kernel_rfl) (by kernel_rfl) rfl
  have s_lruc : ShAt W 13 sLruc := sh_of h21 (show Tryz.prog.globalNamed "treadwheel/parse.curlyClose" = some 13 by kernel_rfl) (by kernel_rfl) rfl
  have s_semi : ShAt W 9 sSemi := sh_of h22 (show Tryz.prog.globalNamed "treadwheel/parse.semicolon" = some 9 by kernel_rfl) (by kernel_rfl) rfl
  have s_eq : ShAt W 17 sEq := sh_of h23 (show Tryz.prog.globalNamed "treadwheel/parse.equals" = some 17 by kernel_rfl) (by kernel_rfl) rfl
  have s_arrow : ShAt W 14 sArrow := sh_of h24 (show Tryz.prog.globalNamed "treadwheel/parse.arrow" = some 14 by kernel_rfl) (by kernel_rfl) rfl
  have s_lam : ShAt W 2 sLam := sh_of h25 (show Tryz.prog.globalNamed "treadwheel/parse.backslash" = some 2 by kernel_rfl) (by kernel_rfl) rfl
  exact ⟨hSE.1, hSE.2, ⟨s_letw, s_casew, s_lam, s_name, s_con, s_num, s_back, s_opn, s_data, s_semi, s_inw, s_ofw, s_curl, s_lruc, s_arrow, s_sign, s_shut, s_eq⟩⟩
end Go.Proofs.YtbnmmbjajheedaaGreatDoor

/- The document's Kind; its capital. -/
namespace Go.Proofs.YtbnmmbjajheedaaGreatDoor
open Go.RowKit Go.Lib

theorem capital_any (c : UInt8) (w : World) : Calls Tryz.prog 96 #[.int .u8 c.toNat] w fun e w' => e = .returned (.bool (decide (65 ≤ c.toNat ∧ c.toNat ≤ 90))) ∧ Below w.heap.size w w' := by
  by_cases g1 : 65 ≤ c.toNat
  · have f1 : decide ((65 : Int) ≤ (c.toNat : Int)) = true := decide_eq_true (by omega)
    by_cases g2 : c.toNat ≤ 90
    · have f2 : decide ((c.toNat : Int) ≤ (90 : Int)) = true := decide_eq_true (by omega)
      rw [decide_eq_true (show 65 ≤ c.toNat ∧ c.toNat ≤ 90 from ⟨g1, g2⟩)]
      go_enter Tryz.func96, Tryz.ntmps96
      go_wp2_with fail
      go_ret
      exact ⟨rfl, Below.refl _ _⟩
    · have f2 : decide ((c.toNat : Int) ≤ (90 : Int)) = false := decide_eq_false (by omega)
      rw [decide_eq_false (show ¬ (65 ≤ c.toNat ∧ c.toNat ≤ 90) from fun h => g2 h.2)]
      go_enter Tryz.func96, Tryz.ntmps96
      go_wp2_with fail
      go_ret
      exact ⟨rfl, Below.refl _ _⟩
  · have f1 : decide ((65 : Int) ≤ (c.toNat : Int)) = false := decide_eq_false (by omega)
    rw [decide_eq_false (show ¬ (65 ≤ c.toNat ∧ c.toNat ≤ 90) from fun h => g1 h.1)]
    go_enter Tryz.func96, Tryz.ntmps96
    go_wp2_with fail
    go_ret
    exact ⟨rfl, Below.refl _ _⟩

/-- The document's kind of a run that begins with this byte. -/
def refK (l : List UInt8) (c : UInt8) : Int := (wordF l).getD (if 65 ≤ c.toNat ∧ c.toNat ≤ 90 then 2 else 1)
theorem words10 (l : List UInt8) : l = [108, 101, 116] ∨ l = [105, 110] ∨ l = [99, 97, 115, 101] ∨ l = [111, 102] ∨ l = [100, 97, 116, 97] ∨ l = [119, 101, 97, 107] ∨ l = [100, 101, 114, 101, 102] ∨ l = [115, 101, 113] ∨ l = [102, 108, 111, 97, 116] ∨ l = [116, 114, 117, 110, 99] ∨ (l ≠ [108, 101, 116] ∧ l ≠ [105, 110] ∧ l ≠ [99, 97, 115, 101] ∧ l ≠ [111, 102] ∧ l ≠ [100, 97, 116, 97] ∧ l ≠ [119, 101, 97, 107] ∧ l ≠ [100, 101, 114, 101, 102] ∧ l ≠ [115, 101, 113] ∧ l ≠ [102, 108, 111, 97, 116] ∧ l ≠ [116, 114, 117, 110, 99]) := by
  by_cases h0 : l = [108, 101, 116]
  · exact Or.inl h0
  by_cases h1 : l = [105, 110]
  · exact Or.inr (Or.inl h1)
  by_cases h2 : l = [99, 97, 115, 101]
  · exact Or.inr (Or.inr (Or.inl h2))
  by_cases h3 : l = [111, 102]
  · exact Or.inr (Or.inr (Or.inr (Or.inl h3)))
  by_cases h4 : l = [100, 97, 116, 97]
  · exact Or.inr (Or.inr (Or.inr (Or.inr (Or.inl h4))))
  by_cases h5 : l = [119, 101, 97, 107]
  · exact Or.inr (Or.inr (Or.inr (Or.inr (Or.inr (Or.inl h5)))))
  by_cases h6 : l = [100, 101, 114, 101, 102]
  · exact Or.inr (Or.inr (Or.inr (Or.inr (Or.inr (Or.inr (Or.inl h6))))))
  by_cases h7 : l = [115, 101, 113]
  · exact Or.inr (Or.inr (Or.inr (Or.inr (Or.inr (Or.inr (Or.inr (Or.inl h7)))))))
  by_cases h8 : l = [102, 108, 111, 97, 116]
  · exact Or.inr (Or.inr (Or.inr (Or.inr (Or.inr (Or.inr (Or.inr (Or.inr (Or.inl h8))))))))
  by_cases h9 : l = [116, 114, 117, 110, 99]
  · exact Or.inr (Or.inr (Or.inr (Or.inr (Or.inr (Or.inr (Or.inr (Or.inr (Or.inr (Or.inl h9)))))))))
  exact Or.inr (Or.inr (Or.inr (Or.inr (Or.inr (Or.inr (Or.inr (Or.inr (Or.inr (Or.inr (⟨h0, h1, h2, h3, h4, h5, h6, h7, h8, h9⟩))))))))))

set_option maxHeartbeats 8000000 in
set_option maxRecDepth 100000 in
theorem kind_any (s : ByteArray) (c : UInt8) (t : List UInt8) (hs : s.data.toList = c :: t) (w : World) : Calls Tryz.prog 98 #[.string s] w fun e w' => e = .returned (.int .i64 (refK (c :: t) c)) ∧ Below w.heap.size w w' := by
  have e0 : s.toList = c :: t := by rw [ByteArray.toList_eq, hs]
  have hz : 0 < s.size := by rw [size_eq, hs]; simp
  have hx : s[0]'hz = c := by
    have e : s[0]'hz = s.data.toList[0]'(by rw [hs]; simp) := rfl
    rw [e]
    simp only [hs, List.getElem_cons_zero]
  obtain ⟨r, hr⟩ : ∃ r, refK (c :: t) c = r := ⟨_, rfl⟩
  rw [hr]
  rcases words10 (c :: t) with h | h | h | h | h | h | h | h | h | h | h
  · have b0 : (s.toList == [108, 101, 116]) = true := by rw [e0, h]; decide
    have hk : r = 5 := by
      rw [← hr, h]
      rfl
    subst hk
    clear hx hr h e0 hs hz
    go_enter Tryz.func98, Tryz.ntmps98
    go_wp2_with fail
    go_ret
    exact ⟨rfl, Below.refl _ _⟩
  · have b0 : (s.toList == [108, 101, 116]) = false := by rw [e0, h]; decide
    have b1 : (s.toList == [105, 110]) = true := by rw [e0, h]; decide
    have hk : r = 5 := by
      rw [← hr, h]
      rfl
    subst hk
    clear hx hr h e0 hs hz
    go_enter Tryz.func98, Tryz.ntmps98
    go_wp2_with fail
    go_ret
    exact ⟨rfl, Below.refl _ _⟩
  · have b0 : (s.toList == [108, 101, 116]) = false := by rw [e0, h]; decide
    have b1 : (s.toList == [105, 110]) = false := by rw [e0, h]; decide
    have b2 : (s.toList == [99, 97, 115, 101]) = true := by rw [e0, h]; decide
    have hk : r = 5 := by
      rw [← hr, h]
      rfl
    subst hk
    clear hx hr h e0 hs hz
    go_enter Tryz.func98, Tryz.ntmps98
    go_wp2_with fail
    go_ret
    exact ⟨rfl, Below.refl _ _⟩
  · have b0 : (s.toList == [108, 101, 116]) = false := by rw [e0, h]; decide
    have b1 : (s.toList == [105, 110]) = false := by rw [e0, h]; decide
    have b2 : (s.toList == [99, 97, 115, 101]) = false := by rw [e0, h]; decide
    have b3 : (s.toList == [111, 102]) = true := by rw [e0, h]; decide
    have hk : r = 5 := by
      rw [← hr, h]
      rfl
    subst hk
    clear hx hr h e0 hs hz
    go_enter Tryz.func98, Tryz.ntmps98
    go_wp2_with fail
    go_ret
    exact ⟨rfl, Below.refl _ _⟩
  · have b0 : (s.toList == [108, 101, 116]) = false := by rw [e0, h]; decide
    have b1 : (s.toList == [105, 110]) = false := by rw [e0, h]; decide
    have b2 : (s.toList == [99, 97, 115, 101]) = false := by rw [e0, h]; decide
    have b3 : (s.toList == [111, 102]) = false := by rw [e0, h]; decide
    have b4 : (s.toList == [100, 97, 116, 97]) = true := by rw [e0, h]; decide
    have hk : r = 5 := by
      rw [← hr, h]
      rfl
    subst hk
    clear hx hr h e0 hs hz
    go_enter Tryz.func98, Tryz.ntmps98
    go_wp2_with fail
    go_ret
    exact ⟨rfl, Below.refl _ _⟩
  · have b0 : (s.toList == [108, 101, 116]) = false := by rw [e0, h]; decide
    have b1 : (s.toList == [105, 110]) = false := by rw [e0, h]; decide
    have b2 : (s.toList == [99, 97, 115, 101]) = false := by rw [e0, h]; decide
    have b3 : (s.toList == [111, 102]) = false := by rw [e0, h]; decide
    have b4 : (s.toList == [100, 97, 116, 97]) = false := by rw [e0, h]; decide
    have b5 : (s.toList == [119, 101, 97, 107]) = true := by rw [e0, h]; decide
    have hk : r = 7 := by
      rw [← hr, h]
      rfl
    subst hk
    clear hx hr h e0 hs hz
    go_enter Tryz.func98, Tryz.ntmps98
    go_wp2_with fail
    go_ret
    exact ⟨rfl, Below.refl _ _⟩
  · have b0 : (s.toList == [108, 101, 116]) = false := by rw [e0, h]; decide
    have b1 : (s.toList == [105, 110]) = false := by rw [e0, h]; decide
    have b2 : (s.toList == [99, 97, 115, 101]) = false := by rw [e0, h]; decide
    have b3 : (s.toList == [111, 102]) = false := by rw [e0, h]; decide
    have b4 : (s.toList == [100, 97, 116, 97]) = false := by rw [e0, h]; decide
    have b5 : (s.toList == [119, 101, 97, 107]) = false := by rw [e0, h]; decide
    have b6 : (s.toList == [100, 101, 114, 101, 102]) = true := by rw [e0, h]; decide
    have hk : r = 7 := by
      rw [← hr, h]
      rfl
    subst hk
    clear hx hr h e0 hs hz
    go_enter Tryz.func98, Tryz.ntmps98
    go_wp2_with fail
    go_ret
    exact ⟨rfl, Below.refl _ _⟩
  · have b0 : (s.toList == [108, 101, 116]) = false := by rw [e0, h]; decide
    have b1 : (s.toList == [105, 110]) = false := by rw [e0, h]; decide
    have b2 : (s.toList == [99, 97, 115, 101]) = false := by rw [e0, h]; decide
    have b3 : (s.toList == [111, 102]) = false := by rw [e0, h]; decide
    have b4 : (s.toList == [100, 97, 116, 97]) = false := by rw [e0, h]; decide
    have b5 : (s.toList == [119, 101, 97, 107]) = false := by rw [e0, h]; decide
    have b6 : (s.toList == [100, 101, 114, 101, 102]) = false := by rw [e0, h]; decide
    have b7 : (s.toList == [115, 101, 113]) = true := by rw [e0, h]; decide
    have hk : r = 7 := by
      rw [← hr, h]
      rfl
    subst hk
    clear hx hr h e0 hs hz
    go_enter Tryz.func98, Tryz.ntmps98
    go_wp2_with fail
    go_ret
    exact ⟨rfl, Below.refl _ _⟩
  · have b0 : (s.toList == [108, 101, 116]) = false := by rw [e0, h]; decide
    have b1 : (s.toList == [105, 110]) = false := by rw [e0, h]; decide
    have b2 : (s.toList == [99, 97, 115, 101]) = false := by rw [e0, h]; decide
    have b3 : (s.toList == [111, 102]) = false := by rw [e0, h]; decide
    have b4 : (s.toList == [100, 97, 116, 97]) = false := by rw [e0, h]; decide
    have b5 : (s.toList == [119, 101, 97, 107]) = false := by rw [e0, h]; decide
    have b6 : (s.toList == [100, 101, 114, 101, 102]) = false := by rw [e0, h]; decide
    have b7 : (s.toList == [115, 101, 113]) = false := by rw [e0, h]; decide
    have b8 : (s.toList == [102, 108, 111, 97, 116]) = true := by rw [e0, h]; decide
    have hk : r = 7 := by
      rw [← hr, h]
      rfl
    subst hk
    clear hx hr h e0 hs hz
    go_enter Tryz.func98, Tryz.ntmps98
    go_wp2_with fail
    go_ret
    exact ⟨rfl, Below.refl _ _⟩
  · have b0 : (s.toList == [108, 101, 116]) = false := by rw [e0, h]; decide
    have b1 : (s.toList == [105, 110]) = false := by rw [e0, h]; decide
    have b2 : (s.toList == [99, 97, 115, 101]) = false := by rw [e0, h]; decide
    have b3 : (s.toList == [111, 102]) = false := by rw [e0, h]; decide
    have b4 : (s.toList == [100, 97, 116, 97]) = false := by rw [e0, h]; decide
    have b5 : (s.toList == [119, 101, 97, 107]) = false := by rw [e0, h]; decide
    have b6 : (s.toList == [100, 101, 114, 101, 102]) = false := by rw [e0, h]; decide
    have b7 : (s.toList == [115, 101, 113]) = false := by rw [e0, h]; decide
    have b8 : (s.toList == [102, 108, 111, 97, 116]) = false := by rw [e0, h]; decide
    have b9 : (s.toList == [116, 114, 117, 110, 99]) = true := by rw [e0, h]; decide
    have hk : r = 7 := by
      rw [← hr, h]
      rfl
    subst hk
    clear hx hr h e0 hs hz
    go_enter Tryz.func98, Tryz.ntmps98
    go_wp2_with fail
    go_ret
    exact ⟨rfl, Below.refl _ _⟩
  · have b0 : (s.toList == [108, 101, 116]) = false := by rw [e0]; exact beq_false_of_ne h.1
    have b1 : (s.toList == [105, 110]) = false := by rw [e0]; exact beq_false_of_ne h.2.1
    have b2 : (s.toList == [99, 97, 115, 101]) = false := by rw [e0]; exact beq_false_of_ne h.2.2.1
    have b3 : (s.toList == [111, 102]) = false := by rw [e0]; exact beq_false_of_ne h.2.2.2.1
    have b4 : (s.toList == [100, 97, 116, 97]) = false := by rw [e0]; exact beq_false_of_ne h.2.2.2.2.1
    have b5 : (s.toList == [119, 101, 97, 107]) = false := by rw [e0]; exact beq_false_of_ne h.2.2.2.2.2.1
    have b6 : (s.toList == [100, 101, 114, 101, 102]) = false := by rw [e0]; exact beq_false_of_ne h.2.2.2.2.2.2.1
    have b7 : (s.toList == [115, 101, 113]) = false := by rw [e0]; exact beq_false_of_ne h.2.2.2.2.2.2.2.1
    have b8 : (s.toList == [102, 108, 111, 97, 116]) = false := by rw [e0]; exact beq_false_of_ne h.2.2.2.2.2.2.2.2.1
    have b9 : (s.toList == [116, 114, 117, 110, 99]) = false := by rw [e0]; exact beq_false_of_ne h.2.2.2.2.2.2.2.2.2
    have hk : r = if 65 ≤ c.toNat ∧ c.toNat ≤ 90 then 2 else 1 := by
      rw [← hr]
      have hw : wordF (c :: t) = none := by
        unfold wordF kput
        simp only [h.1, h.2.1, h.2.2.1, h.2.2.2.1, h.2.2.2.2.1, h.2.2.2.2.2.1, h.2.2.2.2.2.2.1, h.2.2.2.2.2.2.2.1, h.2.2.2.2.2.2.2.2.1, h.2.2.2.2.2.2.2.2.2, if_false]
      unfold refK
      rw [hw]
      rfl
    subst hk
    clear hr h e0 hs
    by_cases g : 65 ≤ c.toNat ∧ c.toNat ≤ 90
    · rw [if_pos g]
      go_enter Tryz.func98, Tryz.ntmps98
      go_wp2_with fail
      refine (capital_any c _).mono ?_
      rw [decide_eq_true g]
      rintro e w2 ⟨rfl, hb⟩
      go_wp2_with fail
      go_ret
      exact ⟨rfl, hb⟩
    · rw [if_neg g]
      go_enter Tryz.func98, Tryz.ntmps98
      go_wp2_with fail
      refine (capital_any c _).mono ?_
      rw [decide_eq_false g]
      rintro e w2 ⟨rfl, hb⟩
      go_wp2_with fail
      go_ret
      exact ⟨rfl, hb⟩
end Go.Proofs.YtbnmmbjajheedaaGreatDoor

/- The document's Lex, in lists of bytes: letters, the longest sign, what is skipped. -/
namespace Go.Proofs.YtbnmmbjajheedaaGreatDoor
open Go.RowKit Go.Lib

def smB (c : UInt8) : Bool := decide (97 ≤ c.toNat ∧ c.toNat ≤ 122)
def cpB (c : UInt8) : Bool := decide (65 ≤ c.toNat ∧ c.toNat ≤ 90)
def dgB (c : UInt8) : Bool := decide (48 ≤ c.toNat ∧ c.toNat ≤ 57)
def usB (c : UInt8) : Bool := decide (c.toNat = 95)
theorem inRun_all : ∀ n : Fin 256, inRun (UInt8.ofNat n.val) = (smB (UInt8.ofNat n.val) || cpB (UInt8.ofNat n.val) || dgB (UInt8.ofNat n.val) || usB (UInt8.ofNat n.val)) := by decide +kernel
theorem inRun_eq (c : UInt8) : inRun c = (smB c || cpB c || dgB c || usB c) := by
  have h := inRun_all ⟨c.toNat, c.toNat_lt⟩
  simpa using h
theorem run_cons (c : UInt8) (r : List UInt8) : runL (c :: r) = if inRun c = true then c :: runL r else [] := by
  unfold runL
  rw [List.takeWhile_cons]

/-- The texts of the document's lists. -/
def opsB : List ByteArray := [⟨#[43]⟩, ⟨#[45]⟩, ⟨#[42]⟩, ⟨#[47]⟩, ⟨#[37]⟩, ⟨#[61, 61]⟩, ⟨#[60]⟩, ⟨#[43, 46]⟩, ⟨#[45, 46]⟩, ⟨#[42, 46]⟩, ⟨#[47, 46]⟩, ⟨#[61, 61, 46]⟩, ⟨#[60, 46]⟩]
def punB : List ByteArray := [⟨#[40]⟩, ⟨#[41]⟩, ⟨#[123]⟩, ⟨#[125]⟩, ⟨#[59]⟩, ⟨#[61]⟩, ⟨#[45, 62]⟩, ⟨#[92]⟩]
def longM (M : List UInt8 → Bool) (b : ByteArray) (p : ByteArray) : ByteArray := if M p.data.toList = true ∧ b.size < p.size then p else b
def chosenM (M : List UInt8 → Bool) : ByteArray × Int := if (opsB.foldl (longM M) ⟨#[]⟩).size < (punB.foldl (longM M) ⟨#[]⟩).size then (punB.foldl (longM M) ⟨#[]⟩, 6) else (opsB.foldl (longM M) ⟨#[]⟩, 4)
def signOfM (M : List UInt8 → Bool) : Option (ByteArray × Int) := if (chosenM M).1.size = 0 then none else some (chosenM M)
def signM (M : List UInt8 → Bool) : Option (ByteArray × Int) := signsB.find? fun x => M x.1.data.toList
/-- The longest of some that a text begins with. -/
def longL (l : List UInt8) (ps : List ByteArray) : ByteArray := ps.foldl (longM (hasPrefix l)) ⟨#[]⟩
def sgChosen (l : List UInt8) : ByteArray × Int := chosenM (hasPrefix l)
/-- What of the next two bytes plays a part. -/
def mtF (c : UInt8) (d : Fin 4) (p4 : Bool) : List UInt8 → Bool
  | [a] => a == c
  | [a, b] => a == c && (if b = 46 then d == 0 else if b = 61 then d == 1 else if b = 62 then d == 2 else false)
  | [a, _, _] => a == c && p4
  | _ => false
theorem sign_fin : ∀ (n : Fin 256) (d : Fin 4) (p4 : Bool), signM (mtF (UInt8.ofNat n.val) d p4) = signOfM (mtF (UInt8.ofNat n.val) d p4) := by decide +kernel
def nextF : List UInt8 → Fin 4
  | [] => 3
  | d :: _ => if d = 46 then 0 else if d = 61 then 1 else if d = 62 then 2 else 3

theorem has_cons (c a : UInt8) (r p : List UInt8) : hasPrefix (c :: r) (a :: p) = (a == c && hasPrefix r p) := by
  unfold hasPrefix
  rfl
theorem has_nil (r : List UInt8) : hasPrefix r [] = true := by cases r <;> rfl
theorem has_nil' (a : UInt8) (p : List UInt8) : hasPrefix [] (a :: p) = false := rfl

theorem fold_same {M N : List UInt8 → Bool} : ∀ (l : List ByteArray) (b : ByteArray), (∀ x, x ∈ l → M x.data.toList = N x.data.toList) → l.foldl (longM M) b = l.foldl (longM N) b
  | [], _, _ => rfl
  | a :: l, b, h => by
    rw [List.foldl_cons, List.foldl_cons]
    have e : longM M b a = longM N b a := by unfold longM; rw [h a (List.mem_cons_self ..)]
    rw [e]
    exact fold_same l _ fun x hx => h x (List.mem_cons_of_mem _ hx)
theorem next_is (r : List UInt8) : hasPrefix r [46] = (nextF r == 0) ∧ hasPrefix r [61] = (nextF r == 1) ∧ hasPrefix r [62] = (nextF r == 2) := by
  cases r with
  | nil => decide
  | cons d r =>
    simp only [has_cons, has_nil, Bool.and_true, nextF]
    by_cases h1 : d = 46
    · subst h1; decide
    · by_cases h2 : d = 61
      · subst h2; decide
      · by_cases h3 : d = 62
        · subst h3; decide
        · have e : ∀ a : UInt8, d ≠ a → (a == d) = false := fun a ha => by simpa using Ne.symm ha
          rw [e _ h1, e _ h2, e _ h3, if_neg h1, if_neg h2, if_neg h3]
          decide
theorem mt_is (c : UInt8) (r : List UInt8) : ∀ x, x ∈ signsB.map Prod.fst ++ opsB ++ punB → hasPrefix (c :: r) x.data.toList = mtF c (nextF r) (hasPrefix r [61, 46]) x.data.toList := by
  obtain ⟨n1, n2, n3⟩ := next_is r
  intro x hx
  simp only [signsB, opsB, punB, List.map_cons, List.map_nil, List.cons_append, List.nil_append, List.mem_cons, List.not_mem_nil, or_false] at hx
  rcases hx with rfl | rfl | rfl | rfl | rfl | rfl | rfl | rfl | rfl | rfl | rfl | rfl | rfl | rfl | rfl | rfl | rfl | rfl | rfl | rfl | rfl | rfl | rfl | rfl | rfl | rfl | rfl | rfl | rfl | rfl | rfl | rfl | rfl | rfl | rfl | rfl | rfl | rfl | rfl | rfl | rfl | rfl
  all_goals
    rw [has_cons]
    simp [mtF, has_nil, n1, n2, n3]
def signOf (l : List UInt8) : Option (ByteArray × Int) := if (sgChosen l).1.size = 0 then none else some (sgChosen l)
/-- The first sign of the table is the longest of the document's lists. -/
theorem sign_long (c : UInt8) (r : List UInt8) : signL (c :: r) = signOf (c :: r) := by
  have hm := mt_is c r
  have hf := sign_fin ⟨c.toNat, c.toNat_lt⟩ (nextF r) (hasPrefix r [61, 46])
  simp only [UInt8.ofNat_toNat] at hf
  generalize mtF c (nextF r) (hasPrefix r [61, 46]) = N at hm hf
  have e1 : signL (c :: r) = signM N := find_same _ fun x hx => hm _ (List.mem_append_left _ (List.mem_append_left _ (List.mem_map_of_mem hx)))
  have e2 : opsB.foldl (longM (hasPrefix (c :: r))) ⟨#[]⟩ = opsB.foldl (longM N) ⟨#[]⟩ := fold_same _ _ fun x hx => hm _ (List.mem_append_left _ (List.mem_append_right _ hx))
  have e3 : punB.foldl (longM (hasPrefix (c :: r))) ⟨#[]⟩ = punB.foldl (longM N) ⟨#[]⟩ := fold_same _ _ fun x hx => hm _ (List.mem_append_right _ hx)
  have e4 : sgChosen (c :: r) = chosenM N := by unfold sgChosen chosenM; rw [e2, e3]
  unfold signOf
  rw [e1, e4, hf]
  rfl

/-- All of a text. -/
def lexF (l : List UInt8) (line : Int) (acc : List (Tk × Int)) : Res := lexA (l.length + 1) l line acc
theorem lexF_nil (line : Int) (acc : List (Tk × Int)) : lexF [] line acc = .good acc := by unfold lexF lexA; rfl
theorem lexF_nl (r : List UInt8) (line : Int) (acc : List (Tk × Int)) : lexF (10 :: r) line acc = lexF r (line + 1) acc := by
  unfold lexF
  conv => lhs; unfold lexA
  rw [if_pos rfl]
  exact fuel _ _ _ _ _ (by simp) (by omega)
theorem lexF_blank {c : UInt8} (r : List UInt8) (line : Int) (acc : List (Tk × Int)) (h10 : c ≠ 10) (h : c = 9 ∨ c = 13 ∨ c = 32) : lexF (c :: r) line acc = lexF r line acc := by
  unfold lexF
  conv => lhs; unfold lexA
  rw [if_neg h10, if_pos h]
  exact fuel _ _ _ _ _ (by simp) (by omega)
theorem drop_index : ∀ (l : List UInt8), l.dropWhile (fun c => c != 10) = if indexByte l 10 < 0 then [] else l.drop (indexByte l 10).toNat
  | [] => by simp [indexByte]
  | c :: l => by
    have ih := drop_index l
    obtain ⟨i1, i2, i3, -⟩ := index_le l 10
    rw [List.dropWhile_cons]
    by_cases g : c = 10
    · have e : indexByte (c :: l) 10 = 0 := by unfold indexByte; rw [if_pos (by simpa using g)]
      rw [e, g]
      rfl
    · have e1 : (c != 10) = true := by simpa using g
      rw [if_pos e1, ih]
      by_cases g2 : indexByte l 10 < 0
      · have e : indexByte (c :: l) 10 = -1 := by unfold indexByte; rw [if_neg (by simpa using g), if_pos (by rw [i3 g2]; rfl)]
        rw [if_pos g2, e, if_pos (by decide)]
      · have e : indexByte (c :: l) 10 = indexByte l 10 + 1 := by
          conv => lhs; unfold indexByte
          rw [if_neg (by simpa using g), if_neg (by simp; omega)]
        rw [if_neg g2, e, if_neg (by omega)]
        have e2 : (indexByte l 10 + 1).toNat = (indexByte l 10).toNat + 1 := by omega
        rw [e2, List.drop_succ_cons]
theorem lexF_rem {c : UInt8} {r : List UInt8} (line : Int) (acc : List (Tk × Int)) (h : hasPrefix (c :: r) [45, 45] = true) : lexF (c :: r) line acc = lexF ((c :: r).dropWhile fun c => c != 10) line acc := by
  have hc : c = 45 := by
    rw [has_cons] at h
    simp only [Bool.and_eq_true, beq_iff_eq] at h
    exact h.1.symm
  have h10 : c ≠ 10 := by rw [hc]; decide
  have hb : ¬ (c = 9 ∨ c = 13 ∨ c = 32) := by rw [hc]; decide
  rw [drop_index]
  unfold lexF
  conv => lhs; unfold lexA
  rw [if_neg h10, if_neg hb, if_pos h]
  have hip := index_pos (r := r) h10
  split
  · unfold lexA
    rfl
  · refine fuel _ _ _ _ _ ?_ (by omega)
    rw [List.length_drop, List.length_cons]
    omega
theorem lexF_tok {c : UInt8} {r : List UInt8} (line : Int) (acc : List (Tk × Int)) (h10 : c ≠ 10) (hb : ¬ (c = 9 ∨ c = 13 ∨ c = 32)) (h : hasPrefix (c :: r) [45, 45] = false) :
    lexF (c :: r) line acc = if (readL (c :: r)).2 = 0 then (if acc.length = 4096 then .bad 2 line else lexF ((c :: r).drop (readL (c :: r)).1.t.length) line (acc ++ [((readL (c :: r)).1, line)])) else .bad (readL (c :: r)).2 line := by
  unfold lexF
  conv => lhs; unfold lexA
  rw [if_neg h10, if_neg hb, if_neg (by rw [h]; decide)]
  split
  · rename_i hr
    have hle := read_len hr
    split
    · rfl
    · exact fuel _ _ _ _ _ (by rw [List.length_drop, List.length_cons]; omega) (by omega)
  · rfl

/-- Where a token may begin. -/
def Starts (l : List UInt8) : Prop := ∀ c r, l = c :: r → c ≠ 10 ∧ ¬ (c = 9 ∨ c = 13 ∨ c = 32) ∧ hasPrefix l [45, 45] = false

/-- A token as the document tells it, by its first byte. -/
def oneL (c : UInt8) (r : List UInt8) : Tk × Int :=
  if smB c = true ∨ cpB c = true then (if 16 < (runL (c :: r)).length then (.zero, 9) else (⟨refK (runL (c :: r)) c, runL (c :: r), false, 0⟩, 0))
  else if dgB c = true then numT (runL (c :: r))
  else if c = 35 then (if runL (trimPrefix r [45]) = [] then (.zero, 3) else numT (markedL (c :: r)))
  else if (sgChosen (c :: r)).1.size = 0 then (.zero, 3) else (⟨(sgChosen (c :: r)).2, (sgChosen (c :: r)).1.data.toList, false, 0⟩, 0)

theorem numT_bad {t : List UInt8} (h : (parseL (trimPrefix t [35])).2.2 = 3) : numT t = (.zero, 3) := by
  unfold numT
  rw [h, if_neg (by decide)]
theorem no_sign {c : UInt8} (r : List UInt8) (h : inRun c = true ∨ c = 35) : signL (c :: r) = none := by
  have h0 : ∀ x, x ∈ signsB → ∃ d q, x.1.data.toList = d :: q ∧ inRun d = false ∧ d ≠ 35 := by
    intro x hx
    simp only [signsB, List.mem_cons, List.not_mem_nil, or_false] at hx
    rcases hx with rfl | rfl | rfl | rfl | rfl | rfl | rfl | rfl | rfl | rfl | rfl | rfl | rfl | rfl | rfl | rfl | rfl | rfl | rfl | rfl | rfl
    all_goals exact ⟨_, _, rfl, by decide, by decide⟩
  unfold signL
  rw [List.find?_eq_none]
  intro x hx g
  obtain ⟨d, q, e, h1, h2⟩ := h0 x hx
  rw [e, has_cons] at g
  simp only [Bool.and_eq_true, beq_iff_eq] at g
  obtain rfl := g.1
  rcases h with h | h
  · rw [h1] at h; cases h
  · exact h2 h
theorem smB_iff (c : UInt8) : smB c = true ↔ Sm c := by unfold smB Sm; exact decide_eq_true_iff
theorem cpB_iff (c : UInt8) : cpB c = true ↔ Cp c := by unfold cpB Cp; exact decide_eq_true_iff
theorem dgB_iff (c : UInt8) : dgB c = true ↔ Dg c := by unfold dgB Dg; exact decide_eq_true_iff
theorem mem_all : ∀ n : Fin 256, decide (UInt8.ofNat n.val ∈ smallsB.data.toList) = smB (UInt8.ofNat n.val) ∧ decide (UInt8.ofNat n.val ∈ capsB.data.toList) = cpB (UInt8.ofNat n.val) ∧ decide (UInt8.ofNat n.val ∈ digsB.data.toList) = dgB (UInt8.ofNat n.val) := by decide +kernel
theorem mem_of (c : UInt8) : decide (c ∈ smallsB.data.toList) = smB c ∧ decide (c ∈ capsB.data.toList) = cpB c ∧ decide (c ∈ digsB.data.toList) = dgB c := by
  have h := mem_all ⟨c.toNat, c.toNat_lt⟩
  simpa using h
theorem kputs_at (f : List UInt8 → Option Int) (l : List UInt8) (u : Int) (c : UInt8) : kputs f l u [c] = if c ∈ l then some u else f [c] := by
  unfold kputs
  by_cases h : c ∈ l
  · rw [if_pos ⟨c, h, rfl⟩, if_pos h]
  · rw [if_neg h, if_neg]
    rintro ⟨d, hd, e⟩
    simp only [List.cons.injEq, and_true] at e
    rw [e] at h
    exact h hd
theorem kputs_far (f : List UInt8 → Option Int) (l : List UInt8) (u : Int) (c d : UInt8) (r : List UInt8) : kputs f l u (c :: d :: r) = f (c :: d :: r) := by
  unfold kputs
  rw [if_neg]
  rintro ⟨x, hx, e⟩
  simp at e
def baseK (c : UInt8) : Int := if dgB c = true then 3 else if cpB c = true then 2 else if smB c = true then 1 else 0
theorem kind_one (c : UInt8) : (kindF [c]).getD 0 = baseK c ∧ (kindF [c] = none → baseK c = 0) := by
  obtain ⟨h1, h2, h3⟩ := mem_of c
  unfold kindF
  have e1 : c ∈ smallsB.data.toList ↔ smB c = true := by rw [← h1]; exact decide_eq_true_iff.symm
  have e2 : c ∈ capsB.data.toList ↔ cpB c = true := by rw [← h2]; exact decide_eq_true_iff.symm
  have e3 : c ∈ digsB.data.toList ↔ dgB c = true := by rw [← h3]; exact decide_eq_true_iff.symm
  simp only [kputs_at, word_one, e1, e2, e3]
  unfold baseK
  cases dgB c <;> cases cpB c <;> cases smB c <;> simp
theorem kindOf_eq {c : UInt8} {r : List UInt8} (h : inRun c = true) : kindOf (c :: r) = (wordF (runL (c :: r))).getD (baseK c) := by
  obtain ⟨k1, k2⟩ := kind_one c
  unfold kindOf
  rw [run_cons, if_pos h]
  have e1 : List.take 1 (c :: r) = [c] := rfl
  rw [e1]
  cases hr : runL r with
  | nil =>
    rw [word_one]
    cases hk : kindF [c] with
    | none => rw [hk] at k1; simpa using k1
    | some k => rw [hk] at k1; simpa using k1
  | cons d q =>
    have e : kindF (c :: d :: q) = wordF (c :: d :: q) := by
      unfold kindF
      rw [kputs_far, kputs_far, kputs_far]
    rw [e]
    cases hw : wordF (c :: d :: q) with
    | none => simpa using k1
    | some k => simp
theorem word_small {c : UInt8} {t : List UInt8} (h : smB c = false) : wordF (c :: t) = none := by
  cases hw : wordF (c :: t) with
  | none => rfl
  | some k =>
    obtain ⟨-, d, q, e, hs⟩ := word_some hw
    simp only [List.cons.injEq] at e
    obtain ⟨rfl, rfl⟩ := e
    rw [(smB_iff c).2 hs] at h
    cases h
theorem has35_iff (c : UInt8) (r : List UInt8) : hasPrefix (c :: r) [35] = true ↔ c = 35 := by
  rw [has_cons, has_nil]
  simp only [Bool.and_true, beq_iff_eq]
  exact ⟨Eq.symm, Eq.symm⟩
theorem marked_none {r : List UInt8} (h : runL (trimPrefix r [45]) = []) : numT (markedL (35 :: r)) = (.zero, 3) := by
  rcases minus_split r with ⟨q, rfl⟩ | g
  · have e : trimPrefix (45 :: q) [45] = q := by simp [trimPrefix, hasPrefix]
    rw [e] at h
    rw [marked_minus, h]
    exact numT_bad (by decide)
  · have e : trimPrefix r [45] = r := by simp [trimPrefix, g]
    rw [e] at h
    rw [marked_plain g, h]
    exact numT_bad (by decide)

/-- THE DOCUMENT's TOKEN IS THE PROGRAM's. -/
theorem one_read (c : UInt8) (r : List UInt8) : readL (c :: r) = oneL c r := by
  have hin := inRun_eq c
  unfold oneL
  by_cases h1 : smB c = true ∨ cpB c = true
  · have hi : inRun c = true := by rw [hin]; rcases h1 with h | h <;> simp [h]
    have h35 : ¬ c = 35 := by
      intro e
      subst e
      rcases h1 with h | h <;> revert h <;> decide
    have hd : dgB c = false := by
      rw [Bool.eq_false_iff]
      intro hd
      rw [dgB_iff] at hd
      rw [smB_iff, cpB_iff] at h1
      unfold Sm Cp at h1
      unfold Dg at hd
      omega
    rw [if_pos h1]
    have hk := kindOf_eq (r := r) hi
    have hrf : (wordF (runL (c :: r))).getD (baseK c) = refK (runL (c :: r)) c := by
      unfold refK baseK
      rw [hd]
      cases hc : cpB c with
      | true =>
        have := (cpB_iff c).1 hc
        unfold Cp at this
        simp [this]
      | false =>
        have hc' : ¬ (65 ≤ c.toNat ∧ c.toNat ≤ 90) := fun h => by
          rw [(cpB_iff c).2 h] at hc
          cases hc
        rw [hc] at h1
        have hs : smB c = true := h1.resolve_right (by decide)
        simp [hs, hc']
    rw [hrf] at hk
    have hk03 : refK (runL (c :: r)) c ≠ 0 ∧ refK (runL (c :: r)) c ≠ 3 := by
      unfold refK
      cases hw : wordF (runL (c :: r)) with
      | none =>
        simp only [Option.getD_none]
        split <;> decide
      | some k =>
        obtain ⟨h57, -⟩ := word_some hw
        simp only [Option.getD_some]
        omega
    unfold readL
    rw [no_sign r (Or.inl hi)]
    simp only
    rw [if_neg (by rw [has35_iff]; exact h35)]
    unfold readR
    rw [hk, if_neg hk03.1, if_neg hk03.2]
  · rw [if_neg h1]
    simp only [not_or, Bool.not_eq_true] at h1
    by_cases h2 : dgB c = true
    · have hi : inRun c = true := by rw [hin]; simp [h2]
      have h35 : ¬ c = 35 := by
        intro e
        subst e
        revert h2
        decide
      rw [if_pos h2]
      have hk := kindOf_eq (r := r) hi
      have hw : wordF (runL (c :: r)) = none := by rw [run_cons, if_pos hi]; exact word_small h1.1
      have hb : baseK c = 3 := by unfold baseK; rw [h2]; rfl
      rw [hw, hb] at hk
      unfold readL
      rw [no_sign r (Or.inl hi)]
      simp only
      rw [if_neg (by rw [has35_iff]; exact h35)]
      unfold readR
      rw [hk]
      rfl
    · rw [if_neg h2]
      simp only [Bool.not_eq_true] at h2
      by_cases h3 : c = 35
      · rw [if_pos h3]
        subst h3
        unfold readL
        rw [no_sign r (Or.inr rfl)]
        simp only
        rw [if_pos ((has35_iff 35 r).2 rfl)]
        split
        · rename_i g
          exact marked_none g
        · rfl
      · rw [if_neg h3]
        have hs := sign_long c r
        unfold signOf at hs
        unfold readL
        rw [hs]
        by_cases h4 : (sgChosen (c :: r)).1.size = 0
        · rw [if_pos h4, if_pos h4]
          simp only
          rw [if_neg (by rw [has35_iff]; exact h3)]
          have hk : kindOf (c :: r) = 0 := by
            by_cases hi : inRun c = true
            · rw [kindOf_eq hi, run_cons, if_pos hi, word_small h1.1]
              unfold baseK
              rw [h2, h1.1, h1.2]
              rfl
            · refine kindOf_nil ?_
              rw [run_cons, if_neg hi]
          unfold readR
          rw [hk]
          rfl
        · rw [if_neg h4, if_neg h4]

end Go.Proofs.YtbnmmbjajheedaaGreatDoor

/- A name with atoms behind it: the tokens of such a text. -/
namespace Go.Proofs.YtbnmmbjajheedaaGreatDoor
open Go.RowKit Go.Lib

theorem signs_semi : ∀ x, x ∈ signsB → (59 : UInt8) ∉ x.1.data.toList ∨ x.1.data.toList = [59] := by decide
theorem pre_semi {p l r : List UInt8} (hl : l ≠ []) (hp : (59 : UInt8) ∉ p ∨ p = [59]) : hasPrefix (l ++ 59 :: r) p = hasPrefix l p := by
  rcases hp with h | rfl
  · exact pre_gap h
  · cases l with
    | nil => exact absurd rfl hl
    | cons c l => simp [hasPrefix, List.isPrefixOf]
theorem sign_semi {l r : List UInt8} (hl : l ≠ []) : signL (l ++ 59 :: r) = signL l := by
  unfold signL
  exact find_same _ fun x hx => pre_semi hl (signs_semi x hx)
theorem marked_semi {m r : List UInt8} : markedL (35 :: (m ++ 59 :: r)) = markedL (35 :: m) := by
  rcases minus_split m with ⟨q, rfl⟩ | h
  · rw [List.cons_append, marked_minus, marked_minus, run_gap (by decide)]
  · rw [marked_plain h, marked_plain, run_gap (by decide)]
    rw [pre_gap (by decide)]
    exact h
/-- What stands behind a semicolon plays no part. -/
theorem read_semi {l r : List UInt8} (hl : l ≠ []) : readL (l ++ 59 :: r) = readL l := by
  unfold readL
  rw [sign_semi hl]
  cases signL l with
  | some x => rfl
  | none =>
    simp only
    have h35 : hasPrefix (l ++ 59 :: r) [35] = hasPrefix l [35] := pre_gap (by decide)
    rw [h35]
    by_cases g : hasPrefix l [35] = true
    · rw [if_pos g, if_pos g]
      obtain ⟨m, rfl⟩ := has35 g
      rw [List.cons_append, marked_semi]
    · rw [if_neg g, if_neg g]
      have hk : kindOf (l ++ 59 :: r) = kindOf l := by
        unfold kindOf
        rw [run_gap (by decide)]
        cases l with
        | nil => exact absurd rfl hl
        | cons c l => rfl
      unfold readR
      rw [hk, run_gap (by decide)]
theorem take_semi {y : Tk} (h : Own y) (rest : List UInt8) (f : Nat) (line : Int) (acc : List (Tk × Int)) (ha : acc.length < 4096) :
    lexA (f + 1) (y.t ++ 59 :: rest) line acc = lexA f (59 :: rest) line (acc ++ [(y, line)]) := by
  obtain ⟨c, r, ht, h10, hbl, hp, hr⟩ := h
  have e1 : readL (y.t ++ 59 :: rest) = (y, 0) := (read_semi (by rw [ht]; simp)).trans hr
  have e2 : hasPrefix (y.t ++ 59 :: rest) [45, 45] = false := (pre_gap (by decide)).trans hp
  have e3 : (y.t ++ 59 :: rest).drop y.t.length = 59 :: rest := by simp
  obtain ⟨M, hM⟩ : ∃ M, y.t ++ 59 :: rest = c :: M := ⟨r ++ 59 :: rest, by rw [ht]; rfl⟩
  rw [hM] at e1 e2 e3 ⊢
  conv => lhs; unfold lexA
  rw [if_neg h10, if_neg hbl, e2, if_neg (by decide), e1]
  simp only [if_true]
  rw [if_neg (by omega), e3]
def tkF : Tk := ⟨1, [102], false, 0⟩
def tkX : Tk := ⟨1, [120], false, 0⟩
def tkEq : Tk := ⟨6, [61], false, 0⟩
def tkSemi : Tk := ⟨6, [59], false, 0⟩
theorem own_f : Own tkF := ⟨102, [], rfl, by decide, by decide, by decide, rfl⟩
theorem own_x : Own tkX := ⟨120, [], rfl, by decide, by decide, by decide, rfl⟩
theorem own_eq : Own tkEq := ⟨61, [], rfl, by decide, by decide, by decide, rfl⟩
theorem own_semi : Own tkSemi := ⟨59, [], rfl, by decide, by decide, by decide, rfl⟩
/-- So many atoms. -/
def manyX : Nat → List UInt8
  | 0 => []
  | n + 1 => 32 :: 120 :: manyX n
theorem manyX_succ : ∀ (n : Nat), manyX (n + 1) = manyX n ++ [32, 120]
  | 0 => rfl
  | n + 1 => by
    show 32 :: 120 :: manyX (n + 1) = 32 :: 120 :: manyX n ++ [32, 120]
    rw [manyX_succ n]
    rfl
theorem manyX_len : ∀ (n : Nat), (manyX n).length = 2 * n
  | 0 => rfl
  | n + 1 => by simp only [manyX, List.length_cons, manyX_len n]; omega
theorem lexA_many : ∀ (n : Nat) (y : Tk) (acc : List (Tk × Int)) (f : Nat), Own y → 2 * n + 2 < f → acc.length + n + 2 ≤ 4096 → lexA f (y.t ++ (manyX n ++ [59])) 1 acc = .good (acc ++ (y, 1) :: (List.replicate n (tkX, 1) ++ [(tkSemi, 1)]))
  | 0, y, acc, f, hy, hf, hl => by
    obtain ⟨g, rfl⟩ : ∃ g, f = g + 1 + 1 := ⟨f - 2, by omega⟩
    show lexA (g + 1 + 1) (y.t ++ 59 :: []) 1 acc = _
    rw [take_semi hy _ _ _ _ (by omega)]
    have h := last_own own_semi g 1 (acc ++ [(y, 1)]) (by rw [List.length_append, List.length_singleton]; omega)
    rw [show tkSemi.t = [59] from rfl] at h
    rw [h]
    simp
  | n + 1, y, acc, f, hy, hf, hl => by
    obtain ⟨g, rfl⟩ : ∃ g, f = g + 1 + 1 := ⟨f - 2, by omega⟩
    show lexA (g + 1 + 1) (y.t ++ 32 :: (tkX.t ++ (manyX n ++ [59]))) 1 acc = _
    rw [take_own hy _ (Or.inl rfl) _ _ _ (by omega), skip_32, lexA_many n tkX _ g own_x (by omega) (by rw [List.length_append, List.length_singleton]; omega)]
    simp [List.replicate_succ]
/-- The tokens of the whole text. -/
theorem lexL_rows {H : Tk} (ho : Own H) (n : Nat) (hn : n ≤ 40) : lexL (102 :: 32 :: 61 :: 32 :: (H.t ++ (manyX n ++ [59]))) = .good ((tkF, 1) :: (tkEq, 1) :: (H, 1) :: (List.replicate n (tkX, 1) ++ [(tkSemi, 1)])) := by
  have e : (102 :: 32 :: 61 :: 32 :: (H.t ++ (manyX n ++ [59]))) = tkF.t ++ 32 :: (tkEq.t ++ 32 :: (H.t ++ (manyX n ++ [59]))) := rfl
  have hlen : 2 * n + 6 ≤ (102 :: 32 :: 61 :: 32 :: (H.t ++ (manyX n ++ [59]))).length := by
    obtain ⟨c, r, ht, _⟩ := ho
    rw [ht]
    simp only [List.length_cons, List.length_append, manyX_len, List.length_nil]
    omega
  unfold lexL
  obtain ⟨g, hg⟩ : ∃ g, (102 :: 32 :: 61 :: 32 :: (H.t ++ (manyX n ++ [59]))).length + 1 = g + 1 + 1 + 1 + 1 := ⟨(102 :: 32 :: 61 :: 32 :: (H.t ++ (manyX n ++ [59]))).length - 3, by omega⟩
  rw [hg, e, take_own own_f _ (Or.inl rfl) _ _ _ (by simp), skip_32, take_own own_eq _ (Or.inl rfl) _ _ _ (by simp), skip_32, lexA_many n H _ g ho (by omega) (by simp; omega)]
  simp

end Go.Proofs.YtbnmmbjajheedaaGreatDoor

/- Brackets in brackets: the tokens of such a text. -/
namespace Go.Proofs.YtbnmmbjajheedaaGreatDoor
open Go.RowKit Go.Lib

theorem read_run {c : UInt8} {l r : List UInt8} {b : UInt8} (hc : inRun c = true) (h35 : c ≠ 35) (hb : inRun b = false) : readL ((c :: l) ++ b :: r) = readL (c :: l) := by
  have p35 : ∀ m, hasPrefix (c :: m) [35] = false := fun m => by
    rw [Bool.eq_false_iff]
    intro h
    exact h35 ((has35_iff c m).1 h)
  unfold readL
  rw [List.cons_append, no_sign _ (Or.inl hc), no_sign _ (Or.inl hc), p35, p35]
  simp only [Bool.false_eq_true, if_false]
  have hk : kindOf (c :: (l ++ b :: r)) = kindOf (c :: l) := by
    unfold kindOf
    rw [← List.cons_append, run_gap hb]
    rfl
  unfold readR
  rw [hk, ← List.cons_append, run_gap hb]
theorem take_tok {y : Tk} {c : UInt8} {r rest : List UInt8} (hr : readL (c :: r) = (y, 0)) (hd : (c :: r).drop y.t.length = rest) (h10 : c ≠ 10) (hbl : ¬ (c = 9 ∨ c = 13 ∨ c = 32)) (hp : hasPrefix (c :: r) [45, 45] = false) (f : Nat) (acc : List (Tk × Int)) (ha : acc.length < 4096) :
    lexA (f + 1) (c :: r) 1 acc = lexA f rest 1 (acc ++ [(y, 1)]) := by
  conv => lhs; unfold lexA
  rw [if_neg h10, if_neg hbl, hp, if_neg (by decide), hr]
  simp only [if_true]
  rw [if_neg (by omega), hd]
def tkO : Tk := ⟨6, [40], false, 0⟩
def tkS : Tk := ⟨6, [41], false, 0⟩
def tkG : Tk := ⟨1, [103], false, 0⟩
def tkLet : Tk := ⟨5, [108, 101, 116], false, 0⟩
def tkIn : Tk := ⟨5, [105, 110], false, 0⟩
theorem own_let : Own tkLet := ⟨108, [101, 116], rfl, by decide, by decide, by decide, rfl⟩
theorem own_in : Own tkIn := ⟨105, [110], rfl, by decide, by decide, by decide, rfl⟩
theorem own_g : Own tkG := ⟨103, [], rfl, by decide, by decide, by decide, rfl⟩
theorem own_s : Own tkS := ⟨41, [], rfl, by decide, by decide, by decide, rfl⟩
theorem read_40 (r : List UInt8) : readL (40 :: r) = (tkO, 0) := by
  have h : signL (40 :: r) = some (⟨#[40]⟩, 6) := rfl
  unfold readL
  rw [h]
  rfl
theorem read_41 (r : List UInt8) : readL (41 :: r) = (tkS, 0) := by
  have h : signL (41 :: r) = some (⟨#[41]⟩, 6) := rfl
  unfold readL
  rw [h]
  rfl
theorem lex_opens : ∀ (n f : Nat) (rest : List UInt8) (acc : List (Tk × Int)), acc.length + n ≤ 4096 → lexA (f + n) (List.replicate n 40 ++ rest) 1 acc = lexA f rest 1 (acc ++ List.replicate n (tkO, 1))
  | 0, f, rest, acc, _ => by simp
  | n + 1, f, rest, acc, h => by
    rw [List.replicate_succ, List.cons_append, ← Nat.add_assoc, take_tok (read_40 _) rfl (by decide) (by decide) rfl _ _ (by omega)]
    show lexA (f + n) (List.replicate n 40 ++ rest) 1 _ = _
    rw [lex_opens n f rest _ (by rw [List.length_append, List.length_singleton]; omega)]
    simp [List.replicate_succ]
theorem lex_shuts : ∀ (n f : Nat) (rest : List UInt8) (acc : List (Tk × Int)), acc.length + n ≤ 4096 → lexA (f + n) (List.replicate n 41 ++ rest) 1 acc = lexA f rest 1 (acc ++ List.replicate n (tkS, 1))
  | 0, f, rest, acc, _ => by simp
  | n + 1, f, rest, acc, h => by
    rw [List.replicate_succ, List.cons_append, ← Nat.add_assoc, take_tok (read_41 _) rfl (by decide) (by decide) rfl _ _ (by omega)]
    show lexA (f + n) (List.replicate n 41 ++ rest) 1 _ = _
    rw [lex_shuts n f rest _ (by rw [List.length_append, List.length_singleton]; omega)]
    simp [List.replicate_succ]
theorem lex_one {y : Tk} (h : Own y) {c : UInt8} (hy : y.t = [c]) (hc : inRun c = true) (h35 : c ≠ 35) {b : UInt8} (hb : inRun b = false) (rest : List UInt8) (f : Nat) (acc : List (Tk × Int)) (ha : acc.length < 4096) : lexA (f + 1) (c :: b :: rest) 1 acc = lexA f (b :: rest) 1 (acc ++ [(y, 1)]) := by
  obtain ⟨c', r, ht, h10, hbl, hp, hr⟩ := h
  rw [hy] at ht hr
  obtain ⟨rfl, rfl⟩ := List.cons.inj ht
  have e1 : readL (c :: b :: rest) = (y, 0) := (read_run (l := []) hc h35 hb).trans hr
  have e2 : hasPrefix (c :: b :: rest) [45, 45] = false := by
    have h45 : (45 : UInt8) ≠ c := by rintro rfl; revert hc; decide
    simp [hasPrefix, List.isPrefixOf, h45]
  exact take_tok e1 (by rw [hy]; rfl) h10 hbl e2 f acc ha
/-- So many brackets around a name. -/
def deepB (n : Nat) (rest : List UInt8) : List UInt8 := List.replicate n 40 ++ 120 :: (List.replicate n 41 ++ rest)
def deepT (n : Nat) (R : List (Tk × Int)) : List (Tk × Int) := List.replicate n (tkO, 1) ++ (tkX, 1) :: (List.replicate n (tkS, 1) ++ R)
theorem lex_deep (n f : Nat) (b : UInt8) (hb : inRun b = false) (rest : List UInt8) (acc : List (Tk × Int)) (ha : acc.length + n + n + 1 ≤ 4096) : lexA (f + n + 1 + n) (deepB n (b :: rest)) 1 acc = lexA f (b :: rest) 1 (acc ++ deepT n []) := by
  unfold deepB
  rw [lex_opens n _ _ _ (by omega)]
  have hx : ∃ b' rest', List.replicate n 41 ++ b :: rest = b' :: rest' ∧ inRun b' = false := by
    cases n with
    | zero => exact ⟨b, rest, rfl, hb⟩
    | succ n => exact ⟨41, List.replicate n 41 ++ b :: rest, rfl, by decide⟩
  obtain ⟨b', rest', he, hb'⟩ := hx
  rw [he, lex_one own_x rfl (by decide) (by decide) hb' _ _ _ (by rw [List.length_append, List.length_replicate]; omega), ← he, lex_shuts n f _ _ (by simp only [List.length_append, List.length_replicate, List.length_singleton]; omega)]
  congr 1
  simp [deepT]
theorem lex_eq (rest : List UInt8) {b : UInt8} (hb : b ≠ 61 ∧ b ≠ 46) (f : Nat) (acc : List (Tk × Int)) (ha : acc.length < 4096) : lexA (f + 1) (61 :: b :: rest) 1 acc = lexA f (b :: rest) 1 (acc ++ [(tkEq, 1)]) := by
  have h : signL (61 :: b :: rest) = some (⟨#[61]⟩, 6) := by
    have h1 : ((61 : UInt8) == b) = false := by simpa using fun e => hb.1 e.symm
    unfold signL signsB
    simp [List.find?, hasPrefix, List.isPrefixOf, h1]
  have hr : readL (61 :: b :: rest) = (tkEq, 0) := by
    unfold readL
    rw [h]
    rfl
  exact take_tok hr rfl (by decide) (by decide) rfl f acc ha
theorem deepB_len (n : Nat) (rest : List UInt8) : (deepB n rest).length = n + n + 1 + rest.length := by
  unfold deepB
  simp only [List.length_append, List.length_replicate, List.length_cons]
  omega
theorem deepB_head (n : Nat) (rest : List UInt8) : ∃ b r, deepB n rest = b :: r ∧ b ≠ 61 ∧ b ≠ 46 := by
  cases n with
  | zero => exact ⟨120, _, rfl, by decide, by decide⟩
  | succ n => exact ⟨40, _, rfl, by decide, by decide⟩
def plainT (n : Nat) : List (Tk × Int) := (tkF, 1) :: (tkEq, 1) :: deepT n [(tkSemi, 1)]
def moreT (n : Nat) : List (Tk × Int) := (tkF, 1) :: (tkEq, 1) :: (tkLet, 1) :: (tkG, 1) :: (tkEq, 1) :: deepT n [(tkIn, 1), (tkG, 1), (tkSemi, 1)]
theorem deepT_app (n : Nat) (R : List (Tk × Int)) : deepT n R = deepT n [] ++ R := by simp [deepT]
theorem lexL_plain (n : Nat) (hn : n ≤ 300) : lexL (102 :: 61 :: deepB n [59]) = .good (plainT n) := by
  unfold lexL
  have hl : (102 :: 61 :: deepB n [59]).length + 1 = (n + n + 3) + 1 + 1 := by
    rw [List.length_cons, List.length_cons, deepB_len]; simp
  rw [hl, lex_one own_f rfl (by decide) (by decide) (by decide) _ _ _ (by simp)]
  obtain ⟨b, r, hb, h1⟩ := deepB_head n [59]
  rw [hb, lex_eq _ h1 _ _ (by simp), ← hb]
  have e : n + n + 3 = 2 + n + 1 + n := by omega
  rw [e, lex_deep n 2 59 (by decide) [] _ (by simp; omega)]
  have h := last_own own_semi 1 1 ([] ++ [(tkF, 1)] ++ [(tkEq, 1)] ++ deepT n []) (by simp [deepT]; omega)
  rw [show tkSemi.t = [59] from rfl] at h
  rw [h]
  simp [plainT, deepT]
theorem lexL_more (n : Nat) (hn : n ≤ 300) : lexL (102 :: 61 :: 108 :: 101 :: 116 :: 32 :: 103 :: 61 :: deepB n [32, 105, 110, 32, 103, 59]) = .good (moreT n) := by
  unfold lexL
  have hl : (102 :: 61 :: 108 :: 101 :: 116 :: 32 :: 103 :: 61 :: deepB n [32, 105, 110, 32, 103, 59]).length + 1 = (2 * n + 10) + 1 + 1 + 1 + 1 + 1 + 1 := by
    simp only [List.length_cons, deepB_len, List.length_nil]; omega
  have e1 : (108 :: 101 :: 116 :: 32 :: 103 :: 61 :: deepB n [32, 105, 110, 32, 103, 59] : List UInt8) = tkLet.t ++ 32 :: (103 :: 61 :: deepB n [32, 105, 110, 32, 103, 59]) := rfl
  rw [hl, lex_one own_f rfl (by decide) (by decide) (by decide) _ _ _ (by simp), lex_eq _ (by decide) _ _ (by simp), e1, take_own own_let _ (Or.inl rfl) _ _ _ (by simp), skip_32, lex_one own_g rfl (by decide) (by decide) (by decide) _ _ _ (by simp)]
  obtain ⟨b, r, hb, h1⟩ := deepB_head n [32, 105, 110, 32, 103, 59]
  rw [hb, lex_eq _ h1 _ _ (by simp), ← hb]
  have e : 2 * n + 10 = 9 + n + 1 + n := by omega
  rw [e, lex_deep n 9 32 (by decide) _ _ (by simp; omega)]
  have e2 : ([105, 110, 32, 103, 59] : List UInt8) = tkIn.t ++ 32 :: [103, 59] := rfl
  rw [show (9 : Nat) = 8 + 1 from rfl, skip_32, e2, take_own own_in _ (Or.inl rfl) 7 _ _ (by simp [deepT]; omega), show (7 : Nat) = 6 + 1 from rfl, skip_32, show ([103, 59] : List UInt8) = tkG.t ++ 59 :: [] from rfl, take_semi own_g _ 5 _ _ (by simp [deepT]; omega)]
  have h := fun acc ha => last_own own_semi 4 1 acc ha
  rw [show tkSemi.t = [59] from rfl] at h
  rw [h _ (by simp [deepT]; omega)]
  simp [moreT, deepT]

end Go.Proofs.YtbnmmbjajheedaaGreatDoor

/- The document's parser: with each step it goes on, or has a fault. -/
namespace Go.Proofs.YtbnmmbjajheedaaGreatDoor
open Go.RowKit Go.Lib

/-- How much may still come. -/
def mS (s : St) : Nat := if s.e = 0 then s.r.length + 1 else 0
theorem mS_dead {s : St} (h : s.e ≠ 0) : mS s = 0 := if_neg h
theorem mS_alive {s : St} (h : s.e = 0) : mS s = s.r.length + 1 := if_pos h
def Mn {α : Type} (d : Dp α) : Prop := ∀ s, mS (d s).2 ≤ mS s
theorem bad_e {ll er : Int} {s : St} (he : er ≠ 0) : (s.bad ll er).e ≠ 0 := by
  unfold St.bad
  by_cases h : s.e ≠ 0
  · rw [if_pos h]; exact h
  · rw [if_neg h]
    cases s.r with
    | nil => simp
    | cons y r => exact he
theorem bad_mn {ll er : Int} {s : St} (he : er ≠ 0) : mS (s.bad ll er) ≤ mS s := by rw [mS_dead (bad_e he)]; exact Nat.zero_le _
theorem bad_r {ll er : Int} {s : St} : (s.bad ll er).r = s.r := by
  unfold St.bad
  split
  · rfl
  · split
    · rename_i h; exact h.symm
    · rename_i h; exact h.symm
theorem next_mn (s : St) : mS s.next ≤ mS s := by
  unfold mS St.next
  simp only
  split
  · have := List.length_tail (l := s.r); omega
  · exact Nat.le_refl _
theorem next_lt {s : St} (h : s.e = 0) (hr : s.r ≠ []) : mS s.next < mS s := by
  unfold mS St.next
  simp only [h, if_true]
  have := List.length_pos_iff.2 hr
  have := List.length_tail (l := s.r)
  omega
theorem sees_ne {t : Nm} {r : List Tok} (h : seesL t r = true) : r ≠ [] := by rintro rfl; cases h
theorem kind_ne {k : Int} (hk : k ≠ 0) {r : List Tok} (h : kindL r = k) : r ≠ [] := by rintro rfl; exact hk h.symm
theorem need_mn (ll : Int) (t : Nm) (s : St) : mS (needD ll t s) ≤ mS s := by
  unfold needD
  split
  · exact next_mn s
  · exact bad_mn (by decide)
theorem tok_mn (ll k : Int) (s : St) : mS (tokD ll k s).2 ≤ mS s := by
  unfold tokD
  split
  · exact next_mn s
  · exact bad_mn (by decide)
theorem tok_lt {ll k : Int} (hk : k ≠ 0) {s : St} (h : s.e = 0) : mS (tokD ll k s).2 < mS s := by
  unfold tokD
  split
  · rename_i g; exact next_lt h (kind_ne hk g.2)
  · simp only
    rw [mS_dead (bad_e (by decide)), mS_alive h]
    omega
theorem loop_mn (ll : Int) : ∀ (n : Nat) (b : Bool) (acc : List Nm) (s : St), mS (loopN ll n b acc s).2 ≤ mS s
  | 0, _, _, _ => Nat.le_refl _
  | n + 1, b, acc, s => by
    unfold loopN
    split
    · exact Nat.le_trans (loop_mn ll n _ _ _) (tok_mn _ _ _)
    · exact Nat.le_refl _
theorem names_mn (ll : Int) (b : Bool) (s : St) : mS (namesD ll b s).2 ≤ mS s := loop_mn _ _ _ _ _
theorem names_lt {ll : Int} {s : St} (h : s.e = 0) : mS (namesD ll true s).2 < mS s := by
  unfold namesD loopN
  rw [if_pos ⟨h, Or.inl rfl⟩]
  exact Nat.lt_of_le_of_lt (loop_mn _ _ _ _ _) (tok_lt (by decide) h)
theorem loop_len (ll : Int) : ∀ (n : Nat) (b : Bool) (acc : List Nm) (s : St), (loopN ll n b acc s).1.length + mS (loopN ll n b acc s).2 ≤ acc.length + mS s
  | 0, _, _, _ => Nat.le_refl _
  | n + 1, b, acc, s => by
    unfold loopN
    split
    · rename_i g
      have h1 := loop_len ll n false (acc ++ [(tokD ll 1 s).1.1.t]) (tokD ll 1 s).2
      have h2 := tok_lt (ll := ll) (k := 1) (by decide) g.1
      simp only [List.length_append, List.length_cons, List.length_nil] at h1
      omega
    · exact Nat.le_refl _
theorem names_len (ll : Int) (b : Bool) (s : St) : (namesD ll b s).1.length + mS (namesD ll b s).2 ≤ mS s := by
  have h := loop_len ll (s.r.length + 2) b [] s
  rw [List.length_nil, Nat.zero_add] at h
  exact h
theorem bind_mn {ll : Int} {ex : Dp Ex} (hx : Mn ex) : Mn (bindD ll ex) := fun _ => Nat.le_trans (hx _) (Nat.le_trans (need_mn _ _ _) (names_mn _ _ _))
theorem bind_lt {ll : Int} {ex : Dp Ex} (hx : Mn ex) {s : St} (h : s.e = 0) : mS (bindD ll ex s).2 < mS s := Nat.lt_of_le_of_lt (Nat.le_trans (hx _) (need_mn _ _ _)) (names_lt h)
theorem more_mn {α : Type} {item : Dp α} (hx : Mn item) : ∀ (n : Nat) (acc : List α), Mn (moreD item n acc)
  | 0, _ => fun _ => Nat.le_refl _
  | n + 1, acc => fun s => by
    unfold moreD
    split
    · exact Nat.le_trans (more_mn hx n _ _) (Nat.le_trans (hx _) (next_mn _))
    · exact Nat.le_refl _
theorem some_mn {α : Type} {item : Dp α} (hx : Mn item) : Mn (someD item) := fun s => Nat.le_trans (more_mn hx _ _ _) (hx s)
theorem atom_mn {ll : Int} {ex : Dp Ex} (hx : Mn ex) : Mn (atomD ll ex) := fun s => by
  unfold atomD
  split
  · exact tok_mn _ _ _
  split
  · exact tok_mn _ _ _
  split
  · exact tok_mn _ _ _
  split
  · exact tok_mn _ _ _
  · exact Nat.le_trans (need_mn _ _ _) (Nat.le_trans (hx _) (next_mn _))
theorem atom_lt {ll : Int} {ex : Dp Ex} (hx : Mn ex) {s : St} (h : s.e = 0) (hb : begins s.r) : mS (atomD ll ex s).2 < mS s := by
  unfold atomD
  split
  · exact tok_lt (by decide) h
  split
  · exact tok_lt (by decide) h
  split
  · exact tok_lt (by decide) h
  split
  · exact tok_lt (by decide) h
  · rename_i g1 g2 g3 g4
    have hs : seesL [40] s.r = true := by
      rcases hb with h | h | h | h | h
      · exact absurd h g1
      · exact absurd h g2
      · exact absurd h g3
      · exact absurd h g4
      · exact h
    exact Nat.lt_of_le_of_lt (Nat.le_trans (need_mn _ _ _) (hx _)) (next_lt h (sees_ne hs))
theorem atoms_mn {ll : Int} {ex : Dp Ex} (hx : Mn ex) : ∀ (n : Nat) (acc : List Ex), Mn (atomsD ll ex n acc)
  | 0, _ => fun _ => Nat.le_refl _
  | n + 1, acc => fun s => by
    unfold atomsD
    split
    · exact Nat.le_trans (atoms_mn hx n _ _) (atom_mn hx _)
    · exact Nat.le_refl _
theorem atomsd_len {ll : Int} {ex : Dp Ex} (hx : Mn ex) : ∀ (n : Nat) (acc : List Ex) (s : St), (atomsD ll ex n acc s).1.length + mS (atomsD ll ex n acc s).2 ≤ acc.length + mS s
  | 0, _, _ => Nat.le_refl _
  | n + 1, acc, s => by
    unfold atomsD
    split
    · rename_i g
      have h1 := atomsd_len (ll := ll) hx n (acc ++ [(atomD ll ex s).1]) (atomD ll ex s).2
      have h2 := atom_lt (ll := ll) hx g.1 g.2
      simp only [List.length_append, List.length_cons, List.length_nil] at h1
      omega
    · exact Nat.le_refl _
theorem row_mn {ll : Int} {ex : Dp Ex} (hx : Mn ex) : Mn (rowD ll ex) := fun s => by
  unfold rowD
  simp only
  split
  · exact Nat.le_trans (bad_mn (by decide)) (atoms_mn hx _ _ _)
  · exact atoms_mn hx _ _ _
theorem alt_mn {ll : Int} {ex : Dp Ex} (hx : Mn ex) : Mn (altD ll ex) := fun s => by
  unfold altD
  split
  · exact Nat.le_trans (hx _) (Nat.le_trans (need_mn _ _ _) (Nat.le_trans (names_mn _ _ _) (tok_mn _ _ _)))
  split
  · exact Nat.le_trans (hx _) (Nat.le_trans (need_mn _ _ _) (tok_mn _ _ _))
  · exact Nat.le_trans (hx _) (Nat.le_trans (need_mn _ _ _) (tok_mn _ _ _))
theorem let_mn {ll : Int} {ex : Dp Ex} (hx : Mn ex) : Mn (letD ll ex) := fun _ => Nat.le_trans (hx _) (Nat.le_trans (need_mn _ _ _) (some_mn (bind_mn hx) _))
theorem of_mn (ll : Int) (s : St) : mS (ofD ll s) ≤ mS s := Nat.le_trans (need_mn _ _ _) (need_mn _ _ _)
theorem case_mn {ll : Int} {ex : Dp Ex} (hx : Mn ex) : Mn (caseD ll ex) := fun s => by
  unfold caseD
  split
  · exact Nat.le_trans (next_mn _) (Nat.le_trans (of_mn _ _) (hx _))
  · exact Nat.le_trans (need_mn _ _ _) (Nat.le_trans (some_mn (alt_mn hx) _) (Nat.le_trans (of_mn _ _) (hx _)))
theorem lam_mn {ll : Int} {ex : Dp Ex} (hx : Mn ex) : Mn (lamD ll ex) := fun _ => Nat.le_trans (hx _) (Nat.le_trans (need_mn _ _ _) (names_mn _ _ _))
theorem rows_mn {ll : Int} {ex : Dp Ex} (hx : Mn ex) : Mn (rowsD ll ex) := fun s => by
  unfold rowsD
  split
  · exact Nat.le_trans (row_mn hx _) (Nat.le_trans (tok_mn _ _ _) (row_mn hx _))
  · exact row_mn hx _
theorem expr_mn {ll : Int} : ∀ k, Mn (exprD ll k)
  | 0 => fun s => by
    unfold exprD
    split
    · exact Nat.le_refl _
    · refine Nat.le_trans (bad_mn (by decide)) ?_
      split
      · exact bad_mn (by decide)
      · exact Nat.le_refl _
  | k + 1 => fun s => by
    unfold exprD
    split
    · exact Nat.le_refl _
    split
    · exact Nat.le_trans (let_mn (expr_mn k) _) (next_mn _)
    split
    · exact Nat.le_trans (case_mn (expr_mn k) _) (next_mn _)
    split
    · exact Nat.le_trans (lam_mn (expr_mn k) _) (next_mn _)
    · exact rows_mn (expr_mn k) _
theorem decl_mn (ll : Int) (s : St) : mS (declD ll s) ≤ mS s := by
  unfold declD
  split
  · exact bad_mn (by decide)
  · exact Nat.le_refl _
theorem decls_mn (ll : Int) : ∀ (n : Nat) (acc : List (Nm × Int)), Mn (declsD ll n acc)
  | 0, _ => fun _ => Nat.le_refl _
  | n + 1, acc => fun s => by
    unfold declsD
    split
    · exact Nat.le_trans (decls_mn ll n _ _) (Nat.le_trans (tok_mn _ _ _) (Nat.le_trans (decl_mn _ _) (tok_mn _ _ _)))
    · exact Nat.le_refl _
theorem decl_lt {ll : Int} {s : St} (h : s.e = 0) : mS (tokD ll 3 (declD ll (tokD ll 2 s).2)).2 < mS s := Nat.lt_of_le_of_lt (Nat.le_trans (tok_mn _ _ _) (decl_mn _ _)) (tok_lt (by decide) h)
theorem declsd_len (ll : Int) : ∀ (n : Nat) (acc : List (Nm × Int)) (s : St), (declsD ll n acc s).1.length + mS (declsD ll n acc s).2 ≤ acc.length + mS s
  | 0, _, _ => Nat.le_refl _
  | n + 1, acc, s => by
    unfold declsD
    split
    · rename_i g
      have h1 := declsd_len ll n (acc ++ [((tokD ll 2 s).1.1.t, (tokD ll 3 (declD ll (tokD ll 2 s).2)).1.1.x)]) (tokD ll 3 (declD ll (tokD ll 2 s).2)).2
      have h2 := decl_lt (ll := ll) g.1
      simp only [List.length_append, List.length_cons, List.length_nil] at h1
      omega
    · exact Nat.le_refl _
theorem data_mn (ll : Int) : Mn (dataD ll) := fun _ => Nat.le_trans (need_mn _ _ _) (decls_mn _ _ _ _)

end Go.Proofs.YtbnmmbjajheedaaGreatDoor
