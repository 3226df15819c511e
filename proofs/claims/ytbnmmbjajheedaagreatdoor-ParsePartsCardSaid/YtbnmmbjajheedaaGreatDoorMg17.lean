import Derived.Test.YtbnmmbjajheedaaGreatDoorMg16
/- What the rows' list gives of the shapes. -/
namespace Go.Proofs.YtbnmmbjajheedaaGreatDoor
open Go.RowKit Go.Lib Go.ChangeAt Go.Stop Go.Extern.Stop

theorem sh_of {W : World} {nm : String} {d : DataW Unit} {rest : List (String × DataW Unit)} {g : Nat} {s : Sh} (h : laidMet Tryz.prog ((nm, d) :: rest) W) (hg : Tryz.prog.globalNamed nm = some g) (hty : (Tryz.prog.globals[g]?).map (·.type) = some 105) (hd : d = .agg [.lit (.int .i64 s.1), .lit (.string s.2)]) : ShAt W g s := by
  subst hd
  obtain ⟨ps, ⟨g', t', cs, fuel, p, q, hg', ht', hvar, hx, _, _⟩, _⟩ := h
  obtain rfl := Option.some.inj (hg.symm.trans hg')
  obtain rfl := Option.some.inj (hty.symm.trans ht')
  have hu : Tryz.prog.underlying 105 = some (.struct (Tryz.prog.fieldsOf 105)) := by kernel_rfl
  obtain ⟨zs, m, -, hbz, hcl, hzl, hat⟩ := DataW.trod_struct hu hx
  have hl : Tryz.prog.fieldsOf 105 = #[⟨"kind", 3, 0, false, "", "treadwheel/parse", 0⟩, ⟨"text", 9, 1, false, "", "treadwheel/parse", 8⟩] := by kernel_rfl
  rw [hl] at hat hzl
  have a0 := hat 0 ⟨"kind", 3, 0, false, "", "treadwheel/parse", 0⟩ rfl
  have a1 := hat 1 ⟨"text", 9, 1, false, "", "treadwheel/parse", 8⟩ rfl
  dsimp only at a0 a1
  obtain ⟨z0, z1, rfl⟩ : ∃ z0 z1, zs = [z0, z1] := by
    match zs, hzl with
    | [z0, z1], _ => exact ⟨z0, z1, rfl⟩
  rw [show Tryz.prog.cellsOf 3 = 1 by kernel_rfl] at a0
  rw [show Tryz.prog.cellsOf 9 = 1 by kernel_rfl] at a1
  obtain ⟨u, hu0, e0, -⟩ := DataW.trod_int Tryz.underlying3 a0
  obtain ⟨v, hv0, e1, -⟩ := DataW.trod_string Tryz.underlying9 a1
  subst e0 e1
  simp at hbz
  obtain ⟨⟨b0, b1⟩, -⟩ := hbz
  have c0 := congrArg (·[0]?) hu0
  have c1 := congrArg (·[0]?) hv0
  replace c0 : cs[0]? = some (.int .i64 u) := by simpa [List.getElem?_take] using c0
  replace c1 : cs[1]? = some (.string v) := by simpa [List.getElem?_drop] using c1
  refine ⟨?_, ?_⟩
  · rw [World.var?_cell hg hvar, c0, b0]
  · rw [World.var?_cell hg hvar, c1]
    have : v = tx s.2 := ByteArray.ext (Array.ext' b1.symm)
    rw [this]
set_option maxRecDepth 100000 in
theorem env8_all {W : World} (h0 : laidMetH Tryz.prog Rows.parsePartsRow.laid W) : SG W ∧ EE W ∧ Shs W := by
  have hSE := env_all (W := W) (show laidMetH Tryz.prog Rows.parseTellsRow.laid W from h0)
  have h' : laidMet Tryz.prog Rows.parsePartsRow.laid W := by
    have h := h0
    rw [MakeChecks.laidMetH_plain _ _ _ (by kernel_rfl)] at h
    exact h
  have h2 := laidMet.tail h'
  have h3 := laidMet.tail h2
  have h4 := laidMet.tail h3
  have h5 := laidMet.tail h4
  have h6 := laidMet.tail h5
  have h7 := laidMet.tail h6
  have h8 := laidMet.tail h7
  have h9 := laidMet.tail h8
  have h10 := laidMet.tail h9
  have h11 := laidMet.tail h10
  have h12 := laidMet.tail h11
  have h13 := laidMet.tail h12
  have h14 := laidMet.tail h13
  have h15 := laidMet.tail h14
  have h16 := laidMet.tail h15
  have h17 := laidMet.tail h16
  have h18 := laidMet.tail h17
  have h19 := laidMet.tail h18
  have h20 := laidMet.tail h19
  have h21 := laidMet.tail h20
  have h22 := laidMet.tail h21
  have h23 := laidMet.tail h22
  have h24 := laidMet.tail h23
  have h25 := laidMet.tail h24
  have s_name : ShAt W 3 sName := sh_of h8 (show Tryz.prog.globalNamed "treadwheel/parse.name" = some 3 by kernel_rfl) (by kernel_rfl) rfl
  have s_con : ShAt W 4 sCon := sh_of h9 (show Tryz.prog.globalNamed "treadwheel/parse.con" = some 4 by kernel_rfl) (by kernel_rfl) rfl
  have s_num : ShAt W 5 sNum := sh_of h10 (show Tryz.prog.globalNamed "treadwheel/parse.number" = some 5 by kernel_rfl) (by kernel_rfl) rfl
  have s_sign : ShAt W 15 sSign := sh_of h11 (show Tryz.prog.globalNamed "treadwheel/parse.sign" = some 15 by kernel_rfl) (by kernel_rfl) rfl
  have s_back : ShAt W 6 sBack := sh_of h12 (show Tryz.prog.globalNamed "treadwheel/parse.builtIn" = some 6 by kernel_rfl) (by kernel_rfl) rfl
  have s_data : ShAt W 8 sData := sh_of h13 (show Tryz.prog.globalNamed "treadwheel/parse.dataWord" = some 8 by kernel_rfl) (by kernel_rfl) rfl
  have s_letw : ShAt W 0 sLet := sh_of h14 (show Tryz.prog.globalNamed "treadwheel/parse.letWord" = some 0 by kernel_rfl) (by kernel_rfl) rfl
  have s_inw : ShAt W 10 sIn := sh_of h15 (show Tryz.prog.globalNamed "treadwheel/parse.inWord" = some 10 by kernel_rfl) (by kernel_rfl) rfl
  have s_casew : ShAt W 1 sCase := sh_of h16 (show Tryz.prog.globalNamed "treadwheel/parse.caseWord" = some 1 by kernel_rfl) (by kernel_rfl) rfl
  have s_ofw : ShAt W 11 sOf := sh_of h17 (show Tryz.prog.globalNamed "treadwheel/parse.ofWord" = some 11 by kernel_rfl) (by kernel_rfl) rfl
  have s_opn : ShAt W 7 sOpen := sh_of h18 (show Tryz.prog.globalNamed "treadwheel/parse.roundOpen" = some 7 by kernel_rfl) (by kernel_rfl) rfl
  have s_shut : ShAt W 16 sShut := sh_of h19 (show Tryz.prog.globalNamed "treadwheel/parse.roundClose" = some 16 by kernel_rfl) (by kernel_rfl) rfl
  have s_curl : ShAt W 12 sCurl := sh_of h20 (show Tryz.prog.globalNamed "treadwheel/parse.curlyOpen" = some 12 by kernel_rfl) (by kernel_rfl) rfl
  have s_lruc : ShAt W 13 sLruc := sh_of h21 (show Tryz.prog.globalNamed "treadwheel/parse.curlyClose" = some 13 by kernel_rfl) (by kernel_rfl) rfl
  have s_semi : ShAt W 9 sSemi := sh_of h22 (show Tryz.prog.globalNamed "treadwheel/parse.semicolon" = some 9 by kernel_rfl) (by kernel_rfl) rfl
  have s_eq : ShAt W 17 sEq := sh_of h23 (show Tryz.prog.globalNamed "treadwheel/parse.equals" = some 17 by kernel_rfl) (by kernel_rfl) rfl
  have s_arrow : ShAt W 14 sArrow := sh_of h24 (show Tryz.prog.globalNamed "treadwheel/parse.arrow" = some 14 by kernel_rfl) (by kernel_rfl) rfl
  have s_lam : ShAt W 2 sLam := sh_of h25 (show Tryz.prog.globalNamed "treadwheel/parse.backslash" = some 2 by kernel_rfl) (by kernel_rfl) rfl
  exact ⟨hSE.1, hSE.2, ⟨s_letw, s_casew, s_lam, s_name, s_con, s_num, s_back, s_opn, s_data, s_semi, s_inw, s_ofw, s_curl, s_lruc, s_arrow, s_sign, s_shut, s_eq⟩⟩
end Go.Proofs.YtbnmmbjajheedaaGreatDoor
