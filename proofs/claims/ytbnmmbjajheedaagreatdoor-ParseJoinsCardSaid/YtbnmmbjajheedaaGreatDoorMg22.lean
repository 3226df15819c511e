import Derived.Test.YtbnmmbjajheedaaGreatDoorRows
import Derived.Lib.LaidTab
import Derived.LaidLaws
import Derived.DataReads
import Derived.Stop.LaidErr
import Derived.LaidMore
import Derived.Test.YtbnmmbjajheedaaGreatDoorMg3
import Derived.Test.YtbnmmbjajheedaaGreatDoorMg14
namespace Go.Proofs.YtbnmmbjajheedaaGreatDoor
set_option maxHeartbeats 64000000
set_option maxRecDepth 100000
open Go.RowKit Go.ChangeAt Go.Stop Go.Extern.Stop
def signData {H : Type} (x : List UInt8) (y : Int) : DataW H := .agg [.lit (.string x), .lit (.int .i64 y)]
theorem cells_of_signs {H : Type} {enc : TypeId × Value → H} {P : Program} {w : World} {base : Nat} {sp : Nat → Bool} {held : Bool} {fuel : Nat} {t e i0 i1 : TypeId} {n : Nat} {f0 f1 : Field} {cs : List Value} {xs : List (List UInt8 × Int)} {p : List MemPlace}
  (ht : P.underlying t = some (.array n e)) (he : P.underlying e = some (.struct #[f0, f1])) (h0 : f0.type = i0) (h1 : f1.type = i1) (hi0 : P.underlying i0 = some .string) (hi1 : P.underlying i1 = some (.int .i64))
  (o0 : f0.offset = 0) (o1 : f1.offset = 1) (hci0 : P.cellsOf i0 = 1) (hci1 : P.cellsOf i1 = 1) (hce : P.cellsOf e = 2) (hct : P.cellsOf t = n * 2)
  (h : DataW.trod enc P w base sp held fuel t cs = some (.agg (xs.map fun x => signData x.1 x.2), p)) :
  ∀ j x, xs[j]? = some x → (∃ s : ByteArray, s.data.toList = x.1 ∧ cs[j * 2]? = some (.string s)) ∧ cs[j * 2 + 1]? = some (.int .i64 x.2) := by
 cases fuel with
 | zero => simp [DataW.trod] at h
 | succ fuel =>
  simp only [DataW.trod, ht, hce, hct] at h
  split at h
  ·rename_i hl
   obtain ⟨ys, hm, hx⟩ := Option.map_eq_some_iff.1 h
   have hxs : ys.map (·.1) = xs.map fun x => (signData x.1 x.2 : DataW H) := by
    have := congrArg Prod.fst hx
    simpa using this
   have hyl : ys.length = n := by simpa using Lib.mapM_length hm
   intro j x hj
   have hlen : xs.length = n := by
    have := congrArg List.length hxs
    simp at this
    omega
   have hjn : j < n := by have := (List.getElem?_eq_some_iff.1 hj).1; omega
   obtain ⟨b, hb, hf⟩ := Lib.mapM_at hm j j (by simp [hjn])
   have hbd : b.1 = signData x.1 x.2 := by
    have h2 : (ys.map (·.1))[j]? = some b.1 := by simp [hb]
    rw [hxs] at h2
    simpa [hj] using h2.symm
   obtain ⟨zs, m, -, hbz, hcl, hzl, hat⟩ := DataW.trod_struct he hf
   subst hbz
   simp only [signData, DataW.agg.injEq] at hbd
   have a0 := hat 0 f0 rfl
   have a1 := hat 1 f1 rfl
   rw [h0, hci0, o0] at a0
   rw [h1, hci1, o1] at a1
   obtain ⟨z0, z1, rfl⟩ : ∃ z0 z1, zs = [z0, z1] := by
    match zs, hzl with
    | [z0, z1], _ => exact ⟨z0, z1, rfl⟩
   obtain ⟨u, hu, rfl, -⟩ := DataW.trod_string hi0 a0
   obtain ⟨v, hv, rfl, -⟩ := DataW.trod_int hi1 a1
   simp only [List.map_cons, List.map_nil, List.cons.injEq, DataW.lit.injEq, Lit.int.injEq, Lit.string.injEq, true_and, and_true] at hbd
   obtain ⟨e0, rfl⟩ := hbd
   refine ⟨⟨u, e0, ?_⟩, ?_⟩
   ·have := congrArg (·[0]?) hu
    simpa [List.getElem?_take, List.getElem?_drop] using this
   ·have := congrArg (·[0]?) hv
    simpa [List.getElem?_take, List.getElem?_drop] using this
  ·cases h
def sgD : List (List UInt8 × Int) := signsB.map fun x => (x.1.data.toList, x.2)
theorem own : ownKnob Tryz.prog.godebug = none := by kernel_rfl
theorem star : "*" ++ "errors.errorString" = "*errors.errorString" := by decide
theorem rowErr (u : TypeId) (h : Tryz.prog.typeName? 3 u = some "*errors.errorString") : u = 225 :=
 typeName_ptr_named (nm := "errors.errorString") (by rw [star]; kernel_rfl) (by kernel_rfl) (by decide) u (by rw [star]; exact h)
theorem sg_at (j : Nat) (v : Value) (h : sgL[j]? = some v) : ∃ x, signsB[j / 2]? = some x ∧ ((j % 2 = 0 ∧ v = .string x.1) ∨ (j % 2 = 1 ∧ v = .int .i64 x.2)) := by
 match j, h with
 | 0, h => exact ⟨_, rfl, Or.inl ⟨rfl, (Oi h).symm⟩⟩
 | 1, h => exact ⟨_, rfl, Or.inr ⟨rfl, (Oi h).symm⟩⟩
 | 2, h => exact ⟨_, rfl, Or.inl ⟨rfl, (Oi h).symm⟩⟩
 | 3, h => exact ⟨_, rfl, Or.inr ⟨rfl, (Oi h).symm⟩⟩
 | 4, h => exact ⟨_, rfl, Or.inl ⟨rfl, (Oi h).symm⟩⟩
 | 5, h => exact ⟨_, rfl, Or.inr ⟨rfl, (Oi h).symm⟩⟩
 | 6, h => exact ⟨_, rfl, Or.inl ⟨rfl, (Oi h).symm⟩⟩
 | 7, h => exact ⟨_, rfl, Or.inr ⟨rfl, (Oi h).symm⟩⟩
 | 8, h => exact ⟨_, rfl, Or.inl ⟨rfl, (Oi h).symm⟩⟩
 | 9, h => exact ⟨_, rfl, Or.inr ⟨rfl, (Oi h).symm⟩⟩
 | 10, h => exact ⟨_, rfl, Or.inl ⟨rfl, (Oi h).symm⟩⟩
 | 11, h => exact ⟨_, rfl, Or.inr ⟨rfl, (Oi h).symm⟩⟩
 | 12, h => exact ⟨_, rfl, Or.inl ⟨rfl, (Oi h).symm⟩⟩
 | 13, h => exact ⟨_, rfl, Or.inr ⟨rfl, (Oi h).symm⟩⟩
 | 14, h => exact ⟨_, rfl, Or.inl ⟨rfl, (Oi h).symm⟩⟩
 | 15, h => exact ⟨_, rfl, Or.inr ⟨rfl, (Oi h).symm⟩⟩
 | 16, h => exact ⟨_, rfl, Or.inl ⟨rfl, (Oi h).symm⟩⟩
 | 17, h => exact ⟨_, rfl, Or.inr ⟨rfl, (Oi h).symm⟩⟩
 | 18, h => exact ⟨_, rfl, Or.inl ⟨rfl, (Oi h).symm⟩⟩
 | 19, h => exact ⟨_, rfl, Or.inr ⟨rfl, (Oi h).symm⟩⟩
 | 20, h => exact ⟨_, rfl, Or.inl ⟨rfl, (Oi h).symm⟩⟩
 | 21, h => exact ⟨_, rfl, Or.inr ⟨rfl, (Oi h).symm⟩⟩
 | 22, h => exact ⟨_, rfl, Or.inl ⟨rfl, (Oi h).symm⟩⟩
 | 23, h => exact ⟨_, rfl, Or.inr ⟨rfl, (Oi h).symm⟩⟩
 | 24, h => exact ⟨_, rfl, Or.inl ⟨rfl, (Oi h).symm⟩⟩
 | 25, h => exact ⟨_, rfl, Or.inr ⟨rfl, (Oi h).symm⟩⟩
 | 26, h => exact ⟨_, rfl, Or.inl ⟨rfl, (Oi h).symm⟩⟩
 | 27, h => exact ⟨_, rfl, Or.inr ⟨rfl, (Oi h).symm⟩⟩
 | 28, h => exact ⟨_, rfl, Or.inl ⟨rfl, (Oi h).symm⟩⟩
 | 29, h => exact ⟨_, rfl, Or.inr ⟨rfl, (Oi h).symm⟩⟩
 | 30, h => exact ⟨_, rfl, Or.inl ⟨rfl, (Oi h).symm⟩⟩
 | 31, h => exact ⟨_, rfl, Or.inr ⟨rfl, (Oi h).symm⟩⟩
 | 32, h => exact ⟨_, rfl, Or.inl ⟨rfl, (Oi h).symm⟩⟩
 | 33, h => exact ⟨_, rfl, Or.inr ⟨rfl, (Oi h).symm⟩⟩
 | 34, h => exact ⟨_, rfl, Or.inl ⟨rfl, (Oi h).symm⟩⟩
 | 35, h => exact ⟨_, rfl, Or.inr ⟨rfl, (Oi h).symm⟩⟩
 | 36, h => exact ⟨_, rfl, Or.inl ⟨rfl, (Oi h).symm⟩⟩
 | 37, h => exact ⟨_, rfl, Or.inr ⟨rfl, (Oi h).symm⟩⟩
 | 38, h => exact ⟨_, rfl, Or.inl ⟨rfl, (Oi h).symm⟩⟩
 | 39, h => exact ⟨_, rfl, Or.inr ⟨rfl, (Oi h).symm⟩⟩
 | 40, h => exact ⟨_, rfl, Or.inl ⟨rfl, (Oi h).symm⟩⟩
 | 41, h => exact ⟨_, rfl, Or.inr ⟨rfl, (Oi h).symm⟩⟩
 | j + 42, h => simp [sgL] at h
theorem env_all {W : World} (h0 : laidMetH Tryz.prog Rows.parseTellsRow.laid W) : SG W ∧ EE W := by
 have h' : laidMet Tryz.prog Rows.parseTellsRow.laid W := by
  have h := h0
  rw [MakeChecks.laidMetH_plain _ _ _ (by kernel_rfl)] at h
  exact h
 have h2 := laidMet.tail h'
 have h3 := laidMet.tail h2
 have h4 := laidMet.tail h3
 have h5 := laidMet.tail h4
 have h6 := laidMet.tail h5
 have h7 := laidMet.tail h6
 have gR : Tryz.prog.globalNamed "strconv.ErrRange" = some 24 := by kernel_rfl
 have gS : Tryz.prog.globalNamed "strconv.ErrSyntax" = some 23 := by kernel_rfl
 obtain ⟨a1, s1, v1, _, _, _⟩ := laid_sentinel h5 gR (show (Tryz.prog.globals[24]?).map (·.type) = some 93 by kernel_rfl) Tryz.underlying93 rowErr Tryz.underlying225 Tryz.underlying227 rfl rfl Tryz.underlying9 (by kernel_rfl) (by kernel_rfl)
 obtain ⟨a2, s2, v2, _, _, _⟩ := laid_sentinel h6 gS (show (Tryz.prog.globals[23]?).map (·.type) = some 93 by kernel_rfl) Tryz.underlying93 rowErr Tryz.underlying225 Tryz.underlying227 rfl rfl Tryz.underlying9 (by kernel_rfl) (by kernel_rfl)
 have c1 : W.cell? ⟨24, 0, none⟩ = some (.iface 225 (.pointer (some a1))) := by simpa using World.var?_cell gR v1 0
 have c2 : W.cell? ⟨23, 0, none⟩ = some (.iface 225 (.pointer (some a2))) := by simpa using World.var?_cell gS v2 0
 refine ⟨?_, ⟨_, c2, Or.inr ⟨_, _, rfl⟩⟩, ⟨_, c1, Or.inr ⟨_, _, rfl⟩⟩⟩
 have hg : Tryz.prog.globalNamed "treadwheel/lex.signs" = some 18 := by kernel_rfl
 have hty : (Tryz.prog.globals[18]?).map (·.type) = some 145 := by kernel_rfl
 obtain ⟨ps, ⟨g', t', cs, fuel, p, q, hg', ht', hvar, hd, _, _⟩, _⟩ := h7
 obtain rfl := Oi (hg.symm.trans hg')
 obtain rfl := Oi (hty.symm.trans ht')
 have hc := cells_of_signs (xs := sgD) (n := 21) (e := 120) (i0 := 9) (i1 := 3) (f0 := ⟨"text", 9, 0, false, "", "treadwheel/lex", 0⟩) (f1 := ⟨"kind", 3, 1, false, "", "treadwheel/lex", 16⟩)
  (by kernel_rfl) (by kernel_rfl) rfl rfl (by kernel_rfl) (by kernel_rfl) rfl rfl (by kernel_rfl) (by kernel_rfl) (by kernel_rfl) (by kernel_rfl) hd
 intro j v hv
 obtain ⟨x, hx, hj⟩ := sg_at j v hv
 have hx2 : sgD[j / 2]? = some (x.1.data.toList, x.2) := by simp [sgD, hx]
 obtain ⟨⟨s, hs, c0⟩, c1⟩ := hc _ _ hx2
 obtain rfl : s = x.1 := ByteArray.ext (Array.ext' hs)
 rcases hj with ⟨hm, rfl⟩ | ⟨hm, rfl⟩
 ·have : j / 2 * 2 = j := by omega
  rw [World.var?_cell hg hvar]
  rw [this] at c0
  simpa using c0
 ·have : j / 2 * 2 + 1 = j := by omega
  rw [World.var?_cell hg hvar]
  rw [this] at c1
  simpa using c1
end Go.Proofs.YtbnmmbjajheedaaGreatDoor
namespace Go.Proofs.YtbnmmbjajheedaaGreatDoor
set_option maxHeartbeats 64000000
set_option maxRecDepth 100000
open Go.RowKit Go.Lib Go.ChangeAt Go.Stop Go.Extern.Stop
theorem sh_of {W : World} {nm : String} {d : DataW Unit} {rest : List (String × DataW Unit)} {g : Nat} {s : Sh} (h : laidMet Tryz.prog ((nm, d) :: rest) W) (hg : Tryz.prog.globalNamed nm = some g) (hty : (Tryz.prog.globals[g]?).map (·.type) = some 105) (hd : d = .agg [.lit (.int .i64 s.1), .lit (.string s.2)]) : ShAt W g s := by
 subst hd
 obtain ⟨ps, ⟨g', t', cs, fuel, p, q, hg', ht', hvar, hx, _, _⟩, _⟩ := h
 obtain rfl := Oi (hg.symm.trans hg')
 obtain rfl := Oi (hty.symm.trans ht')
 have hu : Tryz.prog.underlying 105 = some (.struct (Tryz.prog.fieldsOf 105)) := by kernel_rfl
 obtain ⟨zs, m, -, hbz, hcl, hzl, hat⟩ := DataW.trod_struct hu hx
 have hl : Tryz.prog.fieldsOf 105 = #[⟨"kind", 3, 0, false, "", "treadwheel/parse", 0⟩, ⟨"text", 9, 1, false, "", "treadwheel/parse", 8⟩] := by kernel_rfl
 rw [hl] at hat hzl
 have a0 := hat 0 ⟨"kind", 3, 0, false, "", "treadwheel/parse", 0⟩ rfl
 have a1 := hat 1 ⟨"text", 9, 1, false, "", "treadwheel/parse", 8⟩ rfl
 dsimp only at a0 a1
 obtain ⟨z0, z1, rfl⟩ : ∃ z0 z1, zs = [z0, z1] := by
  match zs, hzl with
  | [z0, z1], _ => exact ⟨z0, z1, rfl⟩
 rw [show Tryz.prog.cellsOf 3 = 1 by kernel_rfl] at a0
 rw [show Tryz.prog.cellsOf 9 = 1 by kernel_rfl] at a1
 obtain ⟨u, hu0, e0, -⟩ := DataW.trod_int Tryz.underlying3 a0
 obtain ⟨v, hv0, e1, -⟩ := DataW.trod_string Tryz.underlying9 a1
 subst e0 e1
 simp at hbz
 obtain ⟨⟨b0, b1⟩, -⟩ := hbz
 have c0 := congrArg (·[0]?) hu0
 have c1 := congrArg (·[0]?) hv0
 replace c0 : cs[0]? = some (.int .i64 u) := by simpa [List.getElem?_take] using c0
 replace c1 : cs[1]? = some (.string v) := by simpa [List.getElem?_drop] using c1
 refine ⟨?_, ?_⟩
 ·rw [World.var?_cell hg hvar, c0, b0]
 ·rw [World.var?_cell hg hvar, c1]
  have : v = tx s.2 := ByteArray.ext (Array.ext' b1.symm)
  rw [this]
theorem env8_all {W : World} (h0 : laidMetH Tryz.prog Rows.parsePartsRow.laid W) : SG W ∧ EE W ∧ Shs W := by
 have hSE := env_all (W := W) (show laidMetH Tryz.prog Rows.parseTellsRow.laid W from h0)
 have h' : laidMet Tryz.prog Rows.parsePartsRow.laid W := by
  have h := h0
  rw [MakeChecks.laidMetH_plain _ _ _ (by kernel_rfl)] at h
  exact h
 have h2 := laidMet.tail h'
 have h3 := laidMet.tail h2
 have h4 := laidMet.tail h3
 have h5 := laidMet.tail h4
 have h6 := laidMet.tail h5
 have h7 := laidMet.tail h6
 have h8 := laidMet.tail h7
 have h9 := laidMet.tail h8
 have h10 := laidMet.tail h9
 have h11 := laidMet.tail h10
 have h12 := laidMet.tail h11
 have h13 := laidMet.tail h12
 have h14 := laidMet.tail h13
 have h15 := laidMet.tail h14
 have h16 := laidMet.tail h15
 have h17 := laidMet.tail h16
 have h18 := laidMet.tail h17
 have h19 := laidMet.tail h18
 have h20 := laidMet.tail h19
 have h21 := laidMet.tail h20
 have h22 := laidMet.tail h21
 have h23 := laidMet.tail h22
 have h24 := laidMet.tail h23
 have h25 := laidMet.tail h24
 have s_name : ShAt W 3 sName := sh_of h8 (show Tryz.prog.globalNamed "treadwheel/parse.name" = some 3 by kernel_rfl) (by kernel_rfl) rfl
 have s_con : ShAt W 4 sCon := sh_of h9 (show Tryz.prog.globalNamed "treadwheel/parse.con" = some 4 by kernel_rfl) (by kernel_rfl) rfl
 have s_num : ShAt W 5 sNum := sh_of h10 (show Tryz.prog.globalNamed "treadwheel/parse.number" = some 5 by kernel_rfl) (by kernel_rfl) rfl
 have s_sign : ShAt W 15 sSign := sh_of h11 (show Tryz.prog.globalNamed "treadwheel/parse.sign" = some 15 by kernel_rfl) (by kernel_rfl) rfl
 have s_back : ShAt W 6 sBack := sh_of h12 (show Tryz.prog.globalNamed "treadwheel/parse.builtIn" = some 6 by kernel_rfl) (by kernel_rfl) rfl
 have s_data : ShAt W 8 sData := sh_of h13 (show Tryz.prog.globalNamed "treadwheel/parse.dataWord" = some 8 by kernel_rfl) (by kernel_rfl) rfl
 have s_letw : ShAt W 0 sLet := sh_of h14 (show Tryz.prog.globalNamed "treadwheel/parse.letWord" = some 0 by kernel_rfl) (by kernel_rfl) rfl
 have s_inw : ShAt W 10 sIn := sh_of h15 (show Tryz.prog.globalNamed "treadwheel/parse.inWord" = some 10 by kernel_rfl) (by kernel_rfl) rfl
 have s_casew : ShAt W 1 sCase := sh_of h16 (show Tryz.prog.globalNamed "treadwheel/parse.caseWord" = some 1 by kernel_rfl) (by kernel_rfl) rfl
 have s_ofw : ShAt W 11 sOf := sh_of h17 (show Tryz.prog.globalNamed "treadwheel/parse.ofWord" = some 11 by kernel_rfl) (by kernel_rfl) rfl
 have s_opn : ShAt W 7 sOpen := sh_of h18 (show Tryz.prog.globalNamed "treadwheel/parse.roundOpen" = some 7 by kernel_rfl) (by kernel_rfl) rfl
 have s_shut : ShAt W 16 sShut := sh_of h19 (show Tryz.prog.globalNamed "treadwheel/parse.roundClose" = some 16 by kernel_rfl) (by kernel_rfl) rfl
 have s_curl : ShAt W 12 sCurl := sh_of h20 (show Tryz.prog.globalNamed "treadwheel/parse.curlyOpen" = some 12 by kernel_rfl) (by kernel_rfl) rfl
 have s_lruc : ShAt W 13 sLruc := sh_of h21 (show Tryz.prog.globalNamed "treadwheel/parse.curlyClose" = some 13 by kernel_rfl) (by kernel_rfl) rfl
 have s_semi : ShAt W 9 sSemi := sh_of h22 (show Tryz.prog.globalNamed "treadwheel/parse.semicolon" = some 9 by kernel_rfl) (by kernel_rfl) rfl
 have s_eq : ShAt W 17 sEq := sh_of h23 (show Tryz.prog.globalNamed "treadwheel/parse.equals" = some 17 by kernel_rfl) (by kernel_rfl) rfl
 have s_arrow : ShAt W 14 sArrow := sh_of h24 (show Tryz.prog.globalNamed "treadwheel/parse.arrow" = some 14 by kernel_rfl) (by kernel_rfl) rfl
 have s_lam : ShAt W 2 sLam := sh_of h25 (show Tryz.prog.globalNamed "treadwheel/parse.backslash" = some 2 by kernel_rfl) (by kernel_rfl) rfl
 exact ⟨hSE.1, hSE.2, ⟨s_letw, s_casew, s_lam, s_name, s_con, s_num, s_back, s_opn, s_data, s_semi, s_inw, s_ofw, s_curl, s_lruc, s_arrow, s_sign, s_shut, s_eq⟩⟩
end Go.Proofs.YtbnmmbjajheedaaGreatDoor
