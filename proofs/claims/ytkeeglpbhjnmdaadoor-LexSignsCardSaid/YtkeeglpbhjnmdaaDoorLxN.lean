/- What the rows' list of the program's tables and errors gives: the signs, and the two errors. -/
import Derived.Test.YtkeeglpbhjnmdaaDoorLxM
import Derived.Test.YtkeeglpbhjnmdaaDoorRows
import Derived.Lib.LaidTab
import Derived.LaidLaws
import Derived.DataReads
import Derived.Stop.LaidErr
import Derived.LaidMore
namespace Go.Proofs.YtkeeglpbhjnmdaaDoor
open Go.RowKit Go.ChangeAt Go.Stop Go.Extern.Stop

def signData {H : Type} (x : List UInt8) (y : Int) : DataW H := .agg [.lit (.string x), .lit (.int .i64 y)]

/-- An array of a text and an int that reads as these holds them, cell for cell. -/
theorem cells_of_signs {H : Type} {enc : TypeId × Value → H} {P : Program} {w : World} {base : Nat} {sp : Nat → Bool} {held : Bool} {fuel : Nat} {t e i0 i1 : TypeId} {n : Nat} {f0 f1 : Field} {cs : List Value} {xs : List (List UInt8 × Int)} {p : List MemPlace}
    (ht : P.underlying t = some (.array n e)) (he : P.underlying e = some (.struct #[f0, f1])) (h0 : f0.type = i0) (h1 : f1.type = i1) (hi0 : P.underlying i0 = some .string) (hi1 : P.underlying i1 = some (.int .i64))
    (o0 : f0.offset = 0) (o1 : f1.offset = 1) (hci0 : P.cellsOf i0 = 1) (hci1 : P.cellsOf i1 = 1) (hce : P.cellsOf e = 2) (hct : P.cellsOf t = n * 2)
    (h : DataW.trod enc P w base sp held fuel t cs = some (.agg (xs.map fun x => signData x.1 x.2), p)) :
    ∀ j x, xs[j]? = some x → (∃ s : ByteArray, s.data.toList = x.1 ∧ cs[j * 2]? = some (.string s)) ∧ cs[j * 2 + 1]? = some (.int .i64 x.2) := by
  cases fuel with
  | zero => simp [DataW.trod] at h
  | succ fuel =>
    simp only [DataW.trod, ht, hce, hct] at h
    split at h
    · rename_i hl
      obtain ⟨ys, hm, hx⟩ := Option.map_eq_some_iff.1 h
      have hxs : ys.map (·.1) = xs.map fun x => (signData x.1 x.2 : DataW H) := by
        have := congrArg Prod.fst hx
        simpa using this
      have hyl : ys.length = n := by simpa using Lib.mapM_length hm
      intro j x hj
      have hlen : xs.length = n := by
        have := congrArg List.length hxs
        simp at this
        omega
      have hjn : j < n := by have := (List.getElem?_eq_some_iff.1 hj).1; omega
      obtain ⟨b, hb, hf⟩ := Lib.mapM_at hm j j (by simp [hjn])
      have hbd : b.1 = signData x.1 x.2 := by
        have h2 : (ys.map (·.1))[j]? = some b.1 := by simp [hb]
        rw [hxs] at h2
        simpa [hj] using h2.symm
      obtain ⟨zs, m, -, hbz, hcl, hzl, hat⟩ := DataW.trod_struct he hf
      subst hbz
      simp only [signData, DataW.agg.injEq] at hbd
      have a0 := hat 0 f0 rfl
      have a1 := hat 1 f1 rfl
      rw [h0, hci0, o0] at a0
      rw [h1, hci1, o1] at a1
      obtain ⟨z0, z1, rfl⟩ : ∃ z0 z1, zs = [z0, z1] := by
        match zs, hzl with
        | [z0, z1], _ => exact ⟨z0, z1, rfl⟩
      obtain ⟨u, hu, rfl, -⟩ := DataW.trod_string hi0 a0
      obtain ⟨v, hv, rfl, -⟩ := DataW.trod_int hi1 a1
      simp only [List.map_cons, List.map_nil, List.cons.injEq, DataW.lit.injEq, Lit.int.injEq, Lit.string.injEq, true_and, and_true] at hbd
      obtain ⟨e0, rfl⟩ := hbd
      refine ⟨⟨u, e0, ?_⟩, ?_⟩
      · have := congrArg (·[0]?) hu
        simpa [List.getElem?_take, List.getElem?_drop] using this
      · have := congrArg (·[0]?) hv
        simpa [List.getElem?_take, List.getElem?_drop] using this
    · cases h

/-- The signs as the row lists them. -/
def sgD : List (List UInt8 × Int) := signsB.map fun x => (x.1.data.toList, x.2)

theorem own : ownKnob Tryd.prog.godebug = none := by kernel_rfl
theorem star : "*" ++ "errors.errorString" = "*errors.errorString" := by decide
theorem rowErr (u : TypeId) (h : Tryd.prog.typeName? 3 u = some "*errors.errorString") : u = 114 :=
  typeName_ptr_named (nm := "errors.errorString") (by rw [star]; kernel_rfl) (by kernel_rfl) (by decide) u (by rw [star]; exact h)

theorem sg_at (j : Nat) (v : Value) (h : sgL[j]? = some v) : ∃ x, signsB[j / 2]? = some x ∧ ((j % 2 = 0 ∧ v = .string x.1) ∨ (j % 2 = 1 ∧ v = .int .i64 x.2)) := by
  match j, h with
  | 0, h => exact ⟨_, rfl, Or.inl ⟨rfl, (Option.some.inj h).symm⟩⟩
  | 1, h => exact ⟨_, rfl, Or.inr ⟨rfl, (Option.some.inj h).symm⟩⟩
  | 2, h => exact ⟨_, rfl, Or.inl ⟨rfl, (Option.some.inj h).symm⟩⟩
  | 3, h => exact ⟨_, rfl, Or.inr ⟨rfl, (Option.some.inj h).symm⟩⟩
  | 4, h => exact ⟨_, rfl, Or.inl ⟨rfl, (Option.some.inj h).symm⟩⟩
  | 5, h => exact ⟨_, rfl, Or.inr ⟨rfl, (Option.some.inj h).symm⟩⟩
  | 6, h => exact ⟨_, rfl, Or.inl ⟨rfl, (Option.some.inj h).symm⟩⟩
  | 7, h => exact ⟨_, rfl, Or.inr ⟨rfl, (Option.some.inj h).symm⟩⟩
  | 8, h => exact ⟨_, rfl, Or.inl ⟨rfl, (Option.some.inj h).symm⟩⟩
  | 9, h => exact ⟨_, rfl, Or.inr ⟨rfl, (Option.some.inj h).symm⟩⟩
  | 10, h => exact ⟨_, rfl, Or.inl ⟨rfl, (Option.some.inj h).symm⟩⟩
  | 11, h => exact ⟨_, rfl, Or.inr ⟨rfl, (Option.some.inj h).symm⟩⟩
  | 12, h => exact ⟨_, rfl, Or.inl ⟨rfl, (Option.some.inj h).symm⟩⟩
  | 13, h => exact ⟨_, rfl, Or.inr ⟨rfl, (Option.some.inj h).symm⟩⟩
  | 14, h => exact ⟨_, rfl, Or.inl ⟨rfl, (Option.some.inj h).symm⟩⟩
  | 15, h => exact ⟨_, rfl, Or.inr ⟨rfl, (Option.some.inj h).symm⟩⟩
  | 16, h => exact ⟨_, rfl, Or.inl ⟨rfl, (Option.some.inj h).symm⟩⟩
  | 17, h => exact ⟨_, rfl, Or.inr ⟨rfl, (Option.some.inj h).symm⟩⟩
  | 18, h => exact ⟨_, rfl, Or.inl ⟨rfl, (Option.some.inj h).symm⟩⟩
  | 19, h => exact ⟨_, rfl, Or.inr ⟨rfl, (Option.some.inj h).symm⟩⟩
  | 20, h => exact ⟨_, rfl, Or.inl ⟨rfl, (Option.some.inj h).symm⟩⟩
  | 21, h => exact ⟨_, rfl, Or.inr ⟨rfl, (Option.some.inj h).symm⟩⟩
  | 22, h => exact ⟨_, rfl, Or.inl ⟨rfl, (Option.some.inj h).symm⟩⟩
  | 23, h => exact ⟨_, rfl, Or.inr ⟨rfl, (Option.some.inj h).symm⟩⟩
  | 24, h => exact ⟨_, rfl, Or.inl ⟨rfl, (Option.some.inj h).symm⟩⟩
  | 25, h => exact ⟨_, rfl, Or.inr ⟨rfl, (Option.some.inj h).symm⟩⟩
  | 26, h => exact ⟨_, rfl, Or.inl ⟨rfl, (Option.some.inj h).symm⟩⟩
  | 27, h => exact ⟨_, rfl, Or.inr ⟨rfl, (Option.some.inj h).symm⟩⟩
  | 28, h => exact ⟨_, rfl, Or.inl ⟨rfl, (Option.some.inj h).symm⟩⟩
  | 29, h => exact ⟨_, rfl, Or.inr ⟨rfl, (Option.some.inj h).symm⟩⟩
  | 30, h => exact ⟨_, rfl, Or.inl ⟨rfl, (Option.some.inj h).symm⟩⟩
  | 31, h => exact ⟨_, rfl, Or.inr ⟨rfl, (Option.some.inj h).symm⟩⟩
  | 32, h => exact ⟨_, rfl, Or.inl ⟨rfl, (Option.some.inj h).symm⟩⟩
  | 33, h => exact ⟨_, rfl, Or.inr ⟨rfl, (Option.some.inj h).symm⟩⟩
  | 34, h => exact ⟨_, rfl, Or.inl ⟨rfl, (Option.some.inj h).symm⟩⟩
  | 35, h => exact ⟨_, rfl, Or.inr ⟨rfl, (Option.some.inj h).symm⟩⟩
  | 36, h => exact ⟨_, rfl, Or.inl ⟨rfl, (Option.some.inj h).symm⟩⟩
  | 37, h => exact ⟨_, rfl, Or.inr ⟨rfl, (Option.some.inj h).symm⟩⟩
  | 38, h => exact ⟨_, rfl, Or.inl ⟨rfl, (Option.some.inj h).symm⟩⟩
  | 39, h => exact ⟨_, rfl, Or.inr ⟨rfl, (Option.some.inj h).symm⟩⟩
  | 40, h => exact ⟨_, rfl, Or.inl ⟨rfl, (Option.some.inj h).symm⟩⟩
  | 41, h => exact ⟨_, rfl, Or.inr ⟨rfl, (Option.some.inj h).symm⟩⟩
  | j + 42, h => simp [sgL] at h

set_option maxRecDepth 100000 in
theorem env_all {W : World} (h0 : laidMetH Tryd.prog Rows.lexBackRow.laid W) : SG W ∧ EE W := by
  have h' : laidMet Tryd.prog Rows.lexBackRow.laid W := by
    have h := h0
    rw [MakeChecks.laidMetH_plain _ _ _ (by kernel_rfl)] at h
    exact h
  have h2 := laidMet.tail h'
  have h3 := laidMet.tail h2
  have h4 := laidMet.tail h3
  have h5 := laidMet.tail h4
  have h6 := laidMet.tail h5
  have h7 := laidMet.tail h6
  have gR : Tryd.prog.globalNamed "strconv.ErrRange" = some 5 := by kernel_rfl
  have gS : Tryd.prog.globalNamed "strconv.ErrSyntax" = some 4 := by kernel_rfl
  obtain ⟨a1, s1, v1, _, _, _⟩ := laid_sentinel h5 gR (show (Tryd.prog.globals[5]?).map (·.type) = some 86 by kernel_rfl) Tryd.underlying86 rowErr Tryd.underlying114 Tryd.underlying116 rfl rfl Tryd.underlying9 (by kernel_rfl) (by kernel_rfl)
  obtain ⟨a2, s2, v2, _, _, _⟩ := laid_sentinel h6 gS (show (Tryd.prog.globals[4]?).map (·.type) = some 86 by kernel_rfl) Tryd.underlying86 rowErr Tryd.underlying114 Tryd.underlying116 rfl rfl Tryd.underlying9 (by kernel_rfl) (by kernel_rfl)
  have c1 : W.cell? ⟨5, 0, none⟩ = some (.iface 114 (.pointer (some a1))) := by simpa using World.var?_cell gR v1 0
  have c2 : W.cell? ⟨4, 0, none⟩ = some (.iface 114 (.pointer (some a2))) := by simpa using World.var?_cell gS v2 0
  refine ⟨?_, ⟨_, c2, Or.inr ⟨_, _, rfl⟩⟩, ⟨_, c1, Or.inr ⟨_, _, rfl⟩⟩⟩
  have hg : Tryd.prog.globalNamed "treadwheel/lex.signs" = some 0 := by kernel_rfl
  have hty : (Tryd.prog.globals[0]?).map (·.type) = some 67 := by kernel_rfl
  obtain ⟨ps, ⟨g', t', cs, fuel, p, q, hg', ht', hvar, hd, _, _⟩, _⟩ := h7
  obtain rfl := Option.some.inj (hg.symm.trans hg')
  obtain rfl := Option.some.inj (hty.symm.trans ht')
  have hc := cells_of_signs (xs := sgD) (n := 21) (e := 56) (i0 := 9) (i1 := 3) (f0 := ⟨"text", 9, 0, false, "", "treadwheel/lex", 0⟩) (f1 := ⟨"kind", 3, 1, false, "", "treadwheel/lex", 16⟩)
    (by kernel_rfl) (by kernel_rfl) rfl rfl (by kernel_rfl) (by kernel_rfl) rfl rfl (by kernel_rfl) (by kernel_rfl) (by kernel_rfl) (by kernel_rfl) hd
  intro j v hv
  obtain ⟨x, hx, hj⟩ := sg_at j v hv
  have hx2 : sgD[j / 2]? = some (x.1.data.toList, x.2) := by simp [sgD, hx]
  obtain ⟨⟨s, hs, c0⟩, c1⟩ := hc _ _ hx2
  obtain rfl : s = x.1 := ByteArray.ext (Array.ext' hs)
  rcases hj with ⟨hm, rfl⟩ | ⟨hm, rfl⟩
  · have : j / 2 * 2 = j := by omega
    rw [World.var?_cell hg hvar]
    rw [this] at c0
    simpa using c0
  · have : j / 2 * 2 + 1 = j := by omega
    rw [World.var?_cell hg hvar]
    rw [this] at c1
    simpa using c1
end Go.Proofs.YtkeeglpbhjnmdaaDoor
