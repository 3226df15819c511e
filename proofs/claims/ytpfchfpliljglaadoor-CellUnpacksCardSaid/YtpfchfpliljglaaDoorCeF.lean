/- Which words of an object are links: the program's answer and the document's, whatever is asked. -/
import Derived.Test.YtpfchfpliljglaaDoorCeD
import Derived.Test.YtpfchfpliljglaaDoorRows
import Derived.Lib.LaidTab
import Derived.LaidLaws
import Derived.DataReads
namespace Go.Proofs.YtpfchfpliljglaaDoor
open Go.RowKit Go.Sort

/-- From which of its words on an object of a kind has links, were it as long as can be, and up to which one. -/
def lfrom : List Int := [0, 0, 0, 0, 0, 0, 0, 0, 0, 1, 2]
def lto : List Int := [0, 31, 31, 31, 31, 1, 0, 0, 0, 4, 4]

/-- A pair of ints, as a row lists it. -/
def pairData {H : Type} (x y : Int) : DataW H := .agg [.lit (.int .i64 x), .lit (.int .i64 y)]

/-- AN ARRAY OF PAIRS OF INTS THAT READS AS THESE HOLDS THEM, CELL FOR CELL. -/
theorem cells_of_pairs {H : Type} {enc : TypeId × Value → H} {P : Program} {w : World} {base : Nat} {sp : Nat → Bool} {held : Bool} {fuel : Nat} {t e i : TypeId} {n : Nat} {f0 f1 : Field} {cs : List Value} {xs : List (Int × Int)} {p : List MemPlace}
    (ht : P.underlying t = some (.array n e)) (he : P.underlying e = some (.struct #[f0, f1])) (h0 : f0.type = i) (h1 : f1.type = i) (hi : P.underlying i = some (.int .i64))
    (o0 : f0.offset = 0) (o1 : f1.offset = 1) (hci : P.cellsOf i = 1) (hce : P.cellsOf e = 2) (hct : P.cellsOf t = n * 2)
    (h : DataW.trod enc P w base sp held fuel t cs = some (.agg (xs.map fun x => pairData x.1 x.2), p)) :
    ∀ j x, xs[j]? = some x → cs[j * 2]? = some (.int .i64 x.1) ∧ cs[j * 2 + 1]? = some (.int .i64 x.2) := by
  cases fuel with
  | zero => simp [DataW.trod] at h
  | succ fuel =>
    simp only [DataW.trod, ht, hce, hct] at h
    split at h
    · rename_i hl
      obtain ⟨ys, hm, hx⟩ := Option.map_eq_some_iff.1 h
      have hxs : ys.map (·.1) = xs.map fun x => (pairData x.1 x.2 : DataW H) := by
        have := congrArg Prod.fst hx
        simpa using this
      have hyl : ys.length = n := by simpa using Lib.mapM_length hm
      intro j x hj
      have hlen : xs.length = n := by
        have := congrArg List.length hxs
        simp at this
        omega
      have hjn : j < n := by have := (List.getElem?_eq_some_iff.1 hj).1; omega
      obtain ⟨b, hb, hf⟩ := Lib.mapM_at hm j j (by simp [hjn])
      have hbd : b.1 = pairData x.1 x.2 := by
        have h2 : (ys.map (·.1))[j]? = some b.1 := by simp [hb]
        rw [hxs] at h2
        simpa [hj] using h2.symm
      obtain ⟨zs, m, -, hbz, hcl, hzl, hat⟩ := DataW.trod_struct he hf
      subst hbz
      simp only [pairData, DataW.agg.injEq] at hbd
      have a0 := hat 0 f0 rfl
      have a1 := hat 1 f1 rfl
      rw [h0, hci, o0] at a0
      rw [h1, hci, o1] at a1
      obtain ⟨z0, z1, rfl⟩ : ∃ z0 z1, zs = [z0, z1] := by
        match zs, hzl with
        | [z0, z1], _ => exact ⟨z0, z1, rfl⟩
      obtain ⟨u, hu, rfl, -⟩ := DataW.trod_int hi a0
      obtain ⟨v, hv, rfl, -⟩ := DataW.trod_int hi a1
      simp only [List.map_cons, List.map_nil, List.cons.injEq, DataW.lit.injEq, Lit.int.injEq, true_and, and_true] at hbd
      obtain ⟨rfl, rfl⟩ := hbd
      refine ⟨?_, ?_⟩
      · have := congrArg (·[0]?) hu
        simpa [List.getElem?_take, List.getElem?_drop] using this
      · have := congrArg (·[0]?) hv
        simpa [List.getElem?_take, List.getElem?_drop] using this
    · cases h

/-- The table of the program lies as its text lays it. -/
def Env (w : World) : Prop := ∀ k, k < 11 → w.cell? ⟨0, k * 2, none⟩ = some (.int .i64 (lfrom.getD k 0)) ∧ w.cell? ⟨0, k * 2 + 1, none⟩ = some (.int .i64 (lto.getD k 0))

theorem Env.below {w w' : World} (h : Env w) (hb : Below w.heap.size w w') : Env w' := fun k hk =>
  ⟨(hb.cell (World.block_lt_of_cell? _ _ (h k hk).1)).trans (h k hk).1, (hb.cell (World.block_lt_of_cell? _ _ (h k hk).2)).trans (h k hk).2⟩

set_option maxRecDepth 100000 in
/-- WHAT THE ROWS' LIST GIVES. -/
theorem env_of {W : World} (h : laidMetH Tryd.prog Rows.cellPacksRow.laid W) : Env W := by
  have h' : laidMet Tryd.prog Rows.cellPacksRow.laid W := h
  have hg : Tryd.prog.globalNamed "treadwheel/cell.linksOf" = some 0 := by kernel_rfl
  have hty : (Tryd.prog.globals[0]?).map (·.type) = some 47 := by kernel_rfl
  obtain ⟨ps, ⟨g', t', cs, fuel, p, q, hg', ht', hvar, hd, _, _⟩, _⟩ := h'
  obtain rfl := Option.some.inj (hg.symm.trans hg')
  obtain rfl := Option.some.inj (hty.symm.trans ht')
  have hc := cells_of_pairs (xs := lfrom.zip lto) (n := 11) (e := 46) (i := 3) (f0 := ⟨"from", 3, 0, false, "", "treadwheel/cell", 0⟩) (f1 := ⟨"to", 3, 1, false, "", "treadwheel/cell", 8⟩)
    (by kernel_rfl) (by kernel_rfl) rfl rfl (by kernel_rfl) rfl rfl (by kernel_rfl) (by kernel_rfl) (by kernel_rfl) hd
  intro k hk
  have hx : (lfrom.zip lto)[k]? = some (lfrom.getD k 0, lto.getD k 0) := by
    match k, hk with
    | 0, _ => rfl
    | 1, _ => rfl
    | 2, _ => rfl
    | 3, _ => rfl
    | 4, _ => rfl
    | 5, _ => rfl
    | 6, _ => rfl
    | 7, _ => rfl
    | 8, _ => rfl
    | 9, _ => rfl
    | 10, _ => rfl
  obtain ⟨c0, c1⟩ := hc k _ hx
  refine ⟨?_, ?_⟩
  · rw [World.var?_cell hg hvar]; simpa using c0
  · rw [World.var?_cell hg hvar]; simpa using c1

/-- The links of an object. -/
def lt0 (k s : Int) : Int := min (lto.getD k.toNat 0) s
def has (k s a m : Int) : Bool := decide (pe k s a m = 0) && decide (lfrom.getD k.toNat 0 < lt0 k s)
def lf (k s a m : Int) : Int := if has k s a m then lfrom.getD k.toNat 0 else 0
def lt (k s a m : Int) : Int := if has k s a m then lt0 k s else 0

theorem links_bad (k s a m : Int) (w : World) (h : ¬ pe k s a m = 0) :
    Calls Tryd.prog 13 #[.agg #[.int .i64 k, .int .i64 s, .int .i64 a, .int .i64 m]] w fun e w' => e = .returned (.tuple #[.int .i64 0, .int .i64 0]) ∧ Below w.heap.size w w' := by
  have hB := (Below.refl w.heap.size w).alloc (Nat.le_refl _) (.cells #[.int .i64 k, .int .i64 s, .int .i64 a, .int .i64 m] 23)
  go_enter Tryd.func13, Tryd.ntmps13
  go_wp2_with fail
  refine (pack_any k s a m _).mono ?_
  rintro e x1 ⟨rfl, hb⟩
  replace hB := onB hB hb
  clear hb
  go_wp2
  go_ret2
  exact ⟨rfl, hB⟩

set_option maxHeartbeats 1000000 in
theorem links_fit (k : Nat) (s a m F T M r0 r1 : Int) (w : World) (h : pe k s a m = 0) (hE : Env w) (hk : k < 11) (hF : lfrom.getD k 0 = F) (hT : lto.getD k 0 = T)
    (hM : (s < T ∧ M = s) ∨ (T ≤ s ∧ M = T)) (hr : (F < M ∧ r0 = F ∧ r1 = M) ∨ (M ≤ F ∧ r0 = 0 ∧ r1 = 0)) :
    Calls Tryd.prog 13 #[.agg #[.int .i64 k, .int .i64 s, .int .i64 a, .int .i64 m]] w fun e w' => e = .returned (.tuple #[.int .i64 r0, .int .i64 r1]) ∧ Below w.heap.size w w' := by
  have HP : Hid (∀ W : World, Calls Tryd.prog 9 #[.agg #[.int .i64 (k : Int), .int .i64 s, .int .i64 a, .int .i64 m]] W fun e w' => e = .returned (.tuple #[.int .i64 (pw k s a m), .int .i64 0]) ∧ Below W.heap.size W w') := Lib.hid fun W => by
    have hp := pack_any k s a m W
    rw [h] at hp
    exact hp
  have hB := (Below.refl w.heap.size w).alloc (Nat.le_refl _) (.cells #[.int .i64 (k : Int), .int .i64 s, .int .i64 a, .int .i64 m] 23)
  have hX := box_new w (.int .i64 (k : Int)) (.int .i64 s) (.int .i64 a) (.int .i64 m) 23
  replace hE := hE.below ((Below.refl w.heap.size w).alloc (Nat.le_refl _) (.cells #[.int .i64 (k : Int), .int .i64 s, .int .i64 a, .int .i64 m] 23))
  clear h
  rcases hM with ⟨gM, rfl⟩ | ⟨gM, rfl⟩ <;> rcases hr with ⟨gr, rfl, rfl⟩ | ⟨gr, rfl, rfl⟩
  all_goals
    go_enter Tryd.func13, Tryd.ntmps13
    go_wp2_with fail
    refine (HP.out _).mono ?_
    rintro e x1 ⟨rfl, hb⟩
    replace hB := onB hB hb
    replace hX := hX.later hb
    replace hE := hE.below hb
    clear hb HP
    obtain ⟨e0, e1⟩ := hE k hk
    rw [hF] at e0
    rw [hT] at e1
    clear hE hF hT
    obtain ⟨c0, c1, c2, c3, f0, f1, f2, f3, hl⟩ := hX
    go_wp2_with fail
  all_goals
    try (go_quiet (fail))
    try go_wp2
    go_ret2
    exact ⟨rfl, by first | exact hB.alloc hl.le _ | exact below_drewN (hB.alloc (by omega) _) _ | exact (hB.alloc (by omega) _)⟩

theorem links_any (k s a m : Int) (w : World) (hE : Env w) :
    Calls Tryd.prog 13 #[.agg #[.int .i64 k, .int .i64 s, .int .i64 a, .int .i64 m]] w fun e w' => e = .returned (.tuple #[.int .i64 (lf k s a m), .int .i64 (lt k s a m)]) ∧ Below w.heap.size w w' := by
  by_cases h : pe k s a m = 0
  · have hf := (pe_fit _ _ _ _).1 h
    obtain ⟨n, rfl⟩ : ∃ n : Nat, k = n := ⟨k.toNat, by have := hf.1.1; omega⟩
    have hn : n < 11 := by have := hf.1.2; omega
    refine links_fit n s a m (lfrom.getD n 0) (lto.getD n 0) (lt0 n s) _ _ w h hE hn rfl rfl ?_ ?_
    · unfold lt0
      rw [Int.toNat_natCast]
      omega
    · unfold lf lt has
      rw [h, Int.toNat_natCast]
      by_cases hc : lfrom.getD n 0 < lt0 n s
      · refine .inl ⟨hc, ?_, ?_⟩ <;> simp only [hc, decide_true, Bool.and_self, if_true]
      · refine .inr ⟨by omega, ?_, ?_⟩ <;> simp only [hc, decide_false, Bool.and_false, Bool.false_eq_true, if_false]
  · have h1 : lf k s a m = 0 := by unfold lf has; simp [h]
    have h2 : lt k s a m = 0 := by unfold lt has; simp [h]
    rw [h1, h2]
    exact links_bad k s a m w h
end Go.Proofs.YtpfchfpliljglaaDoor
