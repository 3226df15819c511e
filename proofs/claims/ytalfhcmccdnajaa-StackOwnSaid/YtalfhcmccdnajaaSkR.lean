/- StackOwn, walked. -/
import Derived.Test.YtalfhcmccdnajaaSkQ
import Derived.Test.YtalfhcmccdnajaaSkO
namespace Go.Proofs.Ytalfhcmccdnajaa
open Go.RowKit Go.Sort

/-- The stack, all of it below B. -/
def Deep (w : World) (p : Nat) (room : Int) (v : Value) (L : List Fr) (left B : Nat) (W : World) : Prop :=
  Mid w p room v L left W ∧ w.heap.size ≤ B ∧ p < B ∧ (∀ g, v.ownBlock = some g → g < B) ∧ ∀ f, f ∈ L → WAt (fun g => g < B) W f
section
variable {w W W' : World} {p left B : Nat} {room : Int} {v : Value} {L : List Fr}
theorem Deep.start (h : Mid w p room v L left W) : Deep w p room v L left W.heap.size W :=
  ⟨h, h.below.size, h.st.lp, h.st.fs.lt, fun f hf => (h.st.ws f hf).move (fun _ hg _ => ⟨hg, rfl⟩) (Nat.le_refl _)⟩
theorem Deep.later (h : Deep w p room v L left B W) (hb : Below W.heap.size W W') : Deep w p room v L left B W' :=
  ⟨h.1.later hb, h.2.1, h.2.2.1, h.2.2.2.1, fun f hf => (h.2.2.2.2 f hf).move (fun g hg hk => ⟨hk, hb.block g hg⟩) hb.size⟩
theorem Deep.poke (h : Deep w p room v L left B W) {b : Nat} (hb : B ≤ b) (i : Nat) (u : Value) : Deep w p room v L left B (W.setCell ⟨b, i, none⟩ u) := by
  obtain ⟨h1, h2, h3, h4, h5⟩ := h
  have hg : W.grownBy (W.setCell ⟨b, i, none⟩ u) (some b) := ⟨rfl, rfl, rfl, by simp [World.setCell], fun k _ hk => Below.heap_setCell _ _ _ _ (fun e => hk (congrArg some e))⟩
  have hw : ∀ f, f ∈ L → WAt (fun g => some g ≠ some b) W f := fun f hf => (h5 f hf).move (fun g _ hk => ⟨fun e => by have := Option.some.inj e; omega, rfl⟩) (Nat.le_refl _)
  refine ⟨h1.grown hg (fun g e => ?_) hw, h2, h3, h4, fun f hf => ((h5 f hf).both (hw f hf)).move (fun g hl hk => ⟨hk.1, hg.block g hl hk.2⟩) hg.size⟩
  have e' := Option.some.inj e
  exact ⟨by omega, by omega, fun e2 => by have := h4 g e2.symm; omega⟩
theorem Deep.did {L' : List Fr} {left' : Nat} (h : Deep w p room v L left B W) (hd : Kept p room v W L' left' W') (hsub : ∀ f, f ∈ L' → f ∈ L) : ∃ v', Deep w p room v' L' left' B W' ∧ Went p v v' W W' := by
  obtain ⟨h1, h2, h3, h4, h5⟩ := h
  obtain ⟨v', k1, k2, k3, k4⟩ := hd
  have hwent : Went p v v' W W' := ⟨k2, fun g hg => Or.inl (k3 g hg)⟩
  refine ⟨v', ⟨⟨k1, h1.below.trans (k2.below h1.lp h1.lo h1.below.size), h1.lp, fun g hg => h1.lo g (k3 g hg)⟩, h2, h3, fun g hg => h4 g (k3 g hg), fun f hf => ((h1.st.ws f (hsub f hf)).both (h5 f (hsub f hf))).move (fun g hl hk => ⟨hk.2, k2.block g hl hk.1.1 hk.1.2⟩) k2.size⟩, hwent⟩
end

set_option maxHeartbeats 2000000 in
theorem own_out (ws : List Int) (a : Option Addr) (c : Nat) (turn : Int) (w : World) (h : ws.length = 0 ∨ 60 < ws.length) (hm : ws.length ≤ 9223372036854775807) :
    Calls Try.prog 5 #[.slice a ws.length c, .int .i64 turn] w fun e w' => e = .returned (.bool true) ∧ Below w.heap.size w w' := by
  generalize ws.length = n at *
  rcases h with rfl | h
  · go_enter Try.func5, Try.ntmps5
    go_wp2_with fail
    refine (awake_any _).mono ?_
    rintro e w1 ⟨rfl, hB⟩
    have HB := Lib.hid hB
    clear hB
    go_wp2_with fail
    go_ret
    exact ⟨rfl, HB.out⟩
  · have h1 : ¬ (n : Int) = 0 := by omega
    have h2 : (n : Int) > 60 := by omega
    go_enter Try.func5, Try.ntmps5
    go_wp2_with fail
    refine (awake_any _).mono ?_
    rintro e w1 ⟨rfl, hB⟩
    have HB := Lib.hid hB
    clear hB
    go_wp2_with fail
    go_ret
    exact ⟨rfl, HB.out⟩

set_option maxHeartbeats 16000000 in
theorem own_in (ws : List Int) (a : Option Addr) (c : Nat) (turn : Int) (w : World) (hw : WAt (fun _ => True) w ⟨0, 0, ws, a, c⟩) (h0 : 0 < ws.length) (h60 : ws.length ≤ 60) :
    Calls Try.prog 5 #[.slice a ws.length c, .int .i64 turn] w fun e w' => e = .returned (.bool true) ∧ Below w.heap.size w w' := by
  obtain ⟨g, o, rfl, hc, hg, -, hcell⟩ := hw.2 h0
  have HW := Lib.hid (And.intro hw (And.intro h0 (And.intro h60 (And.intro hc (And.intro hg hcell)))))
  obtain ⟨n, hn⟩ : ∃ n, n = ws.length := ⟨_, rfl⟩
  have HN := Lib.hid hn
  have h1 : ((n : Int) == 0) = false := by simp; omega
  have h2 : ¬ (n : Int) > 60 := by omega
  rw [← hn]
  clear hw h0 h60 hc hg hcell hn
  go_enter Try.func5, Try.ntmps5
  go_wp2_with fail
  refine (awake_any _).mono ?_
  rintro e w1 ⟨rfl, hB⟩
  have HB := Lib.hid hB
  clear hB
  go_wp2_with fail
  refine (new_in 4096 (by decide) (by decide) _).mono ?_
  rintro e w3 ⟨p, v, rfl, hS, hB3, hp, hv⟩
  have HM : Hid (Mid w p 4096 v [] 0 w3) := ⟨hS, HB.out.trans (hB3.mono HB.out.size), by have := HB.out.size; omega, fun g hg => by rw [hv] at hg; cases hg⟩
  clear hS hB3 hp hv HB
  obtain ⟨i0, hi, hz0, hz1, hz2⟩ := info_parts Try.info_i64
  have hsz : (w3.alloc (.cells #[] 2)).heap.size = w3.heap.size + 1 := World.size_alloc ..
  have hbl : Below w3.heap.size w3 (w3.alloc (.cells #[] 2)) := (Below.refl _ _).alloc (Nat.le_refl _) _
  go_wp2_with (at_builtin; refine wpList_append_lies _ rfl _ _ 35 rfl w3.heap.size 2 i0 _ 1 8 Try.underlying35 hi hz0 hz1 hz2 rfl (by decide) (.slice (some ⟨w3.heap.size, 0, none⟩) 0 0) 0 [] rfl ⟨rfl, Or.inr ⟨w3.heap.size, 0, #[], rfl, Nat.le_refl _, heap_alloc_new _ _, Nat.le_refl _, Nat.zero_le _, rfl, rfl⟩⟩ ⟨g, o, none⟩ n c (ws.map (Value.int .i64)) rfl (by simp [HN.out]) (fun j u hu => by
      rw [List.getElem?_map] at hu
      cases hy : ws[j]? with
      | none => rw [hy] at hu; cases hu
      | some y =>
        rw [hy] at hu
        cases hu
        rw [addr_at]
        exact (World.cell?_of_block (w := w) (a := ⟨g, o + j, none⟩) ((hbl.block g (by have := HM.out.below.size; have := HW.out.2.2.2.2.1; omega)).trans (HM.out.below.block g HW.out.2.2.2.2.1))).trans (HW.out.2.2.2.2.2 j y hy)) (fun u hu => by obtain ⟨y, _, rfl⟩ := List.mem_map.1 hu; rfl) (by have := HN.out; have := HW.out.2.1; omega) (by have := HN.out; have := HW.out.2.2.1; unfold maxLen; omega) (by have := HN.out; have := HW.out.2.2.1; omega) (by omega) _ rfl ?_; intro g4 c4 w4 hrow hgr hat hlt4; have H4 := Lib.hid (And.intro hrow (And.intro hgr (And.intro hat hlt4))); clear hrow hgr hat hlt4)
  obtain rfl := HN.out
  obtain ⟨hrow, hgr, -, hlt4⟩ := H4.out
  have hb4 : Below w3.heap.size w3 w4 := hbl.grown hgr (by omega) (fun k hk => by cases hk; exact Nat.le_refl _)
  have hM4 := HM.out.later hb4
  have hg4 : w3.heap.size ≤ g4 := by
    rcases hrow.2 with ⟨e, _⟩ | ⟨g', cap', cur, e, h1, _⟩
    · cases e
    · simp only [Value.slice.injEq, Option.some.injEq, Addr.mk.injEq, and_true] at e
      obtain ⟨rfl, -, -⟩ := e
      exact h1
  have hc4 : ws.length ≤ c4 := by
    rcases hrow.2 with ⟨e, _⟩ | ⟨g', cap', cur, e, _, _, h1, _⟩
    · cases e
    · simp only [Value.slice.injEq, Option.some.injEq, Addr.mk.injEq, and_true] at e
      obtain ⟨rfl, -, rfl⟩ := e
      omega
  have hcells : ∀ i y, ws[i]? = some y → w4.cell? ⟨g4, i, none⟩ = some (.int .i64 y) := fun i y hy => by
    have hi := (List.getElem?_eq_some_iff.1 hy).1
    rw [World.ownsRow.cellAt hrow i (by omega)]
    simp [hy]
  have hfz := World.ownsRow.frozenAt hrow
  have hwin : WAt (fun _ => True) w4 ⟨0, 0, ws, some ⟨g4, 0, none⟩, c4⟩ := ⟨by show ws.length ≤ _; have := HW.out.2.2.1; unfold maxLen; omega, fun _ => ⟨g4, 0, rfl, hc4, hlt4, trivial, fun i y hy => by rw [Nat.zero_add]; exact hcells i y hy⟩⟩
  have hoff4 : Off g4 p v := off_new HM.out hg4
  obtain ⟨y0, hy0⟩ : ∃ y, ws[0]? = some y := ⟨_, List.getElem?_eq_getElem HW.out.2.1⟩
  have HP := Lib.hid (And.intro hM4 (And.intro hoff4 (And.intro hlt4 (And.intro (hcells 0 y0 hy0) (And.intro (hfz 0) hg4)))))
  have hlen := HW.out.2.2.1
  refine (push_in p 0 4096 v [] 0 0 (some ⟨g4, 0, none⟩) c4 ws (fun _ => True) w4 hM4.st hwin (by simp [used]; omega)).mono ?_
  clear hrow hgr hlt4 hb4 hM4 hg4 hc4 hcells hfz hwin hoff4 hy0 hbl hsz H4 hlen hi hz0 hz1 hz2
  rintro e w5 ⟨rfl, ⟨fk, fn, fws, fa, fc⟩, ht, hd, hwf⟩
  simp only [Fr.told, Prod.mk.injEq] at ht
  obtain ⟨rfl, rfl, rfl⟩ := ht
  obtain ⟨v5, hM5, hW5⟩ := HP.out.1.did hd
  obtain ⟨hoff5, hbk5⟩ := HP.out.2.1.went hW5 HP.out.2.2.1
  have d0 := (World.cell?_of_block (w := w4) (a := ⟨g4, 0, none⟩) hbk5).trans HP.out.2.2.2.1
  have z0 := (World.frozen?_of_block (w := w4) (a := ⟨g4, 0, none⟩) hbk5).trans HP.out.2.2.2.2.1
  have HP5 := Lib.hid (And.intro hM5 (And.intro hoff5 hwf))
  have hg6 : ∀ u : Value, w5.grownBy (w5.setCell ⟨g4, 0, none⟩ u) (some g4) := fun u => ⟨rfl, rfl, rfl, by simp [World.setCell], fun k _ hk => Below.heap_setCell _ _ _ _ (fun e => hk (congrArg some e))⟩
  have HM6 : Hid (∀ u : Value, Mid w p 4096 v5 ([] ++ [⟨0, 0, fws, fa, fc⟩]) 0 (w5.setCell ⟨g4, 0, none⟩ u)) := fun u => by
    refine hM5.grown (hg6 u) (fun g e => ?_) (fun f hf => ?_)
    · cases e
      exact ⟨by have := HM.out.below.size; have := HP.out.2.2.2.2.2; omega, hoff5⟩
    · simp only [List.nil_append, List.mem_singleton] at hf
      subst hf
      exact hwf.move (fun g _ hk => ⟨fun e => by have := Option.some.inj e; have := HP.out.2.2.1; omega, rfl⟩) (Nat.le_refl _)
  have hpos : (0 : Int) < (fws.length : Int) := by have := HW.out.2.1; omega
  clear hd hM5 hW5 hoff5 hbk5 hwf hg6
  go_wp2_with fail
  generalize hu1 : Value.int IntKind.i64 (wrap64 (y0 + 1)) = u1
  clear hu1 d0 z0
  have HM6' := Lib.hid (Deep.start (HM6.out u1))
  clear HM6
  generalize w5.setCell ⟨g4, 0, none⟩ u1 = w6 at HM6' ⊢
  refine (list_any p 0 4096 v5 _ w6 HM6'.out.1.st).mono ?_
  rintro e w7 ⟨ul, rfl, M, hM, hmm, hnew, hlo, hb7⟩
  obtain ⟨m1, rfl⟩ := List.length_eq_one_iff.1 (show M.length = 1 by have := congrArg List.length hmm; simpa using this)
  obtain ⟨mk, mn, mws, ma, mc⟩ := m1
  simp only [List.map_cons, List.map_nil, List.nil_append, Fr.told, List.cons.injEq, Prod.mk.injEq, and_true] at hmm
  obtain ⟨rfl, rfl, rfl⟩ := hmm
  obtain ⟨g1, ha, hg1, hl1, hn1, hcl1, -, hcell1, hf1⟩ := hnew _ (List.mem_singleton.2 rfl)
  simp only at ha hcl1 hcell1
  subst ha
  obtain ⟨gl, cl, rfl, hcl, hcm, hgl, k0, k1, k2⟩ := hM.cell (j := 0) (f := ⟨0, 0, mws, some ⟨g1, 0, none⟩, mc⟩) rfl
  have hgl6 : w6.heap.size ≤ gl := hlo gl rfl
  have hD7 := HM6'.out.later hb7
  have HL := Lib.hid (And.intro hD7 (And.intro hgl6 (And.intro hgl (And.intro hg1 (And.intro hl1 (And.intro k2 (And.intro (fun e : g1 = gl => hn1 (by rw [e]; rfl)) (And.intro hcell1 (And.intro (hf1 0) hcl1)))))))))
  clear hM hnew hlo hb7 hg1 hl1 hn1 hcl1 hcell1 hf1 hcl hcm hgl k0 k1 k2 hgl6 hD7
  simp only [List.length_singleton]
  go_wp2_with fail
  refine (top_some p 0 0 4096 v5 _ ⟨0, 0, mws, fa, fc⟩ w7 HL.out.1.1.st rfl rfl).mono ?_
  rintro e w8 ⟨u, rfl, ⟨g5, rfl, hg2, hg3, hg4', hf5⟩, hk⟩
  obtain ⟨v8, hD8, hW8⟩ := HL.out.1.did hk (fun f hf => hf)
  have hs8 := hW8.1.size
  have far8 : ∀ k, w6.heap.size ≤ k → k < w7.heap.size → w8.heap[k]? = w7.heap[k]? := fun k h1 h2 => hW8.1.block k h2 (by have := HM6'.out.1.st.lp; omega) (fun e => by have := HM6'.out.2.2.2.1 k e.symm; omega)
  have hb9 : Below w8.heap.size w8 (w8.alloc (.cells #[.int .i64 0, .int .i64 0, .slice (some ⟨g5, 0, none⟩) mws.length mws.length] TF)) := (Below.refl _ _).alloc (Nat.le_refl _) _
  have hx9 := box_cells (w := w8) (u0 := .int .i64 0) (u1 := .int .i64 0) (u2 := .slice (some ⟨g5, 0, none⟩) mws.length mws.length) (T := TF)
  have hz9 : (w8.alloc (.cells #[.int .i64 0, .int .i64 0, .slice (some ⟨g5, 0, none⟩) mws.length mws.length] TF)).heap.size = w8.heap.size + 1 := World.size_alloc ..
  obtain ⟨hD7, hgl6, hgl, hg1, hl1, hk2, hn1, hcell1, hfz1, hcl1⟩ := HL.out
  obtain ⟨y1, hy1⟩ : ∃ y, mws[0]? = some y := ⟨_, List.getElem?_eq_getElem HW.out.2.1⟩
  have far9 : ∀ k, w6.heap.size ≤ k → k < w7.heap.size → (w8.alloc (.cells #[.int .i64 0, .int .i64 0, .slice (some ⟨g5, 0, none⟩) mws.length mws.length] TF)).heap[k]? = w7.heap[k]? := fun k h1 h2 => (hb9.block k (by omega)).trans (far8 k h1 h2)
  have l2 := (World.cell?_of_block (w := w7) (a := ⟨gl, 2, none⟩) (far9 gl hgl6 hgl)).trans hk2
  have b2 := cell_of_row _ _ 2 _ _ _ hx9
  have c1 := (World.cell?_of_block (w := w7) (a := ⟨g1, 0, none⟩) (far9 g1 hg1 hl1)).trans (hcell1 0 y1 hy1)
  have f1 := (World.frozen?_of_block (w := w7) (a := ⟨g1, 0, none⟩) (far9 g1 hg1 hl1)).trans hfz1
  obtain ⟨g5', o5, he5, -, -, rfl, hc5⟩ := hg2.2 HW.out.2.1
  simp only [Option.some.injEq, Addr.mk.injEq, and_true] at he5
  obtain ⟨-, rfl⟩ := he5
  have c5 := (World.cell?_of_block (w := w8) (a := ⟨g5', 0, none⟩) (hb9.block g5' hg4')).trans (by simpa using hc5 0 y1 hy1)
  have f5 := (World.frozen?_of_block (w := w8) (a := ⟨g5', 0, none⟩) (hb9.block g5' hg4')).trans (hf5 0)
  have HD9 := Lib.hid (hD8.later hb9)
  have HNE := Lib.hid (show g1 ≠ gl ∧ g5' ≠ gl ∧ g5' ≠ g1 ∧ g1 ≠ w8.heap.size ∧ g5' ≠ w8.heap.size ∧ w6.heap.size ≤ g1 ∧ w6.heap.size ≤ g5' from ⟨hn1, by omega, by omega, by omega, by omega, hg1, by have := hD7.1.st.lp; omega⟩)
  clear hk hD8 hW8 hs8 far8 hb9 hx9 hz9 hD7 hgl6 hgl hg1 hl1 hk2 hn1 hcell1 hfz1 hcl1 hg2 hg3 hg4' hf5 hc5 far9 hy1
  go_wp2_with fail
  generalize w8.alloc (.cells #[.int .i64 0, .int .i64 0, .slice (some ⟨g5', 0, none⟩) mws.length mws.length] TF) = w9 at l2 b2 c1 f1 c5 f5 HD9 ⊢
  generalize w8.heap.size = b9 at b2 HNE ⊢
  have hlen0 : 0 < mws.length := HW.out.2.1
  go_still_tail 13, (by kernel_rfl)
  change wpList _ _ _ _ _ w9.drew
  have c1' : w9.drew.cell? ⟨g1, 0, none⟩ = _ := c1
  have f1' : w9.drew.frozen? ⟨g1, 0, none⟩ = _ := f1
  go_wp2_with fail
  clear c1' f1' l2
  generalize Value.int IntKind.i64 (bits BinOp.xor IntKind.i64 y1 turn) = x1
  have hD10 := (HD9.out.poke HNE.out.2.2.2.2.2.1 0 x1).later (Below.refl _ _).drew
  have b2' : (w9.setCell ⟨g1, 0, none⟩ x1).drew.cell? ⟨b9, 2, none⟩ = _ := (World.cell?_setCell_other _ _ _ _ (fun e => HNE.out.2.2.2.1 (congrArg Addr.block e))).trans b2
  have c5' : (w9.setCell ⟨g1, 0, none⟩ x1).drew.cell? ⟨g5', 0, none⟩ = _ := (World.cell?_setCell_other _ _ _ _ (fun e => HNE.out.2.2.1 (congrArg Addr.block e).symm)).trans c5
  have f5' : (w9.setCell ⟨g1, 0, none⟩ x1).drew.frozen? ⟨g5', 0, none⟩ = _ := (World.frozen?_setCell _ _ _ _).trans f5
  have HD10 := Lib.hid hD10
  clear hD10 b2 c5 f5 c1 f1
  generalize (w9.setCell ⟨g1, 0, none⟩ x1).drew = w10 at HD10 b2' c5' f5' ⊢
  go_still_tail 9, (by kernel_rfl)
  change wpList _ _ _ _ _ w10.drew
  have c5'' : w10.drew.cell? ⟨g5', 0, none⟩ = _ := c5'
  have f5'' : w10.drew.frozen? ⟨g5', 0, none⟩ = _ := f5'
  go_wp2_with fail
  clear c5'' f5'' b2' c5' f5'
  generalize Value.int IntKind.i64 (bits BinOp.xor IntKind.i64 y1 turn) = x2
  have HD11 := Lib.hid ((HD10.out.poke HNE.out.2.2.2.2.2.2 0 x2).later (Below.refl _ _).drew)
  generalize (w10.setCell ⟨g5', 0, none⟩ x2).drew = w11 at HD11 ⊢
  refine (pop_some p 0 4096 v8 [] ⟨0, 0, mws, fa, fc⟩ w11 HD11.out.1.st).mono ?_
  rintro e w12 ⟨u3, rfl, ⟨g6, rfl, hg62, -, hl6, -⟩, hk⟩
  obtain ⟨v12, hD12, -⟩ := HD11.out.did hk (fun f hf => by simp at hf)
  have hb13 : Below w12.heap.size w12 (w12.alloc (.cells #[.int .i64 0, .int .i64 0, .slice (some ⟨g6, 0, none⟩) mws.length mws.length] TF)) := (Below.refl _ _).alloc (Nat.le_refl _) _
  have hx13 := box_cells (w := w12) (u0 := .int .i64 0) (u1 := .int .i64 0) (u2 := .slice (some ⟨g6, 0, none⟩) mws.length mws.length) (T := TF)
  have e0 := cell_of_row _ _ 0 _ _ _ hx13
  have e1 := cell_of_row _ _ 1 _ _ _ hx13
  have e2 := cell_of_row _ _ 2 _ _ _ hx13
  have HD13 := Lib.hid (And.intro (hD12.later hb13) (hg62.move (K' := fun x => x = g6) (fun x hx hk => ⟨hk, hb13.block x hx⟩) hb13.size))
  rw [show decide (([] : List Fr).length < 0) = false from rfl]
  clear hk hD12 hb13 hx13 hg62 hl6
  go_wp2_with fail
  generalize w12.alloc (.cells #[.int .i64 0, .int .i64 0, .slice (some ⟨g6, 0, none⟩) mws.length mws.length] TF) = w13 at e0 e1 e2 HD13 ⊢
  refine (sameframe_any 0 0 mws _ _ _ _ (fun x => x = g6) (fun _ => True) w13 HD13.out.2 (HW.out.1.move (fun x hx _ => ⟨trivial, HD13.out.1.1.below.block x hx⟩) HD13.out.1.1.below.size)).mono ?_
  rintro e w14 ⟨rfl, hb14⟩
  have HB14 := Lib.hid (HD13.out.1.1.below.trans (hb14.mono HD13.out.1.1.below.size))
  clear hb14 e0 e1 e2
  go_wp2_with fail
  go_ret
  exact ⟨rfl, HB14.out⟩

theorem own_walk (ws : List Int) (a : Option Addr) (c : Nat) (turn : Int) (w : World) (hw : WAt (fun _ => True) w ⟨0, 0, ws, a, c⟩) :
    Calls Try.prog 5 #[.slice a ws.length c, .int .i64 turn] w fun e w' => e = .returned (.bool true) ∧ Below w.heap.size w w' := by
  by_cases h : 0 < ws.length ∧ ws.length ≤ 60
  · exact own_in ws a c turn w hw h.1 h.2
  · exact own_out ws a c turn w (by omega) (by have := hw.1; unfold maxLen at this; exact this)

end Go.Proofs.Ytalfhcmccdnajaa
