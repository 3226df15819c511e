import Derived.Deep.RegionHeld
import Derived.Lib.ItoaLen
import Derived.Defers
import Derived.Recover
import Derived.Test.YtdjcdecbmeickaaMg1
import Derived.Test.YtdjcdecbmeickaaMg2
import Derived.Test.YtdjcdecbmeickaaMg3
import Derived.Test.YtdjcdecbmeickaaMg4
import Derived.Test.YtdjcdecbmeickaaMg14
namespace Go.Proofs.Ytdjcdecbmeickaa
set_option maxHeartbeats 64000000
set_option maxRecDepth 100000
open Go.RowKit Go.Lib
theorem module_data {ll : Int} {fu : Nat} {cs : List (Nm × Int)} {bs : List Bnd} {s : St} (he : s.e = 0) (hr : s.r ≠ []) (h : seesL [100, 97, 116, 97] s.r = true) : moduleD ll (fu + 1) cs bs s = moduleD ll fu (cs ++ (dataD ll s.next).1) bs (dataD ll s.next).2 := by
  conv => lhs; unfold moduleD
  rw [if_pos ⟨he, hr⟩, if_pos h]
theorem module_bind {ll : Int} {fu : Nat} {cs : List (Nm × Int)} {bs : List Bnd} {s : St} (he : s.e = 0) (hr : s.r ≠ []) (h : ¬ seesL [100, 97, 116, 97] s.r = true) : moduleD ll (fu + 1) cs bs s = moduleD ll fu cs (bs ++ [(bindD ll (exprD ll 200) s).1]) (needD ll [59] (bindD ll (exprD ll 200) s).2) := by
  conv => lhs; unfold moduleD
  rw [if_pos ⟨he, hr⟩, if_neg h]
theorem module_no {ll : Int} {fu : Nat} {cs : List (Nm × Int)} {bs : List Bnd} {s : St} (h : ¬ (s.e = 0 ∧ s.r ≠ [])) : moduleD ll fu cs bs s = ((cs, bs), s) := by
  cases fu with
  | zero => rfl
  | succ fu =>
    conv => lhs; unfold moduleD
    exact if_neg h
theorem rest_widen {w w' : World} {b b' : Nat} {v : Value} {rest : List Tok} (h : RestIn w b v rest) (hb : b ≤ b') (hk : ∀ g, g < b → w'.heap[g]? = w.heap[g]?) : RestIn w' b' v rest := by
  obtain ⟨a, c, e, h1, h2, h3⟩ := h
  refine ⟨a, c, e, h1, h2, ?_⟩
  rcases h3 with h3 | ⟨g, o, e2, hg, ht⟩
  · exact Or.inl h3
  · refine Or.inr ⟨g, o, e2, Nat.lt_of_lt_of_le hg hb, fun j hj => ?_⟩
    obtain ⟨t0, t1, t2, t3, t4⟩ := ht j hj
    have k := hk g hg
    exact ⟨(World.cell?_of_block (a := ⟨g, _, none⟩) k).trans t0, (World.cell?_of_block (a := ⟨g, _, none⟩) k).trans t1, (World.cell?_of_block (a := ⟨g, _, none⟩) k).trans t2, (World.cell?_of_block (a := ⟨g, _, none⟩) k).trans t3, (World.cell?_of_block (a := ⟨g, _, none⟩) k).trans t4⟩
theorem below_pq {n q : Nat} {a b c : World} (h : Below n a b) (hg : b.grownBy c (some q)) (hn : n ≤ b.heap.size) (hq : n ≤ q) : Below n a c :=
  ⟨hg.os.trans h.os, hg.tape.trans h.tape, hg.output.trans h.output, Nt h.size hg.size, fun k hk => (hg.block k (by omega) (by simp; omega)).trans (h.block k hk)⟩
theorem data_len (ll : Int) (s : St) : (dataD ll s).1.length + mS (dataD ll s).2 ≤ mS s := by
  have h1 := declsd_len ll (s.r.length + 1) [] s
  have h2 := need_mn ll [59] (declsD ll (s.r.length + 1) [] s).2
  show (declsD ll (s.r.length + 1) [] s).1.length + mS (needD ll [59] (declsD ll (s.r.length + 1) [] s).2) ≤ mS s
  simp only [List.length_nil] at h1
  omega
theorem nxt_lt {s : St} (he : s.e = 0) (hr : s.r ≠ []) : mS s.next < mS s := by
  have := List.length_pos_iff.2 hr
  unfold mS St.next
  simp only [he, if_true, List.length_tail]
  omega
def TokensV (lo : Nat) (o : Md × St) (e : Ending) (w' : World) : Prop :=
  ∃ vd vb, e = .returned (.tuple #[.agg #[vd, vb], .int .i64 o.2.e, .int .i64 (if o.2.e = 0 then 0 else o.2.ln)]) ∧
    (o.2.e ≠ 0 ∧ vd = .slice none 0 0 ∧ vb = .slice none 0 0 ∨ o.2.e = 0 ∧ ∃ B, lo ≤ B ∧ w'.ownsRow B 66 2 vd o.1.1.length (declV o.1.1) ∧ ∃ cs, w'.ownsRow B 36 10 vb o.1.2.length cs ∧ BndsAt w' (fun g => B ≤ g ∧ some g ≠ vb.ownBlock ∧ some g ≠ vd.ownBlock) o.1.2 cs)
theorem dtokens_any (T : List Tok) (hx : ∀ y, y ∈ T → 0 ≤ y.1.x) (hn : T.length ≤ 100000) (w : World) (a : Option Addr) (c : Nat) (hin : RestIn w w.heap.size (.slice a T.length c) T) : Calls Try.prog 23 #[.slice a T.length c] w (fun e w' => TokensV w.heap.size (moduleD (lastOf 1 T) (T.length + 1) [] [] ⟨T, 0, 0⟩) e w' ∧ Below w.heap.size w w') := by
  have HX := Hd hx
  have HIn := Hd hin
  have hx1 := (Below.refl w.heap.size w).alloc Nr (.cells #[.slice none 0 0, .slice none 0 0] 41)
  have hx2 := hx1.alloc (by simp) (.cells #[.slice a T.length c, .int .i64 0, .int .i64 0, .int .i64 0] 82)
  have hx3 := hx2.alloc (by simp; omega) (.cells #[.slice none 0 0, .slice none 0 0] 41)
  have hy3 := (Below.refl ((w.alloc (.cells #[.slice none 0 0, .slice none 0 0] 41)).alloc (.cells #[.slice a T.length c, .int .i64 0, .int .i64 0, .int .i64 0] 82)).heap.size ((w.alloc (.cells #[.slice none 0 0, .slice none 0 0] 41)).alloc (.cells #[.slice a T.length c, .int .i64 0, .int .i64 0, .int .i64 0] 82))).alloc Nr (.cells #[.slice none 0 0, .slice none 0 0] 41)
  have HPB := Hd (show BoxW (((w.alloc (.cells #[.slice none 0 0, .slice none 0 0] 41)).alloc (.cells #[.slice a T.length c, .int .i64 0, .int .i64 0, .int .i64 0] 82)).alloc (.cells #[.slice none 0 0, .slice none 0 0] 41)) (w.heap.size + 1) [.slice a T.length c, .int .i64 0, .int .i64 0, .int .i64 0] by have h := (BoxW.alloc (w.alloc (.cells #[.slice none 0 0, .slice none 0 0] 41)) #[.slice a T.length c, .int .i64 0, .int .i64 0, .int .i64 0] 82).below hy3; simpa using h)
  have HMB := Hd (show BoxW (((w.alloc (.cells #[.slice none 0 0, .slice none 0 0] 41)).alloc (.cells #[.slice a T.length c, .int .i64 0, .int .i64 0, .int .i64 0] 82)).alloc (.cells #[.slice none 0 0, .slice none 0 0] 41)) (w.heap.size + 1 + 1) [.slice none 0 0, .slice none 0 0] by have h := BoxW.alloc ((w.alloc (.cells #[.slice none 0 0, .slice none 0 0] 41)).alloc (.cells #[.slice a T.length c, .int .i64 0, .int .i64 0, .int .i64 0] 82)) #[.slice none 0 0, .slice none 0 0] 41; simpa using h)
  have HRB := Hd (show BoxW ((w.alloc (.cells #[.slice none 0 0, .slice none 0 0] 41)).alloc (.cells #[.slice a T.length c, .int .i64 0, .int .i64 0, .int .i64 0] 82)) w.heap.size [.slice none 0 0, .slice none 0 0] from ((BoxW.alloc w #[.slice none 0 0, .slice none 0 0] 41).below (Br.alloc Nr (.cells #[.slice a T.length c, .int .i64 0, .int .i64 0, .int .i64 0] 82))))
  have HGm := Hd (grown_of (b := w.heap.size + 1) hy3)
  have HZm := Hd (show ((w.alloc (.cells #[.slice none 0 0, .slice none 0 0] 41)).alloc (.cells #[.slice a T.length c, .int .i64 0, .int .i64 0, .int .i64 0] 82)).heap.size = w.heap.size + 2 by simp)
  have HP0 := Hd (show PAt (((w.alloc (.cells #[.slice none 0 0, .slice none 0 0] 41)).alloc (.cells #[.slice a T.length c, .int .i64 0, .int .i64 0, .int .i64 0] 82)).alloc (.cells #[.slice none 0 0, .slice none 0 0] 41)) (w.heap.size + 1) T ⟨T, 0, 0⟩ from ⟨⟨_, HPB.out.1 0 _ rfl, (rest_widen HIn.out (Nat.le_succ _) fun g hg => hx3.block g hg)⟩, ⟨0, Nat.zero_le _, rfl, HPB.out.1 1 _ rfl⟩, HPB.out.1 2 _ rfl, HPB.out.1 3 _ rfl, HPB.out.2, hn⟩)
  have HBl := Hd hx2
  have HZL := Hd (show (((w.alloc (.cells #[.slice none 0 0, .slice none 0 0] 41)).alloc (.cells #[.slice a T.length c, .int .i64 0, .int .i64 0, .int .i64 0] 82)).alloc (.cells #[.slice none 0 0, .slice none 0 0] 41)).heap.size = w.heap.size + 3 by simp)
  clear hx hin hx1 hx2 hx3 hy3 HPB
  go_enter Try.func23, Try.ntmps23
  go_wp2_with fail
  generalize (((w.alloc (.cells #[.slice none 0 0, .slice none 0 0] 41)).alloc (.cells #[.slice a T.length c, .int .i64 0, .int .i64 0, .int .i64 0] 82)).alloc (.cells #[.slice none 0 0, .slice none 0 0] 41)) = W at *
  generalize ((w.alloc (.cells #[.slice none 0 0, .slice none 0 0] 41)).alloc (.cells #[.slice a T.length c, .int .i64 0, .int .i64 0, .int .i64 0] 82)) = Wm at *
  have hszm1 := Nat.le_of_eq HZm.out
  have hszm2 := Nat.le_of_eq HZm.out.symm
  have hszL1 := Nat.le_of_eq HZL.out
  have hszL2 := Nat.le_of_eq HZL.out.symm
  generalize hb : w.heap.size + 1 = b at *
  generalize hm : b + 1 = mp at *
  generalize hRES : moduleD (lastOf 1 T) (T.length + 1) [] [] ⟨T, 0, 0⟩ = RES at *
  go_loopw [] (fun wr => ∃ (s' : St) (cs : List (Nm × Int)) (bs : List Bnd) (vd vb : Value) (cl : List Value) (fu : Nat), PAt wr b T s' ∧ Wm.grownBy wr (some b) ∧ mS s' ≤ fu ∧ moduleD (lastOf 1 T) fu cs bs s' = RES ∧ cs.length + bs.length + mS s' ≤ T.length + 1 ∧ BoxW wr mp [vd, vb] ∧ wr.ownsRow W.heap.size 66 2 vd cs.length (declV cs) ∧ wr.ownsRow W.heap.size 36 10 vb bs.length cl ∧ BndsAt wr (fun g => W.heap.size ≤ g ∧ some g ≠ vb.ownBlock ∧ some g ≠ vd.ownBlock) bs cl ∧ ∀ g, vd.ownBlock = some g → vb.ownBlock ≠ some g) (fun wr => stM T.length b wr)
  case atStart => exact ⟨⟨T, 0, 0⟩, [], [], _, _, [], _, HP0.out, HGm.out, by unfold mS; simp, hRES, by unfold mS; simp, HMB.out, World.ownsRow_nil _ _ _ _, World.ownsRow_nil _ _ _ _, .nil, fun g e => by cases e⟩
  case round =>
    obtain ⟨s', cs, bs, vd, vb, cl, fu, hP, hg, hfu, hN, hln, hB, hod, hob, hbt, hdis⟩ := hrel
    obtain ⟨ad, cd, rfl, hlowd⟩ := own_shape hod
    obtain ⟨ab, cb, rfl, hlowb⟩ := own_shape hob
    obtain ⟨i, ag, cg, c0, hcc, hmm, c1, hi, hr, c2, c3, ht⟩ := hP.view
    clear ht c0 hcc hmm
    have HS0 := Hd hP
    have HBq := Hd hB
    have HOd := Hd hod
    have HOb := Hd hob
    have HXb := Hd hbt
    have HDs := Hd hdis
    have HLd := Hd hlowd
    have HLb := Hd hlowb
    have H0 := Hd (Ai hP hg)
    have HQ := Hd (Ai hfu hln)
    have HM := Hd hN
    have q0 : wr.cell? ⟨mp, 0, none⟩ = some _ := HBq.out.1 0 _ rfl
    have q1 : wr.cell? ⟨mp, 1, none⟩ = some _ := HBq.out.1 1 _ rfl
    have hwr : W.heap.size ≤ wr.heap.size := by have := hB.lt; omega
    have hnn := hn
    have hrb : w.heap.size ≠ b := by omega
    have HRb := Hd (boxw_grown HRB.out hg hrb)
    have d0 : wr.cell? ⟨w.heap.size, 0, none⟩ = some _ := HRb.out.1 0 _ rfl
    have d1 : wr.cell? ⟨w.heap.size, 1, none⟩ = some _ := HRb.out.1 1 _ rfl
    have z0 := HRb.out.2 0
    have z1 := HRb.out.2 1
    clear hP hg hfu hN hln hB hod hob hbt hdis hlowd hlowb
    by_cases ge : s'.e = 0
    · have f0 : (s'.e == 0) = true := by simp [ge]
      by_cases gr : i < T.length
      · have f1 : decide ((i : Int) < (T.length : Int)) = true := by simp; omega
        have HGE := Hd ge
        have HT0 := Hd hn
        have HNE := Hd (show s'.r ≠ [] from fun e => by have h := hr.symm.trans e; have := List.drop_eq_nil_iff.1 h; omega)
        obtain ⟨fu', rfl⟩ : ∃ q, fu = q + 1 := ⟨fu - 1, by have := HQ.out.1; have := mS_alive ge; omega⟩
        have hc := dsees_any b T s' [100, 97, 116, 97] wr H0.out.1
        clear hr hi ge q0 q1 d0 d1 z0 z1
        by_cases gs : seesL [100, 97, 116, 97] s'.r = true
        · rw [gs] at hc
          have hN := HM.out
          rw [module_data HGE.out HNE.out gs] at hN
          have HN := Hd hN
          have HC := Hd hc
          clear hN hc gs
          go_wp2_with fail
          refine HC.out.mono ?_
          rintro e w1 ⟨rfl, hb1⟩
          have HG1 := Hd (grown_of (b := b) hb1)
          have hsz1 : wr.heap.size ≤ w1.heap.size := hb1.size
          have H1 := Hd (Ai (H0.out.1.later hb1) (Gt H0.out.2 HG1.out))
          clear HC hb1 c1 c2 c3
          obtain ⟨i2, hiT, hir, c1⟩ := H1.out.1.c1
          have y1 := H1.out.1.z 1
          have hTn := HT0.out
          have ej : IntKind.i64.wrap ((i2 : Int) + 1) = (i2 : Int) + 1 := by rw [IntKind.wrap_i64]; omega
          have hP9 := H1.out.1.next c1 HNE.out
          have hgs := set_grown w1 b 1 (.int .i64 ((i2 : Int) + 1))
          have H2 := Hd (Ai hP9 (Gt H1.out.2 hgs))
          have HG2 := Hd hgs
          have hsz2 : w1.heap.size ≤ (w1.setCell ⟨b, 1, none⟩ (.int .i64 ((i2 : Int) + 1))).heap.size := by simp
          clear hir hiT hP9 hgs
          go_wp2_with fail
          generalize (w1.setCell ⟨b, 1, none⟩ (.int .i64 ((i2 : Int) + 1))) = w2 at *
          clear c1 y1
          have hmb : mp ≠ b := by omega
          have HB2 := Hd (boxw_grown HBq.out (Gt HG1.out HG2.out) hmb)
          have HO2 := Hd (own_kept HOd.out (Gt HG1.out HG2.out) (fun e => by have := HLd.out b e; omega))
          have HCo := Hd (fun (W' : World) (hb : Below w2.heap.size w2 W') => ddata_any b T HX.out s'.next W' (H2.out.1.later hb))
          have q0 : w2.cell? ⟨mp, 0, none⟩ = some (.slice ad cs.length cd) := HB2.out.1 0 _ rfl
          have HLE := Hd (Ai (data_len (lastOf 1 T) s'.next) (nxt_lt HGE.out HNE.out))
          generalize hqi : dataD (lastOf 1 T) s'.next = Q at *
          obtain ⟨ds, s2⟩ := Q
          clear hqi
          have HNm := Hd (show cs.length + ds.length ≤ 100000 ∧ cs.length + ds.length + bs.length + mS s2 ≤ T.length + 1 by have h1 : ds.length + mS s2 ≤ mS s'.next := HLE.out.1; have := HLE.out.2; have := HQ.out.2; have := mS_alive HGE.out; have := mS_le HS0.out; omega)
          go_region_law
            (first
              | (refine step_onto_decl rfl _ _ rfl w5 W.heap.size cs.length (.slice ad cs.length cd) (declV cs) rfl HO5.out _ ds.length (declV ds) _ rfl H5.out.2.2.1 (declV_one ds) HNm.out.1 HS5.out ?_; intro ao cap w9 hon; have hBq := boxw_o HB5.out hon.2.1 (fun e => by have := HLd.out _ e.symm; omega); have qb0 := hBq.1 0 _ rfl; have zb0 := hBq.2 0; have H9 := Hd (Ai hon hBq); clear hon hBq)
              | (refine step_wanted rfl ?_; go_simp; go_at_call 35; refine (HCo.out _ (by first | exact Br | exact Br.drew | exact dbelow Br _)).mono ?_; rintro e w5 ⟨⟨vd5, rfl, hod5⟩, hP5, hg5'⟩; obtain ⟨a5, c5, rfl, hl5⟩ := own_shape hod5; have hg5 : w2.grownBy w5 (some b) := Gt (grown_of (by first | exact Br | exact Br.drew | exact dbelow Br _)) hg5'; have hB5 := boxw_grown HB2.out hg5 hmb; have q0 := hB5.1 0 _ rfl; have HB5 := Hd hB5; have HO5 := Hd (own_kept HO2.out hg5 (fun e => by have := HLd.out b e; omega)); have hs5 : w2.heap.size ≤ w5.heap.size := hg5.size; have HS5 := Hd (show W.heap.size ≤ w5.heap.size by omega); have H5 := Hd (Ai (show PAt w5 b T s2 from hP5) (Ai hg5 (Ai hod5 hl5))); clear hP5 hg5 hg5' hod5 hB5 hl5))
          all_goals
            go_wp2_with fail
            obtain ⟨⟨o1, o2, o3⟩, hB9⟩ := H9.out
            obtain ⟨hP5, hg5, hod5, hl5⟩ := H5.out
            have hs5 := hg5.size
            have hS5 := HS5.out
            have hlowd : ∀ g, (Value.slice ad cs.length cd).ownBlock = some g → W.heap.size ≤ g := HLd.out
            have hlowb : ∀ g, (Value.slice ab bs.length cb).ownBlock = some g → W.heap.size ≤ g := HLb.out
            have hltb : ∀ g, (Value.slice ab bs.length cb).ownBlock = some g → g < wr.heap.size := fun g e => (HOb.out.lt g e).2
            obtain ⟨q, hq, hg9⟩ := grown_some (b := b) o2 (fun g e => by have := hlowd g e; omega)
            have hs9 := hg9.size
            have hP9 := (hP5.past hg9 hq).over (p := mp) (i := 0) (by omega) (.slice ao (cs.length + ds.length) cap)
            have hG9 := grown_new (grown_past (Gt H2.out.2 hg5) o2 (fun g e => by have := hlowd g e; omega)) (p := mp) (i := 0) (by omega) (.slice ao (cs.length + ds.length) cap)
            have hvn : ∀ g, (Value.slice ao (cs.length + ds.length) cap).ownBlock = some g → W.heap.size ≤ g := fun g e => by
              rcases o3 with h | h
              · exact hlowd g (h.symm.trans e)
              · have h2 : w5.heap.size = g := Oi (h.symm.trans e)
                omega
            have hO9 := own_o o1 (set_grown w9 mp 0 (.slice ao (cs.length + ds.length) cap)) (fun g e e2 => by have h1 := hvn g e; have h2 : g = mp := Oi e2; omega)
            have hb9 := own_o (own_o (own_kept HOb.out (Gt (Gt HG1.out HG2.out) hg5) (fun e => by have := hlowb b e; omega)) o2 (fun g e e2 => HDs.out g e2.symm e)) (set_grown w9 mp 0 (.slice ao (cs.length + ds.length) cap)) (fun g e e2 => by have h1 := hlowb g e; have h2 : g = mp := Oi e2; omega)
            have hBf := hB9.set 0 (show 0 < 2 by decide) (.slice ao (cs.length + ds.length) cap)
            have hnw : ∀ g, g ≠ mp → (w9.setCell ⟨mp, 0, none⟩ (.slice ao (cs.length + ds.length) cap)).heap[g]? = w9.heap[g]? := fun g h => Below.heap_setCell _ _ _ _ (by simp only; omega)
            have hnv : ∀ g, g < w5.heap.size → some g ≠ (Value.slice ad cs.length cd).ownBlock → some g ≠ (Value.slice ao (cs.length + ds.length) cap).ownBlock := fun g h1 h2 e => by
              rcases o3 with h | h
              · exact h2 (e.trans h)
              · have h3 : g = w5.heap.size := Oi (e.trans h)
                omega
            have hfu := HQ.out.1
            have hl1 : ds.length + mS s2 ≤ mS s'.next := HLE.out.1
            have hl2 := HLE.out.2
            have hl3 := HNm.out.2
            refine ⟨⟨s2, cs ++ ds, bs, .slice ao (cs.length + ds.length) cap, .slice ab bs.length cb, cl, fu', hP9, hG9, by omega, HN.out, by simp; omega, hBf, by rw [List.length_append, declV_app]; exact hO9, hb9, ?_, ?_⟩, by rw [hP9.m, HS0.out.m]; show mS s2 < mS s'; omega⟩
            · refine HXb.out.move fun g hg lt => ⟨⟨hg.1, hg.2.1, hnv g (by omega) hg.2.2⟩, ?_⟩
              have hg1 : W.heap.size ≤ g := hg.1
              exact (hnw g (by omega)).trans ((o2.block g (by omega) hg.2.2).trans ((hg5.block g (by omega) (by simp; omega)).trans ((HG2.out.block g (by omega) (by simp; omega)).trans (HG1.out.block g lt (by simp; omega)))))
            · intro g e e2
              rcases o3 with h | h
              · exact HDs.out g (h.symm.trans e) e2
              · have h2 : w5.heap.size = g := Oi (h.symm.trans e)
                have := hltb g e2
                omega
        · have gs' : seesL [100, 97, 116, 97] s'.r = false := by simpa using gs
          rw [gs'] at hc
          have hN := HM.out
          rw [module_bind HGE.out HNE.out gs] at hN
          have HN0 := Hd hN
          have HC := Hd hc
          clear hN hc gs gs'
          go_wp2_with fail
          refine HC.out.mono ?_
          rintro e w1 ⟨rfl, hb1⟩
          have HG1 := Hd (grown_of (b := b) hb1)
          have hsz1 : wr.heap.size ≤ w1.heap.size := hb1.size
          have H1 := Hd (Ai (H0.out.1.later hb1) (Gt H0.out.2 HG1.out))
          clear HC hb1 c1 c2 c3
          have hmb : mp ≠ b := by omega
          have HB2 := Hd (boxw_grown HBq.out HG1.out hmb)
          have HO2 := Hd (own_kept HOb.out HG1.out (fun e => by have := HLb.out b e; omega))
          have HCo := Hd (fun (W' : World) (hb : Below w1.heap.size w1 W') => dbind_any b T 200 (dexpr_all b T 200 (by decide)) 0 (by decide) s' W' (H1.out.1.later hb))
          have q1 : w1.cell? ⟨mp, 1, none⟩ = some (.slice ab bs.length cb) := HB2.out.1 1 _ rfl
          have HLE := Hd (Nat.lt_of_lt_of_le (bind_lt (ll := (lastOf 1 T)) (ex := exprD (lastOf 1 T) 200) (expr_mn 200) (s := s') HGE.out) Nr)
          have HNm := Hd (show cs.length + (bs.length + 1) ≤ T.length + 1 ∧ bs.length + 1 ≤ 100000 by have := HQ.out.2; have := mS_alive HGE.out; have := mS_le HS0.out; have := List.length_pos_iff.2 HNE.out; omega)
          generalize hqi : bindD (lastOf 1 T) (exprD (lastOf 1 T) 200) s' = Q at *
          obtain ⟨a5, s2⟩ := Q
          clear hqi
          have hnm : bs.length + 1 ≤ 100000 := HNm.out.2
          go_wp2_with fail
          go_region_law
            (first
              | (refine step_onto_bind rfl _ _ rfl (w5.alloc (.cells #[.string (tx a5.1), .slice ap0 np0 cp0, .int .i64 k1, .string nm1, .bool f5, .int .u64 u5, .slice ap1 np1 cp1, .slice ak1 nk1 ck1, .slice ab1 nb1 cb1, .slice aa1 na1 ca1] 36)) W.heap.size bs.length (.slice ab bs.length cb) cl rfl HO6.out w5.heap.size 1 [.string (tx a5.1), .slice ap0 np0 cp0, .int .i64 k1, .string nm1, .bool f5, .int .u64 u5, .slice ap1 np1 cp1, .slice ak1 nk1 ck1, .slice ab1 nb1 cb1, .slice aa1 na1 ca1] _ rfl (own_built (cs := #[.string (tx a5.1), .slice ap0 np0 cp0, .int .i64 k1, .string nm1, .bool f5, .int .u64 u5, .slice ap1 np1 cp1, .slice ak1 nk1 ck1, .slice ab1 nb1 cb1, .slice aa1 na1 ca1]) (heap_alloc_new _ _) Nr rfl (by decide)) HO1.out hnm HS6.out ?_; intro ao cap w9 hon; have hBq := boxw_o HB6.out hon.2.1 (fun e => by have := HLb.out _ e.symm; omega); have qb1 := hBq.1 1 _ rfl; have zb1 := hBq.2 1; have H9 := Hd (Ai hon hBq); clear hon hBq)
              | (refine step_wanted rfl ?_; go_simp; go_at_call 36; refine (HCo.out _ (by first | exact Br | exact Br.drew | exact dbelow Br _)).mono ?_; rintro e w5 ⟨⟨vp0, k1, nm1, f5, u5, vq, vk, vb, va, rfl, hrow, hat⟩, hP5, hg5'⟩; obtain ⟨ap0, np0, cp0, rfl⟩ := hrow.slice; obtain ⟨⟨ap1, np1, cp1, rfl⟩, ⟨ak1, nk1, ck1, rfl⟩, ⟨ab1, nb1, cb1, rfl⟩, ⟨aa1, na1, ca1, rfl⟩⟩ := hat.slices; have hg5 : w1.grownBy w5 (some b) := Gt (grown_of (by first | exact Br | exact Br.drew | exact dbelow Br _)) hg5'; have hB5 := boxw_grown HB2.out hg5 hmb; have q1 := hB5.1 1 _ rfl; have hy5 := (Below.refl w5.heap.size w5).alloc Nr (.cells #[.string (tx a5.1), .slice ap0 np0 cp0, .int .i64 k1, .string nm1, .bool f5, .int .u64 u5, .slice ap1 np1 cp1, .slice ak1 nk1 ck1, .slice ab1 nb1 cb1, .slice aa1 na1 ca1] 36); have qc1 := (hB5.below hy5).1 1 _ rfl; have HB6 := Hd (hB5.below hy5); have HO6 := Hd (own_below (own_kept HO2.out hg5 (fun e => by have := HLb.out b e; omega)) hy5); have HO1 := Hd (show ∀ zz ∈ ([.string (tx a5.1), .slice ap0 np0 cp0, .int .i64 k1, .string nm1, .bool f5, .int .u64 u5, .slice ap1 np1 cp1, .slice ak1 nk1 ck1, .slice ab1 nb1 cb1, .slice aa1 na1 ca1] : List Value), zz.oneCell' = true by intro z hz; simp at hz; rcases hz with rfl | rfl | rfl | rfl | rfl | rfl | rfl | rfl | rfl | rfl <;> rfl); have hs5 : w1.heap.size ≤ w5.heap.size := hg5.size; have HS6 := Hd (show W.heap.size ≤ (w5.alloc (.cells #[.string (tx a5.1), .slice ap0 np0 cp0, .int .i64 k1, .string nm1, .bool f5, .int .u64 u5, .slice ap1 np1 cp1, .slice ak1 nk1 ck1, .slice ab1 nb1 cb1, .slice aa1 na1 ca1] 36)).heap.size by have := hy5.size; omega); have H6 := Hd (Ai (show PAt w5 b T s2 from hP5) (Ai hg5 (Ai (show RowAt w5 (fun g => w1.heap.size ≤ g) 9 1 (.slice ap0 np0 cp0) a5.2.1.length (namesV a5.2.1) from hrow) (Ai (show ExAt w5 (fun g => w1.heap.size ≤ g) a5.2.2 _ from hat) hy5)))); clear hP5 hg5 hg5' hrow hat hy5 hB5))
          all_goals
            go_wp2_with fail
            obtain ⟨⟨o1, o2, o3⟩, hB9⟩ := H9.out
            obtain ⟨hP5, hg5, hrow, hat, hy5⟩ := H6.out
            have hs5 := hg5.size
            have hs6 := hy5.size
            have hlowd : ∀ g, (Value.slice ad cs.length cd).ownBlock = some g → W.heap.size ≤ g := HLd.out
            have hltd : ∀ g, (Value.slice ad cs.length cd).ownBlock = some g → g < wr.heap.size := fun g e => (HOd.out.lt g e).2
            have hlow9 : ∀ g, (Value.slice ab bs.length cb).ownBlock = some g → W.heap.size ≤ g := HLb.out
            have hlt9 : ∀ g, (Value.slice ab bs.length cb).ownBlock = some g → g < wr.heap.size := fun g e => (HOb.out.lt g e).2
            obtain ⟨q, hq, hg9⟩ := grown_some (b := b) o2 (fun g e => by have := hlow9 g e; omega)
            have hs9 := hg9.size
            have hP9 := ((hP5.later hy5).past hg9 hq).over (p := mp) (i := 1) (by omega) (.slice ao (bs.length + 1) cap)
            have hG9 := grown_new (grown_past (Gt H1.out.2 (Gt hg5 (grown_of hy5))) o2 (fun g e => by have := hlow9 g e; omega)) (p := mp) (i := 1) (by omega) (.slice ao (bs.length + 1) cap)
            have hvn : ∀ g, (Value.slice ao (bs.length + 1) cap).ownBlock = some g → (Value.slice ab bs.length cb).ownBlock = some g ∨ g = (w5.alloc (.cells #[.string (tx a5.1), .slice ap0 np0 cp0, .int .i64 k1, .string nm1, .bool f5, .int .u64 u5, .slice ap1 np1 cp1, .slice ak1 nk1 ck1, .slice ab1 nb1 cb1, .slice aa1 na1 ca1] 36)).heap.size := fun g e => by
              rcases o3 with h | h
              · exact Or.inl (h.symm.trans e)
              · exact Or.inr (Oi (h.symm.trans e)).symm
            have hvl : ∀ g, (Value.slice ao (bs.length + 1) cap).ownBlock = some g → W.heap.size ≤ g := fun g e => by
              rcases hvn g e with h | h
              · exact hlow9 g h
              · omega
            have hO9 := own_o o1 (set_grown w9 mp 1 (.slice ao (bs.length + 1) cap)) (fun g e e2 => by have h1 := hvl g e; have h2 : g = mp := Oi e2; omega)
            have hd9 := own_o (own_o (own_below (own_kept HOd.out (Gt HG1.out hg5) (fun e => by have := hlowd b e; omega)) hy5) o2 (fun g e e2 => HDs.out g e e2.symm)) (set_grown w9 mp 1 (.slice ao (bs.length + 1) cap)) (fun g e e2 => by have h1 := hlowd g e; have h2 : g = mp := Oi e2; omega)
            have hBf := hB9.set 1 (show 1 < 2 by decide) (.slice ao (bs.length + 1) cap)
            have hnw : ∀ g, g ≠ mp → (w9.setCell ⟨mp, 1, none⟩ (.slice ao (bs.length + 1) cap)).heap[g]? = w9.heap[g]? := fun g h => Below.heap_setCell _ _ _ _ (by simp only; omega)
            have hnv : ∀ g, g < w5.heap.size → some g ≠ (Value.slice ab bs.length cb).ownBlock → some g ≠ (Value.slice ao (bs.length + 1) cap).ownBlock := fun g h1 h2 e => by
              rcases hvn g e.symm with h | h
              · exact h2 h.symm
              · omega
            have hfar : ∀ g, w1.heap.size ≤ g → g < w5.heap.size → (W.heap.size ≤ g ∧ some g ≠ (Value.slice ao (bs.length + 1) cap).ownBlock ∧ some g ≠ (Value.slice ad cs.length cd).ownBlock) ∧ (w9.setCell ⟨mp, 1, none⟩ (.slice ao (bs.length + 1) cap)).heap[g]? = w5.heap[g]? := fun g h1 h2 => by
              have hne : some g ≠ (Value.slice ab bs.length cb).ownBlock := fun e => by have := hlt9 g e.symm; omega
              exact ⟨⟨by omega, hnv g h2 hne, fun e => by have := hltd g e.symm; omega⟩, (hnw g (by omega)).trans ((o2.block g (by omega) hne).trans (hy5.block g h2))⟩
            have hX9 : BndsAt (w9.setCell ⟨mp, 1, none⟩ (.slice ao (bs.length + 1) cap)) (fun g => W.heap.size ≤ g ∧ some g ≠ (Value.slice ao (bs.length + 1) cap).ownBlock ∧ some g ≠ (Value.slice ad cs.length cd).ownBlock) (bs ++ [a5]) (cl ++ [.string (tx a5.1), .slice ap0 np0 cp0, .int .i64 k1, .string nm1, .bool f5, .int .u64 u5, .slice ap1 np1 cp1, .slice ak1 nk1 ck1, .slice ab1 nb1 cb1, .slice aa1 na1 ca1]) := by
              refine BndsAt.snoc (HXb.out.move fun g hg lt => ?_) (hrow.move fun g hg lt => hfar g hg lt) (hat.move fun g hg lt => hfar g hg lt)
              have hg1 : W.heap.size ≤ g := hg.1
              exact ⟨⟨hg1, hnv g (by omega) hg.2.1, hg.2.2⟩, (hnw g (by omega)).trans ((o2.block g (by omega) hg.2.1).trans ((hy5.block g (by omega)).trans ((hg5.block g (by omega) (by simp; omega)).trans (HG1.out.block g lt (by simp; omega)))))⟩
            have hd : ∀ g, (Value.slice ad cs.length cd).ownBlock = some g → (Value.slice ao (bs.length + 1) cap).ownBlock ≠ some g := fun g e e2 => by
              rcases hvn g e2 with h | h
              · exact HDs.out g e h
              · have := hltd g e
                omega
            have HND := Hd (dneed_any b T s2 [59] (w9.setCell ⟨mp, 1, none⟩ (.slice ao (bs.length + 1) cap)) hP9)
            have HALL := Hd (Ai hG9 (Ai hO9 (Ai hd9 (Ai hBf (Ai hX9 hd)))))
            have hlo : ∀ g, (Value.slice ao (bs.length + 1) cap).ownBlock = some g → W.heap.size ≤ g := hvl
            clear hP9 hG9 hO9 hd9 hBf hX9 hd hfar hnv hnw hvn hvl
            generalize (w9.setCell ⟨mp, 1, none⟩ (.slice ao (bs.length + 1) cap)) = W10 at *
            refine HND.out.mono ?_
            rintro e w11 ⟨rfl, hP11, hg11⟩
            have H11 := Hd (Ai hP11 hg11)
            clear hP11 hg11
            go_wp2_with fail
            obtain ⟨hG9, hO9, hd9, hBf, hX9, hd⟩ := HALL.out
            obtain ⟨hP11, hg11⟩ := H11.out
            have hfu := HQ.out.1
            have hl1 : mS s2 < mS s' := HLE.out
            have hl2 := need_mn (lastOf 1 T) [59] s2
            have hl3 := HQ.out.2
            refine ⟨⟨needD (lastOf 1 T) [59] s2, cs, bs ++ [a5], .slice ad cs.length cd, (.slice ao (bs.length + 1) cap), cl ++ [.string (tx a5.1), .slice ap0 np0 cp0, .int .i64 k1, .string nm1, .bool f5, .int .u64 u5, .slice ap1 np1 cp1, .slice ak1 nk1 ck1, .slice ab1 nb1 cb1, .slice aa1 na1 ca1], fu', hP11, Gt hG9 hg11, by omega, HN0.out, by simp; omega, boxw_grown hBf hg11 hmb, own_kept hd9 hg11 (fun e => by have := hlowd b e; omega), by simpa using own_kept hO9 hg11 (fun e => by have := hlo b e; omega), ?_, hd⟩, by rw [hP11.m, HS0.out.m]; show mS (needD (lastOf 1 T) [59] s2) < mS s'; omega⟩
            exact hX9.move fun g hg lt => ⟨hg, hg11.block g lt (by have := hg.1; simp; omega)⟩
      · have f1 : decide ((i : Int) < (T.length : Int)) = false := by simp; omega
        have hN := HM.out
        rw [module_no (fun h => h.2 (hr.trans (List.drop_eq_nil_of_le (by omega))))] at hN
        have HN := Hd hN
        have f2 : (s'.e != 0) = false := by simp [ge]
        have HGE := Hd ge
        clear hN hr hi ge
        go_wp2_with fail
        have v0 : ((wr.setCell ⟨w.heap.size, 0, none⟩ (.slice ad cs.length cd)).setCell ⟨w.heap.size, 1, none⟩ (.slice ab bs.length cb)).cell? ⟨w.heap.size, 0, none⟩ = some (.slice ad cs.length cd) := (at_oth _ _ _ _ _ (by decide)).trans (at_sam _ d0)
        have v1 : ((wr.setCell ⟨w.heap.size, 0, none⟩ (.slice ad cs.length cd)).setCell ⟨w.heap.size, 1, none⟩ (.slice ab bs.length cb)).cell? ⟨w.heap.size, 1, none⟩ = some (.slice ab bs.length cb) := at_sam _ ((at_oth _ _ _ _ _ (by decide)).trans d1)
        refine bodyPost_ret (v := .tuple #[.agg #[.slice ad cs.length cd, .slice ab bs.length cb], .int .i64 0, .int .i64 0]) (by simp [results, Try.results23, go_sem, v0, v1]) rfl ?_
        have e0 : s'.e = 0 := HGE.out
        have hrs : w.heap.size < W.heap.size := by omega
        have hfr : ∀ g, W.heap.size ≤ g → ((wr.setCell ⟨w.heap.size, 0, none⟩ (.slice ad cs.length cd)).setCell ⟨w.heap.size, 1, none⟩ (.slice ab bs.length cb)).heap[g]? = wr.heap[g]? := fun g h => (Below.heap_setCell _ _ _ _ (by simp only; omega)).trans (Below.heap_setCell _ _ _ _ (by simp only; omega))
        rw [hRES, ← HN.out]
        refine ⟨⟨.slice ad cs.length cd, .slice ab bs.length cb, by simp [e0], Or.inr ⟨e0, W.heap.size, by omega, ?_, cl, ?_, ?_⟩⟩, ?_⟩
        · exact own_o (own_o HOd.out (set_grown ..) (fun g e e2 => by have := HLd.out g e; have := Oi e2; omega)) (set_grown ..) (fun g e e2 => by have := HLd.out g e; have := Oi e2; omega)
        · exact own_o (own_o HOb.out (set_grown ..) (fun g e e2 => by have := HLb.out g e; have := Oi e2; omega)) (set_grown ..) (fun g e e2 => by have := HLb.out g e; have := Oi e2; omega)
        · exact HXb.out.move fun g hg lt => ⟨hg, hfr g hg.1⟩
        · exact below_pq (below_pq (below_pq HBl.out H0.out.2 (by omega) (by omega)) (set_grown ..) (by omega) Nr) (set_grown ..) (by simp; omega) Nr
    · have f0 : (s'.e == 0) = false := by simp [ge]
      have f2 : (s'.e != 0) = true := by simp [ge]
      have hN := HM.out
      rw [module_no (fun h => ge h.1)] at hN
      have HN := Hd hN
      have HGE := Hd ge
      clear hN hr hi ge
      go_wp2_with fail
      go_region_held3 (fun w' => w'.cell? ⟨b, 2, none⟩ = some (.int .i64 s'.e) ∧ w'.cell? ⟨b, 3, none⟩ = some (.int .i64 s'.ln)) (first | go_keep | exact ⟨(at_far _ _ _ _ _ _ hrb.symm).trans ((at_far _ _ _ _ _ _ hrb.symm).trans c2), (at_far _ _ _ _ _ _ hrb.symm).trans ((at_far _ _ _ _ _ _ hrb.symm).trans c3)⟩) (fail)
      rename_i hHeld
      clear hHeld
      have v0 : ((wr.setCell ⟨w.heap.size, 0, none⟩ (.slice none 0 0)).setCell ⟨w.heap.size, 1, none⟩ (.slice none 0 0)).drew.cell? ⟨w.heap.size, 0, none⟩ = some (.slice none 0 0) := (at_oth _ _ _ _ _ (by decide)).trans (at_sam _ d0)
      have v1 : ((wr.setCell ⟨w.heap.size, 0, none⟩ (.slice none 0 0)).setCell ⟨w.heap.size, 1, none⟩ (.slice none 0 0)).drew.cell? ⟨w.heap.size, 1, none⟩ = some (.slice none 0 0) := at_sam _ ((at_oth _ _ _ _ _ (by decide)).trans d1)
      have HBf := Hd (show Below w.heap.size w ((wr.setCell ⟨w.heap.size, 0, none⟩ (.slice none 0 0)).setCell ⟨w.heap.size, 1, none⟩ (.slice none 0 0)).drew from (below_pq (below_pq (below_pq HBl.out H0.out.2 (by omega) (by omega)) (set_grown ..) (by omega) Nr) (set_grown ..) (by simp; omega) Nr).drew)
      go_wp2_with fail
      refine bodyPost_ret (v := .tuple #[.agg #[.slice none 0 0, .slice none 0 0], .int .i64 s'.e, .int .i64 s'.ln]) (by simp [results, Try.results23, go_sem, v0, v1]) rfl ?_
      have e0 : s'.e ≠ 0 := HGE.out
      rw [hRES, ← HN.out]
      exact ⟨⟨.slice none 0 0, .slice none 0 0, by simp [e0], Or.inl ⟨e0, rfl, rfl⟩⟩, HBf.out⟩
def depsOf (ops : Array Oper) : List (List Nat) := ops.toList.map fun o => (o.after.toList.filter (Region.binds .any)).map (·.on)
def lsOf (base : List Nat) (k : Nat) (idx : Nat → Nat) (n m : Nat) : Bool := base.contains m || (List.range k).any fun j => idx j == m && n.testBit j
def LsOf (base : List Nat) (k : Nat) (idx : Nat → Nat) (len n : Nat) : Array Bool := ((List.range len).map (lsOf base k idx n)).toArray
def chkSome (D : List (List Nat)) (base : List Nat) (k : Nat) (idx zeros : Nat → Nat) (full : Nat) : Bool :=
  D.all (fun d => d.all fun e => decide (e < D.length)) && (List.range k).all (fun j => decide (idx j < D.length)) &&
  (List.range full).all fun n =>
    ((List.range k).any fun j => !lsOf base k idx n (idx j) && ((D[idx j]?).getD []).all (lsOf base k idx n)) &&
    (List.range D.length).all fun i => lsOf base k idx n i || !((D[i]?).getD []).all (lsOf base k idx n) || (List.range k).any fun j => idx j == i && !n.testBit j && decide (n + 2 ^ j ≤ full) && zeros n == zeros (n + 2 ^ j) + 1
def KX (w : World) (m : Nat) (es : List (Sh × Value)) : Prop := w.heap[m]? = some (.map (entries es).toArray es.length)
theorem KX.lt {w : World} {m : Nat} {es : List (Sh × Value)} (h : KX w m es) : m < w.heap.size := by
  rcases Nat.lt_or_ge m w.heap.size with h' | h'
  · exact h'
  · unfold KX at h; rw [Array.getElem?_eq_none h'] at h; cases h
def zeros (k n : Nat) : Nat := ((List.range k).filter fun j => !n.testBit j).length
def IDX8 (j : Nat) : Nat := 4 * j + 5
def BASE8 : List Nat := [0, 1, 2, 3, 4, 6, 7, 8, 10, 11, 12, 14, 15, 16, 18, 19, 20, 22, 23, 24, 26, 27, 28, 30, 31, 32]
def D8 : List (List Nat) := [[], [], [], [], [3], [1, 2, 4], [], [], [7], [1, 6, 8], [], [], [11], [1, 10, 12], [], [], [15], [1, 14, 16], [], [], [19], [1, 18, 20], [], [], [23], [1, 22, 24], [], [], [27], [1, 26, 28], [], [], [31], [1, 30, 32], [1, 2, 3, 4, 5, 6, 7, 8, 9, 10, 11, 12, 13, 14, 15, 16, 17, 18, 19, 20, 21, 22, 23, 24, 25, 26, 27, 28, 29, 30, 31, 32, 33], [0, 0, 1, 2, 3, 4, 5, 6, 7, 8, 9, 10, 11, 12, 13, 14, 15, 16, 17, 18, 19, 20, 21, 22, 23, 24, 25, 26, 27, 28, 29, 30, 31, 32, 33, 34], [35, 0, 1, 2, 3, 4, 5, 6, 7, 8, 9, 10, 11, 12, 13, 14, 15, 16, 17, 18, 19, 20, 21, 22, 23, 24, 25, 26, 27, 28, 29, 30, 31, 32, 33, 34], [36, 34, 0, 1, 2, 3, 4, 5, 6, 7, 8, 9, 10, 11, 12, 13, 14, 15, 16, 17, 18, 19, 20, 21, 22, 23, 24, 25, 26, 27, 28, 29, 30, 31, 32, 33, 34]]
def L8 (n : Nat) : Array Bool := LsOf BASE8 8 IDX8 D8.length n
def IDX9 : Nat → Nat
  | 0 => 1 | 1 => 4 | 2 => 5 | 3 => 8 | 4 => 9 | 5 => 13 | 6 => 16 | 7 => 17 | 8 => 21 | n => n + 100
def BASE9 : List Nat := [0, 2, 3, 6, 7, 10, 11, 12, 14, 15, 18, 19, 20]
def D9 : List (List Nat) := [[], [], [], [], [3], [1, 2, 4], [], [], [7, 4], [1, 6, 8], [], [], [11], [1, 10, 12], [], [], [15, 8], [1, 14, 16], [], [], [19], [1, 18, 20], [1, 2, 3, 4, 5, 6, 7, 8, 9, 10, 11, 12, 13, 14, 15, 16, 17, 18, 19, 20, 21], [0, 0, 1, 2, 3, 4, 5, 6, 7, 8, 9, 10, 11, 12, 13, 14, 15, 16, 17, 18, 19, 20, 21, 22], [23, 0, 1, 2, 3, 4, 5, 6, 7, 8, 9, 10, 11, 12, 13, 14, 15, 16, 17, 18, 19, 20, 21, 22], [24, 22, 16, 0, 1, 2, 3, 4, 5, 6, 7, 8, 9, 10, 11, 12, 13, 14, 15, 16, 17, 18, 19, 20, 21, 22]]
def L9 (n : Nat) : Array Bool := LsOf BASE9 9 IDX9 D9.length n
def F4 (a : Act) (d0 d1 d2 d3 : Nat) (v0 v1 v2 v3 : Value) : Act := (((a.put (some d0) v0).put (some d1) v1).put (some d2) v2).put (some d3) v3
end Go.Proofs.Ytdjcdecbmeickaa
namespace Go.Proofs.Ytdjcdecbmeickaa
set_option maxHeartbeats 64000000
set_option maxRecDepth 100000
open Go.RowKit
open Go.Lib (NumEnd parseIntB itoa)
def printL (f : Bool) (x : Int) : List UInt8 := if f = true then fltL x.toNat else itoa (wrap64 x)
theorem U_range (v : Int) : 0 ≤ U v ∧ U v < 18446744073709551616 := by rw [U_eq]; omega
theorem back (l : List UInt8) (b : Bool) (y : Int) (h : parseL l = (b, y, 0)) : 0 ≤ y ∧ y < 18446744073709551616 ∧ printL b y = l := by
  unfold parseL at h
  split at h
  · rename_i hp
    split at h
    · rename_i hx
      simp only [Prod.mk.injEq] at h
      obtain ⟨rfl, rfl, _⟩ := h
      obtain ⟨e1, e2⟩ := hex_back (l.drop 2) hx.1 hx.2
      refine ⟨by omega, by omega, ?_⟩
      show fltL ((hexN 0 (l.drop 2) : Nat) : Int).toNat = l
      rw [Int.toNat_natCast, e2]
      have hp' : List.isPrefixOf [48, 102] l = true := hp
      obtain ⟨t, ht⟩ := List.isPrefixOf_iff_prefix.1 hp'
      rw [← ht]; rfl
    · simp at h
  · split at h
    · rename_i hf
      cases hv : parseIntB 64 l with
      | ok v =>
        rw [hv] at h
        simp only [Prod.mk.injEq] at h
        obtain ⟨rfl, rfl, _⟩ := h
        obtain ⟨b1, b2⟩ := Lib.parseIntB_bounds hv
        refine ⟨(U_range v).1, (U_range v).2, ?_⟩
        show itoa (wrap64 (U v)) = l
        rw [wrap64_U v ⟨by simpa using b1, by have := b2; simp at this; omega⟩]
        exact int_back l v hf hv
      | range => rw [hv] at h; simp at h
      | _ => rw [hv] at h; simp at h
    · simp at h
end Go.Proofs.Ytdjcdecbmeickaa
namespace Go.Proofs.Ytdjcdecbmeickaa
set_option maxHeartbeats 64000000
set_option maxRecDepth 100000
open Go.RowKit Go.Lib
def Box3 (w : World) (p0 p1 p2 : Nat) (vc vb : Value) (er ln : Int) : Prop :=
  w.cell? ⟨p0, 0, none⟩ = some vc ∧ w.cell? ⟨p0, 1, none⟩ = some vb ∧ w.cell? ⟨p1, 0, none⟩ = some (.int .i64 er) ∧ w.cell? ⟨p2, 0, none⟩ = some (.int .i64 ln) ∧ w.frozen? ⟨p0, 0, none⟩ = false ∧ w.frozen? ⟨p0, 1, none⟩ = false ∧ w.frozen? ⟨p1, 0, none⟩ = false ∧ w.frozen? ⟨p2, 0, none⟩ = false
theorem numT_x (t : List UInt8) : 0 ≤ (numT t).1.x := by
  unfold numT
  split
  · rename_i h
    exact (back (trimPrefix t [35]) (parseL (trimPrefix t [35])).1 (parseL (trimPrefix t [35])).2.1 (by rw [← h])).1
  · exact Int.le_refl 0
theorem readL_x (l : List UInt8) : 0 ≤ (readL l).1.x := by
  unfold readL readR
  repeat' split
  all_goals first | exact numT_x _ | exact Int.le_refl 0
theorem lexL_x {l : List UInt8} {T : List Tok} (h : lexL l = .good T) : ∀ y, y ∈ T → 0 ≤ y.1.x := by
  intro y hy
  obtain ⟨c, r, h1, _, _, _, h5⟩ := (lexL_own h).1 y hy
  have := readL_x y.1.t
  rw [h5] at this
  exact this
theorem ShAt.b {w : World} {g b : Nat} {s : Sh} (h : ShAt w g s) (hb : w.heap.size ≤ b) : ShB w b g s := ⟨h, fun e => by have : g < w.heap.size := Bl h.1; omega⟩
theorem RestIn.of_own {W : World} {base : Nat} {a : Option Addr} {c : Nat} {T : List Tok} (h : W.ownsRow base 77 5 (.slice a T.length c) T.length (flatT T)) {b : Nat} (hb : W.heap.size ≤ b) : RestIn W b (.slice a T.length c) T := by
  have hc : T.length ≤ c ∧ c ≤ maxLen := by
    rcases h.2 with ⟨e, e2⟩ | ⟨g, cap, cur, e, hg, hb, h1, h2, -⟩
    · obtain ⟨-, q1, q2⟩ := Value.slice.inj e; exact ⟨by omega, by unfold maxLen; omega⟩
    · obtain ⟨-, q1, q2⟩ := Value.slice.inj e; exact ⟨by omega, by omega⟩
  refine ⟨a, c, rfl, hc.1, hc.2, ?_⟩
  cases T with
  | nil => exact Or.inl rfl
  | cons y r =>
    obtain ⟨g, rfl, h0⟩ := own_tok h (j := 0) (by simp)
    have hg : g < W.heap.size := Bl h0.c0
    refine Or.inr ⟨g, 0, rfl, by omega, fun i hi => ?_⟩
    obtain ⟨g', e, hi'⟩ := own_tok h hi
    cases e
    simp only [Nat.zero_add]
    exact ⟨hi'.c0, hi'.c1, hi'.c2, hi'.c3, hi'.c4⟩
theorem lexL_tvs {l : List UInt8} {T : List Tok} (h : lexL l = .good T) : Tvs T := fun y hy => ((lexL_ok h).ok y hy).2
def modL (l : List UInt8) : Out Md :=
  match lexL l with
  | .good T => parseO T
  | .bad k line => .bad k line
def ParsedV (lo : Nat) (o : Out Md) (e : Ending) (w : World) : Prop :=
  match o with
  | .ok md _ _ => ∃ vc vb xb, e = .returned (.tuple #[.agg #[vc, vb], .int .i64 0, .int .i64 0]) ∧ w.ownsRow lo 66 2 vc md.1.length (declV md.1) ∧ w.ownsRow lo 36 10 vb md.2.length xb ∧ BndsAt w (fun g => lo ≤ g) md.2 xb
  | .bad er ln => er ≠ 0 ∧ e = .returned (.tuple #[.agg #[.slice none 0 0, .slice none 0 0], .int .i64 er, .int .i64 ln])
theorem Box3.below {w w' : World} {p0 : Nat} {vc vb : Value} {er ln : Int} (h : Box3 w p0 (p0 + 1) (p0 + 2) vc vb er ln) (hb : Below w.heap.size w w') : Box3 w' p0 (p0 + 1) (p0 + 2) vc vb er ln := by
  obtain ⟨h0, h1, h2, h3, z0, z1, z2, z3⟩ := h
  have l0 := Bl h0
  have l2 := Bl h2
  have l3 := Bl h3
  simp only at l0 l2 l3
  exact ⟨later' hb h0, later' hb h1, later' hb h2, later' hb h3, (World.frozen?_of_block (w := w) (hb.block _ l0)).trans z0, (World.frozen?_of_block (w := w) (hb.block _ l0)).trans z1, (World.frozen?_of_block (w := w) (hb.block _ l2)).trans z2, (World.frozen?_of_block (w := w) (hb.block _ l3)).trans z3⟩
theorem capital_any (c : UInt8) (w : World) : Calls Try.prog 45 #[.int .u8 c.toNat] w fun e w' => e = .returned (.bool (decide (65 ≤ c.toNat ∧ c.toNat ≤ 90))) ∧ Below w.heap.size w w' := by
  by_cases g1 : 65 ≤ c.toNat
  · have f1 : decide ((65 : Int) ≤ (c.toNat : Int)) = true := decide_eq_true (by omega)
    by_cases g2 : c.toNat ≤ 90
    · have f2 : decide ((c.toNat : Int) ≤ (90 : Int)) = true := decide_eq_true (by omega)
      rw [decide_eq_true (show 65 ≤ c.toNat ∧ c.toNat ≤ 90 from ⟨g1, g2⟩)]
      go_enter Try.func45, Try.ntmps45
      go_wp2_with fail
      go_ret
      exact ⟨rfl, Below.refl _ _⟩
    · have f2 : decide ((c.toNat : Int) ≤ (90 : Int)) = false := decide_eq_false (by omega)
      rw [decide_eq_false (show ¬ (65 ≤ c.toNat ∧ c.toNat ≤ 90) from fun h => g2 h.2)]
      go_enter Try.func45, Try.ntmps45
      go_wp2_with fail
      go_ret
      exact ⟨rfl, Below.refl _ _⟩
  · have f1 : decide ((65 : Int) ≤ (c.toNat : Int)) = false := decide_eq_false (by omega)
    rw [decide_eq_false (show ¬ (65 ≤ c.toNat ∧ c.toNat ≤ 90) from fun h => g1 h.1)]
    go_enter Try.func45, Try.ntmps45
    go_wp2_with fail
    go_ret
    exact ⟨rfl, Below.refl _ _⟩
def refK (l : List UInt8) (c : UInt8) : Int := (wordF l).getD (if 65 ≤ c.toNat ∧ c.toNat ≤ 90 then 2 else 1)
theorem words10 (l : List UInt8) : l = [108, 101, 116] ∨ l = [105, 110] ∨ l = [99, 97, 115, 101] ∨ l = [111, 102] ∨ l = [100, 97, 116, 97] ∨ l = [119, 101, 97, 107] ∨ l = [100, 101, 114, 101, 102] ∨ l = [115, 101, 113] ∨ l = [102, 108, 111, 97, 116] ∨ l = [116, 114, 117, 110, 99] ∨ (l ≠ [108, 101, 116] ∧ l ≠ [105, 110] ∧ l ≠ [99, 97, 115, 101] ∧ l ≠ [111, 102] ∧ l ≠ [100, 97, 116, 97] ∧ l ≠ [119, 101, 97, 107] ∧ l ≠ [100, 101, 114, 101, 102] ∧ l ≠ [115, 101, 113] ∧ l ≠ [102, 108, 111, 97, 116] ∧ l ≠ [116, 114, 117, 110, 99]) := by
  by_cases h0 : l = [108, 101, 116]
  · exact Or.inl h0
  by_cases h1 : l = [105, 110]
  · exact Or.inr (Or.inl h1)
  by_cases h2 : l = [99, 97, 115, 101]
  · exact Or.inr (Or.inr (Or.inl h2))
  by_cases h3 : l = [111, 102]
  · exact Or.inr (Or.inr (Or.inr (Or.inl h3)))
  by_cases h4 : l = [100, 97, 116, 97]
  · exact Or.inr (Or.inr (Or.inr (Or.inr (Or.inl h4))))
  by_cases h5 : l = [119, 101, 97, 107]
  · exact Or.inr (Or.inr (Or.inr (Or.inr (Or.inr (Or.inl h5)))))
  by_cases h6 : l = [100, 101, 114, 101, 102]
  · exact Or.inr (Or.inr (Or.inr (Or.inr (Or.inr (Or.inr (Or.inl h6))))))
  by_cases h7 : l = [115, 101, 113]
  · exact Or.inr (Or.inr (Or.inr (Or.inr (Or.inr (Or.inr (Or.inr (Or.inl h7)))))))
  by_cases h8 : l = [102, 108, 111, 97, 116]
  · exact Or.inr (Or.inr (Or.inr (Or.inr (Or.inr (Or.inr (Or.inr (Or.inr (Or.inl h8))))))))
  by_cases h9 : l = [116, 114, 117, 110, 99]
  · exact Or.inr (Or.inr (Or.inr (Or.inr (Or.inr (Or.inr (Or.inr (Or.inr (Or.inr (Or.inl h9)))))))))
  exact Or.inr (Or.inr (Or.inr (Or.inr (Or.inr (Or.inr (Or.inr (Or.inr (Or.inr (Or.inr (⟨h0, h1, h2, h3, h4, h5, h6, h7, h8, h9⟩))))))))))
theorem kind_any (s : ByteArray) (c : UInt8) (t : List UInt8) (hs : s.data.toList = c :: t) (w : World) : Calls Try.prog 47 #[.string s] w fun e w' => e = .returned (.int .i64 (refK (c :: t) c)) ∧ Below w.heap.size w w' := by
  have e0 : s.toList = c :: t := by rw [ByteArray.toList_eq, hs]
  have hz : 0 < s.size := by rw [size_eq, hs]; simp
  have hx : s[0]'hz = c := by
    have e : s[0]'hz = s.data.toList[0]'(by rw [hs]; simp) := rfl
    rw [e]
    simp only [hs, List.getElem_cons_zero]
  obtain ⟨r, hr⟩ : ∃ r, refK (c :: t) c = r := ⟨_, rfl⟩
  rw [hr]
  rcases words10 (c :: t) with h | h | h | h | h | h | h | h | h | h | h
  · have b0 : (s.toList == [108, 101, 116]) = true := by rw [e0, h]; decide
    have hk : r = 5 := by
      rw [← hr, h]
      rfl
    subst hk
    clear hx hr h e0 hs hz
    go_enter Try.func47, Try.ntmps47
    go_wp2_with fail
    go_ret
    exact ⟨rfl, Below.refl _ _⟩
  · have b0 : (s.toList == [108, 101, 116]) = false := by rw [e0, h]; decide
    have b1 : (s.toList == [105, 110]) = true := by rw [e0, h]; decide
    have hk : r = 5 := by
      rw [← hr, h]
      rfl
    subst hk
    clear hx hr h e0 hs hz
    go_enter Try.func47, Try.ntmps47
    go_wp2_with fail
    go_ret
    exact ⟨rfl, Below.refl _ _⟩
  · have b0 : (s.toList == [108, 101, 116]) = false := by rw [e0, h]; decide
    have b1 : (s.toList == [105, 110]) = false := by rw [e0, h]; decide
    have b2 : (s.toList == [99, 97, 115, 101]) = true := by rw [e0, h]; decide
    have hk : r = 5 := by
      rw [← hr, h]
      rfl
    subst hk
    clear hx hr h e0 hs hz
    go_enter Try.func47, Try.ntmps47
    go_wp2_with fail
    go_ret
    exact ⟨rfl, Below.refl _ _⟩
  · have b0 : (s.toList == [108, 101, 116]) = false := by rw [e0, h]; decide
    have b1 : (s.toList == [105, 110]) = false := by rw [e0, h]; decide
    have b2 : (s.toList == [99, 97, 115, 101]) = false := by rw [e0, h]; decide
    have b3 : (s.toList == [111, 102]) = true := by rw [e0, h]; decide
    have hk : r = 5 := by
      rw [← hr, h]
      rfl
    subst hk
    clear hx hr h e0 hs hz
    go_enter Try.func47, Try.ntmps47
    go_wp2_with fail
    go_ret
    exact ⟨rfl, Below.refl _ _⟩
  · have b0 : (s.toList == [108, 101, 116]) = false := by rw [e0, h]; decide
    have b1 : (s.toList == [105, 110]) = false := by rw [e0, h]; decide
    have b2 : (s.toList == [99, 97, 115, 101]) = false := by rw [e0, h]; decide
    have b3 : (s.toList == [111, 102]) = false := by rw [e0, h]; decide
    have b4 : (s.toList == [100, 97, 116, 97]) = true := by rw [e0, h]; decide
    have hk : r = 5 := by
      rw [← hr, h]
      rfl
    subst hk
    clear hx hr h e0 hs hz
    go_enter Try.func47, Try.ntmps47
    go_wp2_with fail
    go_ret
    exact ⟨rfl, Below.refl _ _⟩
  · have b0 : (s.toList == [108, 101, 116]) = false := by rw [e0, h]; decide
    have b1 : (s.toList == [105, 110]) = false := by rw [e0, h]; decide
    have b2 : (s.toList == [99, 97, 115, 101]) = false := by rw [e0, h]; decide
    have b3 : (s.toList == [111, 102]) = false := by rw [e0, h]; decide
    have b4 : (s.toList == [100, 97, 116, 97]) = false := by rw [e0, h]; decide
    have b5 : (s.toList == [119, 101, 97, 107]) = true := by rw [e0, h]; decide
    have hk : r = 7 := by
      rw [← hr, h]
      rfl
    subst hk
    clear hx hr h e0 hs hz
    go_enter Try.func47, Try.ntmps47
    go_wp2_with fail
    go_ret
    exact ⟨rfl, Below.refl _ _⟩
  · have b0 : (s.toList == [108, 101, 116]) = false := by rw [e0, h]; decide
    have b1 : (s.toList == [105, 110]) = false := by rw [e0, h]; decide
    have b2 : (s.toList == [99, 97, 115, 101]) = false := by rw [e0, h]; decide
    have b3 : (s.toList == [111, 102]) = false := by rw [e0, h]; decide
    have b4 : (s.toList == [100, 97, 116, 97]) = false := by rw [e0, h]; decide
    have b5 : (s.toList == [119, 101, 97, 107]) = false := by rw [e0, h]; decide
    have b6 : (s.toList == [100, 101, 114, 101, 102]) = true := by rw [e0, h]; decide
    have hk : r = 7 := by
      rw [← hr, h]
      rfl
    subst hk
    clear hx hr h e0 hs hz
    go_enter Try.func47, Try.ntmps47
    go_wp2_with fail
    go_ret
    exact ⟨rfl, Below.refl _ _⟩
  · have b0 : (s.toList == [108, 101, 116]) = false := by rw [e0, h]; decide
    have b1 : (s.toList == [105, 110]) = false := by rw [e0, h]; decide
    have b2 : (s.toList == [99, 97, 115, 101]) = false := by rw [e0, h]; decide
    have b3 : (s.toList == [111, 102]) = false := by rw [e0, h]; decide
    have b4 : (s.toList == [100, 97, 116, 97]) = false := by rw [e0, h]; decide
    have b5 : (s.toList == [119, 101, 97, 107]) = false := by rw [e0, h]; decide
    have b6 : (s.toList == [100, 101, 114, 101, 102]) = false := by rw [e0, h]; decide
    have b7 : (s.toList == [115, 101, 113]) = true := by rw [e0, h]; decide
    have hk : r = 7 := by
      rw [← hr, h]
      rfl
    subst hk
    clear hx hr h e0 hs hz
    go_enter Try.func47, Try.ntmps47
    go_wp2_with fail
    go_ret
    exact ⟨rfl, Below.refl _ _⟩
  · have b0 : (s.toList == [108, 101, 116]) = false := by rw [e0, h]; decide
    have b1 : (s.toList == [105, 110]) = false := by rw [e0, h]; decide
    have b2 : (s.toList == [99, 97, 115, 101]) = false := by rw [e0, h]; decide
    have b3 : (s.toList == [111, 102]) = false := by rw [e0, h]; decide
    have b4 : (s.toList == [100, 97, 116, 97]) = false := by rw [e0, h]; decide
    have b5 : (s.toList == [119, 101, 97, 107]) = false := by rw [e0, h]; decide
    have b6 : (s.toList == [100, 101, 114, 101, 102]) = false := by rw [e0, h]; decide
    have b7 : (s.toList == [115, 101, 113]) = false := by rw [e0, h]; decide
    have b8 : (s.toList == [102, 108, 111, 97, 116]) = true := by rw [e0, h]; decide
    have hk : r = 7 := by
      rw [← hr, h]
      rfl
    subst hk
    clear hx hr h e0 hs hz
    go_enter Try.func47, Try.ntmps47
    go_wp2_with fail
    go_ret
    exact ⟨rfl, Below.refl _ _⟩
  · have b0 : (s.toList == [108, 101, 116]) = false := by rw [e0, h]; decide
    have b1 : (s.toList == [105, 110]) = false := by rw [e0, h]; decide
    have b2 : (s.toList == [99, 97, 115, 101]) = false := by rw [e0, h]; decide
    have b3 : (s.toList == [111, 102]) = false := by rw [e0, h]; decide
    have b4 : (s.toList == [100, 97, 116, 97]) = false := by rw [e0, h]; decide
    have b5 : (s.toList == [119, 101, 97, 107]) = false := by rw [e0, h]; decide
    have b6 : (s.toList == [100, 101, 114, 101, 102]) = false := by rw [e0, h]; decide
    have b7 : (s.toList == [115, 101, 113]) = false := by rw [e0, h]; decide
    have b8 : (s.toList == [102, 108, 111, 97, 116]) = false := by rw [e0, h]; decide
    have b9 : (s.toList == [116, 114, 117, 110, 99]) = true := by rw [e0, h]; decide
    have hk : r = 7 := by
      rw [← hr, h]
      rfl
    subst hk
    clear hx hr h e0 hs hz
    go_enter Try.func47, Try.ntmps47
    go_wp2_with fail
    go_ret
    exact ⟨rfl, Below.refl _ _⟩
  · have b0 : (s.toList == [108, 101, 116]) = false := by rw [e0]; exact beq_false_of_ne h.1
    have b1 : (s.toList == [105, 110]) = false := by rw [e0]; exact beq_false_of_ne h.2.1
    have b2 : (s.toList == [99, 97, 115, 101]) = false := by rw [e0]; exact beq_false_of_ne h.2.2.1
    have b3 : (s.toList == [111, 102]) = false := by rw [e0]; exact beq_false_of_ne h.2.2.2.1
    have b4 : (s.toList == [100, 97, 116, 97]) = false := by rw [e0]; exact beq_false_of_ne h.2.2.2.2.1
    have b5 : (s.toList == [119, 101, 97, 107]) = false := by rw [e0]; exact beq_false_of_ne h.2.2.2.2.2.1
    have b6 : (s.toList == [100, 101, 114, 101, 102]) = false := by rw [e0]; exact beq_false_of_ne h.2.2.2.2.2.2.1
    have b7 : (s.toList == [115, 101, 113]) = false := by rw [e0]; exact beq_false_of_ne h.2.2.2.2.2.2.2.1
    have b8 : (s.toList == [102, 108, 111, 97, 116]) = false := by rw [e0]; exact beq_false_of_ne h.2.2.2.2.2.2.2.2.1
    have b9 : (s.toList == [116, 114, 117, 110, 99]) = false := by rw [e0]; exact beq_false_of_ne h.2.2.2.2.2.2.2.2.2
    have hk : r = if 65 ≤ c.toNat ∧ c.toNat ≤ 90 then 2 else 1 := by
      rw [← hr]
      have hw : wordF (c :: t) = none := by
        unfold wordF kput
        simp only [h.1, h.2.1, h.2.2.1, h.2.2.2.1, h.2.2.2.2.1, h.2.2.2.2.2.1, h.2.2.2.2.2.2.1, h.2.2.2.2.2.2.2.1, h.2.2.2.2.2.2.2.2.1, h.2.2.2.2.2.2.2.2.2, if_false]
      unfold refK
      rw [hw]
      rfl
    subst hk
    clear hr h e0 hs
    by_cases g : 65 ≤ c.toNat ∧ c.toNat ≤ 90
    · rw [if_pos g]
      go_enter Try.func47, Try.ntmps47
      go_wp2_with fail
      refine (capital_any c _).mono ?_
      rw [decide_eq_true g]
      rintro e w2 ⟨rfl, hb⟩
      go_wp2_with fail
      go_ret
      exact ⟨rfl, hb⟩
    · rw [if_neg g]
      go_enter Try.func47, Try.ntmps47
      go_wp2_with fail
      refine (capital_any c _).mono ?_
      rw [decide_eq_false g]
      rintro e w2 ⟨rfl, hb⟩
      go_wp2_with fail
      go_ret
      exact ⟨rfl, hb⟩
end Go.Proofs.Ytdjcdecbmeickaa
