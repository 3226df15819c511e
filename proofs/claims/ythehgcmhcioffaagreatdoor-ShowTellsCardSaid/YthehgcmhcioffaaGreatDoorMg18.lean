import Derived.Deep.RegionHeld
import Derived.Defers
import Derived.Recover
import Derived.Deep.QuietTactic
import Derived.BigQuiet
import Derived.Test.YthehgcmhcioffaaGreatDoorMg2
import Derived.Test.YthehgcmhcioffaaGreatDoorMg4
import Derived.Test.YthehgcmhcioffaaGreatDoorMg7
import Derived.Test.YthehgcmhcioffaaGreatDoorMg17
namespace Go.Proofs.YthehgcmhcioffaaGreatDoor
set_option maxHeartbeats 64000000
set_option maxRecDepth 100000
open Go.RowKit Go.Lib
theorem module_data {ll : Int} {fu : Nat} {cs : List (Nm × Int)} {bs : List Bnd} {s : St} (he : s.e = 0) (hr : s.r ≠ []) (h : seesL [100, 97, 116, 97] s.r = true) : moduleD ll (fu + 1) cs bs s = moduleD ll fu (cs ++ (dataD ll s.next).1) bs (dataD ll s.next).2 := by
  conv => lhs; unfold moduleD
  rw [if_pos ⟨he, hr⟩, if_pos h]
theorem module_bind {ll : Int} {fu : Nat} {cs : List (Nm × Int)} {bs : List Bnd} {s : St} (he : s.e = 0) (hr : s.r ≠ []) (h : ¬ seesL [100, 97, 116, 97] s.r = true) : moduleD ll (fu + 1) cs bs s = moduleD ll fu cs (bs ++ [(bindD ll (exprD ll 200) s).1]) (needD ll [59] (bindD ll (exprD ll 200) s).2) := by
  conv => lhs; unfold moduleD
  rw [if_pos ⟨he, hr⟩, if_neg h]
theorem module_no {ll : Int} {fu : Nat} {cs : List (Nm × Int)} {bs : List Bnd} {s : St} (h : ¬ (s.e = 0 ∧ s.r ≠ [])) : moduleD ll fu cs bs s = ((cs, bs), s) := by
  cases fu with
  | zero => rfl
  | succ fu =>
    conv => lhs; unfold moduleD
    exact if_neg h
theorem rest_widen {w w' : World} {b b' : Nat} {v : Value} {rest : List Tok} (h : RestIn w b v rest) (hb : b ≤ b') (hk : ∀ g, g < b → w'.heap[g]? = w.heap[g]?) : RestIn w' b' v rest := by
  obtain ⟨a, c, e, h1, h2, h3⟩ := h
  refine ⟨a, c, e, h1, h2, ?_⟩
  rcases h3 with h3 | ⟨g, o, e2, hg, ht⟩
  · exact Or.inl h3
  · refine Or.inr ⟨g, o, e2, Nat.lt_of_lt_of_le hg hb, fun j hj => ?_⟩
    obtain ⟨t0, t1, t2, t3, t4⟩ := ht j hj
    have k := hk g hg
    exact ⟨(World.cell?_of_block (a := ⟨g, _, none⟩) k).trans t0, (World.cell?_of_block (a := ⟨g, _, none⟩) k).trans t1, (World.cell?_of_block (a := ⟨g, _, none⟩) k).trans t2, (World.cell?_of_block (a := ⟨g, _, none⟩) k).trans t3, (World.cell?_of_block (a := ⟨g, _, none⟩) k).trans t4⟩
theorem below_pq {n q : Nat} {a b c : World} (h : Below n a b) (hg : b.grownBy c (some q)) (hn : n ≤ b.heap.size) (hq : n ≤ q) : Below n a c :=
  ⟨hg.os.trans h.os, hg.tape.trans h.tape, hg.output.trans h.output, Nt h.size hg.size, fun k hk => (hg.block k (by omega) (by simp; omega)).trans (h.block k hk)⟩
theorem data_len (ll : Int) (s : St) : (dataD ll s).1.length + mS (dataD ll s).2 ≤ mS s := by
  have h1 := declsd_len ll (s.r.length + 1) [] s
  have h2 := need_mn ll [59] (declsD ll (s.r.length + 1) [] s).2
  show (declsD ll (s.r.length + 1) [] s).1.length + mS (needD ll [59] (declsD ll (s.r.length + 1) [] s).2) ≤ mS s
  simp only [List.length_nil] at h1
  omega
theorem nxt_lt {s : St} (he : s.e = 0) (hr : s.r ≠ []) : mS s.next < mS s := by
  have := List.length_pos_iff.2 hr
  unfold mS St.next
  simp only [he, if_true, List.length_tail]
  omega
def TokensV (lo : Nat) (o : Md × St) (e : Ending) (w' : World) : Prop :=
  ∃ vd vb, e = .returned (.tuple #[.agg #[vd, vb], .int .i64 o.2.e, .int .i64 (if o.2.e = 0 then 0 else o.2.ln)]) ∧
    (o.2.e ≠ 0 ∧ vd = .slice none 0 0 ∧ vb = .slice none 0 0 ∨ o.2.e = 0 ∧ ∃ B, lo ≤ B ∧ w'.ownsRow B 69 2 vd o.1.1.length (declV o.1.1) ∧ ∃ cs, w'.ownsRow B 39 10 vb o.1.2.length cs ∧ BndsAt w' (fun g => B ≤ g ∧ some g ≠ vb.ownBlock ∧ some g ≠ vd.ownBlock) o.1.2 cs)
theorem dtokens_any (T : List Tok) (hx : ∀ y, y ∈ T → 0 ≤ y.1.x) (hn : T.length ≤ 100000) (w : World) (a : Option Addr) (c : Nat) (hin : RestIn w w.heap.size (.slice a T.length c) T) : Calls Tryz.prog 35 #[.slice a T.length c] w (fun e w' => TokensV w.heap.size (moduleD (lastOf 1 T) (T.length + 1) [] [] ⟨T, 0, 0⟩) e w' ∧ Below w.heap.size w w') := by
  have HX := Hd hx
  have HIn := Hd hin
  have hx1 := (Below.refl w.heap.size w).alloc Nr (.cells #[.slice none 0 0, .slice none 0 0] 26)
  have hx2 := hx1.alloc (by simp) (.cells #[.slice a T.length c, .int .i64 0, .int .i64 0, .int .i64 0] 113)
  have hx3 := hx2.alloc (by simp; omega) (.cells #[.slice none 0 0, .slice none 0 0] 26)
  have hy3 := (Below.refl ((w.alloc (.cells #[.slice none 0 0, .slice none 0 0] 26)).alloc (.cells #[.slice a T.length c, .int .i64 0, .int .i64 0, .int .i64 0] 113)).heap.size ((w.alloc (.cells #[.slice none 0 0, .slice none 0 0] 26)).alloc (.cells #[.slice a T.length c, .int .i64 0, .int .i64 0, .int .i64 0] 113))).alloc Nr (.cells #[.slice none 0 0, .slice none 0 0] 26)
  have HPB := Hd (show BoxW (((w.alloc (.cells #[.slice none 0 0, .slice none 0 0] 26)).alloc (.cells #[.slice a T.length c, .int .i64 0, .int .i64 0, .int .i64 0] 113)).alloc (.cells #[.slice none 0 0, .slice none 0 0] 26)) (w.heap.size + 1) [.slice a T.length c, .int .i64 0, .int .i64 0, .int .i64 0] by have h := (BoxW.alloc (w.alloc (.cells #[.slice none 0 0, .slice none 0 0] 26)) #[.slice a T.length c, .int .i64 0, .int .i64 0, .int .i64 0] 113).below hy3; simpa using h)
  have HMB := Hd (show BoxW (((w.alloc (.cells #[.slice none 0 0, .slice none 0 0] 26)).alloc (.cells #[.slice a T.length c, .int .i64 0, .int .i64 0, .int .i64 0] 113)).alloc (.cells #[.slice none 0 0, .slice none 0 0] 26)) (w.heap.size + 1 + 1) [.slice none 0 0, .slice none 0 0] by have h := BoxW.alloc ((w.alloc (.cells #[.slice none 0 0, .slice none 0 0] 26)).alloc (.cells #[.slice a T.length c, .int .i64 0, .int .i64 0, .int .i64 0] 113)) #[.slice none 0 0, .slice none 0 0] 26; simpa using h)
  have HRB := Hd (show BoxW ((w.alloc (.cells #[.slice none 0 0, .slice none 0 0] 26)).alloc (.cells #[.slice a T.length c, .int .i64 0, .int .i64 0, .int .i64 0] 113)) w.heap.size [.slice none 0 0, .slice none 0 0] from ((BoxW.alloc w #[.slice none 0 0, .slice none 0 0] 26).below (Br.alloc Nr (.cells #[.slice a T.length c, .int .i64 0, .int .i64 0, .int .i64 0] 113))))
  have HGm := Hd (grown_of (b := w.heap.size + 1) hy3)
  have HZm := Hd (show ((w.alloc (.cells #[.slice none 0 0, .slice none 0 0] 26)).alloc (.cells #[.slice a T.length c, .int .i64 0, .int .i64 0, .int .i64 0] 113)).heap.size = w.heap.size + 2 by simp)
  have HP0 := Hd (show PAt (((w.alloc (.cells #[.slice none 0 0, .slice none 0 0] 26)).alloc (.cells #[.slice a T.length c, .int .i64 0, .int .i64 0, .int .i64 0] 113)).alloc (.cells #[.slice none 0 0, .slice none 0 0] 26)) (w.heap.size + 1) T ⟨T, 0, 0⟩ from ⟨⟨_, HPB.out.1 0 _ rfl, (rest_widen HIn.out (Nat.le_succ _) fun g hg => hx3.block g hg)⟩, ⟨0, Nat.zero_le _, rfl, HPB.out.1 1 _ rfl⟩, HPB.out.1 2 _ rfl, HPB.out.1 3 _ rfl, HPB.out.2, hn⟩)
  have HBl := Hd hx2
  have HZL := Hd (show (((w.alloc (.cells #[.slice none 0 0, .slice none 0 0] 26)).alloc (.cells #[.slice a T.length c, .int .i64 0, .int .i64 0, .int .i64 0] 113)).alloc (.cells #[.slice none 0 0, .slice none 0 0] 26)).heap.size = w.heap.size + 3 by simp)
  clear hx hin hx1 hx2 hx3 hy3 HPB
  go_enter Tryz.func35, Tryz.ntmps35
  go_wp2_with fail
  generalize (((w.alloc (.cells #[.slice none 0 0, .slice none 0 0] 26)).alloc (.cells #[.slice a T.length c, .int .i64 0, .int .i64 0, .int .i64 0] 113)).alloc (.cells #[.slice none 0 0, .slice none 0 0] 26)) = W at *
  generalize ((w.alloc (.cells #[.slice none 0 0, .slice none 0 0] 26)).alloc (.cells #[.slice a T.length c, .int .i64 0, .int .i64 0, .int .i64 0] 113)) = Wm at *
  have hszm1 := Nat.le_of_eq HZm.out
  have hszm2 := Nat.le_of_eq HZm.out.symm
  have hszL1 := Nat.le_of_eq HZL.out
  have hszL2 := Nat.le_of_eq HZL.out.symm
  generalize hb : w.heap.size + 1 = b at *
  generalize hm : b + 1 = mp at *
  generalize hRES : moduleD (lastOf 1 T) (T.length + 1) [] [] ⟨T, 0, 0⟩ = RES at *
  go_loopw [] (fun wr => ∃ (s' : St) (cs : List (Nm × Int)) (bs : List Bnd) (vd vb : Value) (cl : List Value) (fu : Nat), PAt wr b T s' ∧ Wm.grownBy wr (some b) ∧ mS s' ≤ fu ∧ moduleD (lastOf 1 T) fu cs bs s' = RES ∧ cs.length + bs.length + mS s' ≤ T.length + 1 ∧ BoxW wr mp [vd, vb] ∧ wr.ownsRow W.heap.size 69 2 vd cs.length (declV cs) ∧ wr.ownsRow W.heap.size 39 10 vb bs.length cl ∧ BndsAt wr (fun g => W.heap.size ≤ g ∧ some g ≠ vb.ownBlock ∧ some g ≠ vd.ownBlock) bs cl ∧ ∀ g, vd.ownBlock = some g → vb.ownBlock ≠ some g) (fun wr => stM T.length b wr)
  case atStart => exact ⟨⟨T, 0, 0⟩, [], [], _, _, [], _, HP0.out, HGm.out, by unfold mS; simp, hRES, by unfold mS; simp, HMB.out, World.ownsRow_nil _ _ _ _, World.ownsRow_nil _ _ _ _, .nil, fun g e => by cases e⟩
  case round =>
    obtain ⟨s', cs, bs, vd, vb, cl, fu, hP, hg, hfu, hN, hln, hB, hod, hob, hbt, hdis⟩ := hrel
    obtain ⟨ad, cd, rfl, hlowd⟩ := own_shape hod
    obtain ⟨ab, cb, rfl, hlowb⟩ := own_shape hob
    obtain ⟨i, ag, cg, c0, hcc, hmm, c1, hi, hr, c2, c3, ht⟩ := hP.view
    clear ht c0 hcc hmm
    have HS0 := Hd hP
    have HBq := Hd hB
    have HOd := Hd hod
    have HOb := Hd hob
    have HXb := Hd hbt
    have HDs := Hd hdis
    have HLd := Hd hlowd
    have HLb := Hd hlowb
    have H0 := Hd (Ai hP hg)
    have HQ := Hd (Ai hfu hln)
    have HM := Hd hN
    have q0 : wr.cell? ⟨mp, 0, none⟩ = some _ := HBq.out.1 0 _ rfl
    have q1 : wr.cell? ⟨mp, 1, none⟩ = some _ := HBq.out.1 1 _ rfl
    have hwr : W.heap.size ≤ wr.heap.size := by have := hB.lt; omega
    have hnn := hn
    have hrb : w.heap.size ≠ b := by omega
    have HRb := Hd (boxw_grown HRB.out hg hrb)
    have d0 : wr.cell? ⟨w.heap.size, 0, none⟩ = some _ := HRb.out.1 0 _ rfl
    have d1 : wr.cell? ⟨w.heap.size, 1, none⟩ = some _ := HRb.out.1 1 _ rfl
    have z0 := HRb.out.2 0
    have z1 := HRb.out.2 1
    clear hP hg hfu hN hln hB hod hob hbt hdis hlowd hlowb
    by_cases ge : s'.e = 0
    · have f0 : (s'.e == 0) = true := by simp [ge]
      by_cases gr : i < T.length
      · have f1 : decide ((i : Int) < (T.length : Int)) = true := by simp; omega
        have HGE := Hd ge
        have HT0 := Hd hn
        have HNE := Hd (show s'.r ≠ [] from fun e => by have h := hr.symm.trans e; have := List.drop_eq_nil_iff.1 h; omega)
        obtain ⟨fu', rfl⟩ : ∃ q, fu = q + 1 := ⟨fu - 1, by have := HQ.out.1; have := mS_alive ge; omega⟩
        have hc := dsees_any b T s' [100, 97, 116, 97] wr H0.out.1
        clear hr hi ge q0 q1 d0 d1 z0 z1
        by_cases gs : seesL [100, 97, 116, 97] s'.r = true
        · rw [gs] at hc
          have hN := HM.out
          rw [module_data HGE.out HNE.out gs] at hN
          have HN := Hd hN
          have HC := Hd hc
          clear hN hc gs
          go_wp2_with fail
          refine HC.out.mono ?_
          rintro e w1 ⟨rfl, hb1⟩
          have HG1 := Hd (grown_of (b := b) hb1)
          have hsz1 : wr.heap.size ≤ w1.heap.size := hb1.size
          have H1 := Hd (Ai (H0.out.1.later hb1) (Gt H0.out.2 HG1.out))
          clear HC hb1 c1 c2 c3
          obtain ⟨i2, hiT, hir, c1⟩ := H1.out.1.c1
          have y1 := H1.out.1.z 1
          have hTn := HT0.out
          have ej : IntKind.i64.wrap ((i2 : Int) + 1) = (i2 : Int) + 1 := by rw [IntKind.wrap_i64]; omega
          have hP9 := H1.out.1.next c1 HNE.out
          have hgs := set_grown w1 b 1 (.int .i64 ((i2 : Int) + 1))
          have H2 := Hd (Ai hP9 (Gt H1.out.2 hgs))
          have HG2 := Hd hgs
          have hsz2 : w1.heap.size ≤ (w1.setCell ⟨b, 1, none⟩ (.int .i64 ((i2 : Int) + 1))).heap.size := by simp
          clear hir hiT hP9 hgs
          go_wp2_with fail
          generalize (w1.setCell ⟨b, 1, none⟩ (.int .i64 ((i2 : Int) + 1))) = w2 at *
          clear c1 y1
          have hmb : mp ≠ b := by omega
          have HB2 := Hd (boxw_grown HBq.out (Gt HG1.out HG2.out) hmb)
          have HO2 := Hd (own_kept HOd.out (Gt HG1.out HG2.out) (fun e => by have := HLd.out b e; omega))
          have HCo := Hd (fun (W' : World) (hb : Below w2.heap.size w2 W') => ddata_any b T HX.out s'.next W' (H2.out.1.later hb))
          have q0 : w2.cell? ⟨mp, 0, none⟩ = some (.slice ad cs.length cd) := HB2.out.1 0 _ rfl
          have HLE := Hd (Ai (data_len (lastOf 1 T) s'.next) (nxt_lt HGE.out HNE.out))
          generalize hqi : dataD (lastOf 1 T) s'.next = Q at *
          obtain ⟨ds, s2⟩ := Q
          clear hqi
          have HNm := Hd (show cs.length + ds.length ≤ 100000 ∧ cs.length + ds.length + bs.length + mS s2 ≤ T.length + 1 by have h1 : ds.length + mS s2 ≤ mS s'.next := HLE.out.1; have := HLE.out.2; have := HQ.out.2; have := mS_alive HGE.out; have := mS_le HS0.out; omega)
          go_region_law
            (first
              | (refine step_onto_decl rfl _ _ rfl w5 W.heap.size cs.length (.slice ad cs.length cd) (declV cs) rfl HO5.out _ ds.length (declV ds) _ rfl H5.out.2.2.1 (declV_one ds) HNm.out.1 HS5.out ?_; intro ao cap w9 hon; have hBq := boxw_o HB5.out hon.2.1 (fun e => by have := HLd.out _ e.symm; omega); have qb0 := hBq.1 0 _ rfl; have zb0 := hBq.2 0; have H9 := Hd (Ai hon hBq); clear hon hBq)
              | (refine step_wanted rfl ?_; go_simp; go_at_call 58; refine (HCo.out _ (by first | exact Br | exact Br.drew | exact dbelow Br _)).mono ?_; rintro e w5 ⟨⟨vd5, rfl, hod5⟩, hP5, hg5'⟩; obtain ⟨a5, c5, rfl, hl5⟩ := own_shape hod5; have hg5 : w2.grownBy w5 (some b) := Gt (grown_of (by first | exact Br | exact Br.drew | exact dbelow Br _)) hg5'; have hB5 := boxw_grown HB2.out hg5 hmb; have q0 := hB5.1 0 _ rfl; have HB5 := Hd hB5; have HO5 := Hd (own_kept HO2.out hg5 (fun e => by have := HLd.out b e; omega)); have hs5 : w2.heap.size ≤ w5.heap.size := hg5.size; have HS5 := Hd (show W.heap.size ≤ w5.heap.size by omega); have H5 := Hd (Ai (show PAt w5 b T s2 from hP5) (Ai hg5 (Ai hod5 hl5))); clear hP5 hg5 hg5' hod5 hB5 hl5))
          all_goals
            go_wp2_with fail
            obtain ⟨⟨o1, o2, o3⟩, hB9⟩ := H9.out
            obtain ⟨hP5, hg5, hod5, hl5⟩ := H5.out
            have hs5 := hg5.size
            have hS5 := HS5.out
            have hlowd : ∀ g, (Value.slice ad cs.length cd).ownBlock = some g → W.heap.size ≤ g := HLd.out
            have hlowb : ∀ g, (Value.slice ab bs.length cb).ownBlock = some g → W.heap.size ≤ g := HLb.out
            have hltb : ∀ g, (Value.slice ab bs.length cb).ownBlock = some g → g < wr.heap.size := fun g e => (HOb.out.lt g e).2
            obtain ⟨q, hq, hg9⟩ := grown_some (b := b) o2 (fun g e => by have := hlowd g e; omega)
            have hs9 := hg9.size
            have hP9 := (hP5.past hg9 hq).over (p := mp) (i := 0) (by omega) (.slice ao (cs.length + ds.length) cap)
            have hG9 := grown_new (grown_past (Gt H2.out.2 hg5) o2 (fun g e => by have := hlowd g e; omega)) (p := mp) (i := 0) (by omega) (.slice ao (cs.length + ds.length) cap)
            have hvn : ∀ g, (Value.slice ao (cs.length + ds.length) cap).ownBlock = some g → W.heap.size ≤ g := fun g e => by
              rcases o3 with h | h
              · exact hlowd g (h.symm.trans e)
              · have h2 : w5.heap.size = g := Oi (h.symm.trans e)
                omega
            have hO9 := own_o o1 (set_grown w9 mp 0 (.slice ao (cs.length + ds.length) cap)) (fun g e e2 => by have h1 := hvn g e; have h2 : g = mp := Oi e2; omega)
            have hb9 := own_o (own_o (own_kept HOb.out (Gt (Gt HG1.out HG2.out) hg5) (fun e => by have := hlowb b e; omega)) o2 (fun g e e2 => HDs.out g e2.symm e)) (set_grown w9 mp 0 (.slice ao (cs.length + ds.length) cap)) (fun g e e2 => by have h1 := hlowb g e; have h2 : g = mp := Oi e2; omega)
            have hBf := hB9.set 0 (show 0 < 2 by decide) (.slice ao (cs.length + ds.length) cap)
            have hnw : ∀ g, g ≠ mp → (w9.setCell ⟨mp, 0, none⟩ (.slice ao (cs.length + ds.length) cap)).heap[g]? = w9.heap[g]? := fun g h => Below.heap_setCell _ _ _ _ (by simp only; omega)
            have hnv : ∀ g, g < w5.heap.size → some g ≠ (Value.slice ad cs.length cd).ownBlock → some g ≠ (Value.slice ao (cs.length + ds.length) cap).ownBlock := fun g h1 h2 e => by
              rcases o3 with h | h
              · exact h2 (e.trans h)
              · have h3 : g = w5.heap.size := Oi (e.trans h)
                omega
            have hfu := HQ.out.1
            have hl1 : ds.length + mS s2 ≤ mS s'.next := HLE.out.1
            have hl2 := HLE.out.2
            have hl3 := HNm.out.2
            refine ⟨⟨s2, cs ++ ds, bs, .slice ao (cs.length + ds.length) cap, .slice ab bs.length cb, cl, fu', hP9, hG9, by omega, HN.out, by simp; omega, hBf, by rw [List.length_append, declV_app]; exact hO9, hb9, ?_, ?_⟩, by rw [hP9.m, HS0.out.m]; show mS s2 < mS s'; omega⟩
            · refine HXb.out.move fun g hg lt => ⟨⟨hg.1, hg.2.1, hnv g (by omega) hg.2.2⟩, ?_⟩
              have hg1 : W.heap.size ≤ g := hg.1
              exact (hnw g (by omega)).trans ((o2.block g (by omega) hg.2.2).trans ((hg5.block g (by omega) (by simp; omega)).trans ((HG2.out.block g (by omega) (by simp; omega)).trans (HG1.out.block g lt (by simp; omega)))))
            · intro g e e2
              rcases o3 with h | h
              · exact HDs.out g (h.symm.trans e) e2
              · have h2 : w5.heap.size = g := Oi (h.symm.trans e)
                have := hltb g e2
                omega
        · have gs' : seesL [100, 97, 116, 97] s'.r = false := by simpa using gs
          rw [gs'] at hc
          have hN := HM.out
          rw [module_bind HGE.out HNE.out gs] at hN
          have HN0 := Hd hN
          have HC := Hd hc
          clear hN hc gs gs'
          go_wp2_with fail
          refine HC.out.mono ?_
          rintro e w1 ⟨rfl, hb1⟩
          have HG1 := Hd (grown_of (b := b) hb1)
          have hsz1 : wr.heap.size ≤ w1.heap.size := hb1.size
          have H1 := Hd (Ai (H0.out.1.later hb1) (Gt H0.out.2 HG1.out))
          clear HC hb1 c1 c2 c3
          have hmb : mp ≠ b := by omega
          have HB2 := Hd (boxw_grown HBq.out HG1.out hmb)
          have HO2 := Hd (own_kept HOb.out HG1.out (fun e => by have := HLb.out b e; omega))
          have HCo := Hd (fun (W' : World) (hb : Below w1.heap.size w1 W') => dbind_any b T 200 (dexpr_all b T 200 (by decide)) 0 (by decide) s' W' (H1.out.1.later hb))
          have q1 : w1.cell? ⟨mp, 1, none⟩ = some (.slice ab bs.length cb) := HB2.out.1 1 _ rfl
          have HLE := Hd (Nat.lt_of_lt_of_le (bind_lt (ll := (lastOf 1 T)) (ex := exprD (lastOf 1 T) 200) (expr_mn 200) (s := s') HGE.out) Nr)
          have HNm := Hd (show cs.length + (bs.length + 1) ≤ T.length + 1 ∧ bs.length + 1 ≤ 100000 by have := HQ.out.2; have := mS_alive HGE.out; have := mS_le HS0.out; have := List.length_pos_iff.2 HNE.out; omega)
          generalize hqi : bindD (lastOf 1 T) (exprD (lastOf 1 T) 200) s' = Q at *
          obtain ⟨a5, s2⟩ := Q
          clear hqi
          have hnm : bs.length + 1 ≤ 100000 := HNm.out.2
          go_wp2_with fail
          go_region_law
            (first
              | (refine step_onto_bind rfl _ _ rfl (w5.alloc (.cells #[.string (tx a5.1), .slice ap0 np0 cp0, .int .i64 k1, .string nm1, .bool f5, .int .u64 u5, .slice ap1 np1 cp1, .slice ak1 nk1 ck1, .slice ab1 nb1 cb1, .slice aa1 na1 ca1] 39)) W.heap.size bs.length (.slice ab bs.length cb) cl rfl HO6.out w5.heap.size 1 [.string (tx a5.1), .slice ap0 np0 cp0, .int .i64 k1, .string nm1, .bool f5, .int .u64 u5, .slice ap1 np1 cp1, .slice ak1 nk1 ck1, .slice ab1 nb1 cb1, .slice aa1 na1 ca1] _ rfl (own_built (cs := #[.string (tx a5.1), .slice ap0 np0 cp0, .int .i64 k1, .string nm1, .bool f5, .int .u64 u5, .slice ap1 np1 cp1, .slice ak1 nk1 ck1, .slice ab1 nb1 cb1, .slice aa1 na1 ca1]) (heap_alloc_new _ _) Nr rfl (by decide)) HO1.out hnm HS6.out ?_; intro ao cap w9 hon; have hBq := boxw_o HB6.out hon.2.1 (fun e => by have := HLb.out _ e.symm; omega); have qb1 := hBq.1 1 _ rfl; have zb1 := hBq.2 1; have H9 := Hd (Ai hon hBq); clear hon hBq)
              | (refine step_wanted rfl ?_; go_simp; go_at_call 59; refine (HCo.out _ (by first | exact Br | exact Br.drew | exact dbelow Br _)).mono ?_; rintro e w5 ⟨⟨vp0, k1, nm1, f5, u5, vq, vk, vb, va, rfl, hrow, hat⟩, hP5, hg5'⟩; obtain ⟨ap0, np0, cp0, rfl⟩ := hrow.slice; obtain ⟨⟨ap1, np1, cp1, rfl⟩, ⟨ak1, nk1, ck1, rfl⟩, ⟨ab1, nb1, cb1, rfl⟩, ⟨aa1, na1, ca1, rfl⟩⟩ := hat.slices; have hg5 : w1.grownBy w5 (some b) := Gt (grown_of (by first | exact Br | exact Br.drew | exact dbelow Br _)) hg5'; have hB5 := boxw_grown HB2.out hg5 hmb; have q1 := hB5.1 1 _ rfl; have hy5 := (Below.refl w5.heap.size w5).alloc Nr (.cells #[.string (tx a5.1), .slice ap0 np0 cp0, .int .i64 k1, .string nm1, .bool f5, .int .u64 u5, .slice ap1 np1 cp1, .slice ak1 nk1 ck1, .slice ab1 nb1 cb1, .slice aa1 na1 ca1] 39); have qc1 := (hB5.below hy5).1 1 _ rfl; have HB6 := Hd (hB5.below hy5); have HO6 := Hd (own_below (own_kept HO2.out hg5 (fun e => by have := HLb.out b e; omega)) hy5); have HO1 := Hd (show ∀ zz ∈ ([.string (tx a5.1), .slice ap0 np0 cp0, .int .i64 k1, .string nm1, .bool f5, .int .u64 u5, .slice ap1 np1 cp1, .slice ak1 nk1 ck1, .slice ab1 nb1 cb1, .slice aa1 na1 ca1] : List Value), zz.oneCell' = true by intro z hz; simp at hz; rcases hz with rfl | rfl | rfl | rfl | rfl | rfl | rfl | rfl | rfl | rfl <;> rfl); have hs5 : w1.heap.size ≤ w5.heap.size := hg5.size; have HS6 := Hd (show W.heap.size ≤ (w5.alloc (.cells #[.string (tx a5.1), .slice ap0 np0 cp0, .int .i64 k1, .string nm1, .bool f5, .int .u64 u5, .slice ap1 np1 cp1, .slice ak1 nk1 ck1, .slice ab1 nb1 cb1, .slice aa1 na1 ca1] 39)).heap.size by have := hy5.size; omega); have H6 := Hd (Ai (show PAt w5 b T s2 from hP5) (Ai hg5 (Ai (show RowAt w5 (fun g => w1.heap.size ≤ g) 9 1 (.slice ap0 np0 cp0) a5.2.1.length (namesV a5.2.1) from hrow) (Ai (show ExAt w5 (fun g => w1.heap.size ≤ g) a5.2.2 _ from hat) hy5)))); clear hP5 hg5 hg5' hrow hat hy5 hB5))
          all_goals
            go_wp2_with fail
            obtain ⟨⟨o1, o2, o3⟩, hB9⟩ := H9.out
            obtain ⟨hP5, hg5, hrow, hat, hy5⟩ := H6.out
            have hs5 := hg5.size
            have hs6 := hy5.size
            have hlowd : ∀ g, (Value.slice ad cs.length cd).ownBlock = some g → W.heap.size ≤ g := HLd.out
            have hltd : ∀ g, (Value.slice ad cs.length cd).ownBlock = some g → g < wr.heap.size := fun g e => (HOd.out.lt g e).2
            have hlow9 : ∀ g, (Value.slice ab bs.length cb).ownBlock = some g → W.heap.size ≤ g := HLb.out
            have hlt9 : ∀ g, (Value.slice ab bs.length cb).ownBlock = some g → g < wr.heap.size := fun g e => (HOb.out.lt g e).2
            obtain ⟨q, hq, hg9⟩ := grown_some (b := b) o2 (fun g e => by have := hlow9 g e; omega)
            have hs9 := hg9.size
            have hP9 := ((hP5.later hy5).past hg9 hq).over (p := mp) (i := 1) (by omega) (.slice ao (bs.length + 1) cap)
            have hG9 := grown_new (grown_past (Gt H1.out.2 (Gt hg5 (grown_of hy5))) o2 (fun g e => by have := hlow9 g e; omega)) (p := mp) (i := 1) (by omega) (.slice ao (bs.length + 1) cap)
            have hvn : ∀ g, (Value.slice ao (bs.length + 1) cap).ownBlock = some g → (Value.slice ab bs.length cb).ownBlock = some g ∨ g = (w5.alloc (.cells #[.string (tx a5.1), .slice ap0 np0 cp0, .int .i64 k1, .string nm1, .bool f5, .int .u64 u5, .slice ap1 np1 cp1, .slice ak1 nk1 ck1, .slice ab1 nb1 cb1, .slice aa1 na1 ca1] 39)).heap.size := fun g e => by
              rcases o3 with h | h
              · exact Or.inl (h.symm.trans e)
              · exact Or.inr (Oi (h.symm.trans e)).symm
            have hvl : ∀ g, (Value.slice ao (bs.length + 1) cap).ownBlock = some g → W.heap.size ≤ g := fun g e => by
              rcases hvn g e with h | h
              · exact hlow9 g h
              · omega
            have hO9 := own_o o1 (set_grown w9 mp 1 (.slice ao (bs.length + 1) cap)) (fun g e e2 => by have h1 := hvl g e; have h2 : g = mp := Oi e2; omega)
            have hd9 := own_o (own_o (own_below (own_kept HOd.out (Gt HG1.out hg5) (fun e => by have := hlowd b e; omega)) hy5) o2 (fun g e e2 => HDs.out g e e2.symm)) (set_grown w9 mp 1 (.slice ao (bs.length + 1) cap)) (fun g e e2 => by have h1 := hlowd g e; have h2 : g = mp := Oi e2; omega)
            have hBf := hB9.set 1 (show 1 < 2 by decide) (.slice ao (bs.length + 1) cap)
            have hnw : ∀ g, g ≠ mp → (w9.setCell ⟨mp, 1, none⟩ (.slice ao (bs.length + 1) cap)).heap[g]? = w9.heap[g]? := fun g h => Below.heap_setCell _ _ _ _ (by simp only; omega)
            have hnv : ∀ g, g < w5.heap.size → some g ≠ (Value.slice ab bs.length cb).ownBlock → some g ≠ (Value.slice ao (bs.length + 1) cap).ownBlock := fun g h1 h2 e => by
              rcases hvn g e.symm with h | h
              · exact h2 h.symm
              · omega
            have hfar : ∀ g, w1.heap.size ≤ g → g < w5.heap.size → (W.heap.size ≤ g ∧ some g ≠ (Value.slice ao (bs.length + 1) cap).ownBlock ∧ some g ≠ (Value.slice ad cs.length cd).ownBlock) ∧ (w9.setCell ⟨mp, 1, none⟩ (.slice ao (bs.length + 1) cap)).heap[g]? = w5.heap[g]? := fun g h1 h2 => by
              have hne : some g ≠ (Value.slice ab bs.length cb).ownBlock := fun e => by have := hlt9 g e.symm; omega
              exact ⟨⟨by omega, hnv g h2 hne, fun e => by have := hltd g e.symm; omega⟩, (hnw g (by omega)).trans ((o2.block g (by omega) hne).trans (hy5.block g h2))⟩
            have hX9 : BndsAt (w9.setCell ⟨mp, 1, none⟩ (.slice ao (bs.length + 1) cap)) (fun g => W.heap.size ≤ g ∧ some g ≠ (Value.slice ao (bs.length + 1) cap).ownBlock ∧ some g ≠ (Value.slice ad cs.length cd).ownBlock) (bs ++ [a5]) (cl ++ [.string (tx a5.1), .slice ap0 np0 cp0, .int .i64 k1, .string nm1, .bool f5, .int .u64 u5, .slice ap1 np1 cp1, .slice ak1 nk1 ck1, .slice ab1 nb1 cb1, .slice aa1 na1 ca1]) := by
              refine BndsAt.snoc (HXb.out.move fun g hg lt => ?_) (hrow.move fun g hg lt => hfar g hg lt) (hat.move fun g hg lt => hfar g hg lt)
              have hg1 : W.heap.size ≤ g := hg.1
              exact ⟨⟨hg1, hnv g (by omega) hg.2.1, hg.2.2⟩, (hnw g (by omega)).trans ((o2.block g (by omega) hg.2.1).trans ((hy5.block g (by omega)).trans ((hg5.block g (by omega) (by simp; omega)).trans (HG1.out.block g lt (by simp; omega)))))⟩
            have hd : ∀ g, (Value.slice ad cs.length cd).ownBlock = some g → (Value.slice ao (bs.length + 1) cap).ownBlock ≠ some g := fun g e e2 => by
              rcases hvn g e2 with h | h
              · exact HDs.out g e h
              · have := hltd g e
                omega
            have HND := Hd (dneed_any b T s2 [59] (w9.setCell ⟨mp, 1, none⟩ (.slice ao (bs.length + 1) cap)) hP9)
            have HALL := Hd (Ai hG9 (Ai hO9 (Ai hd9 (Ai hBf (Ai hX9 hd)))))
            have hlo : ∀ g, (Value.slice ao (bs.length + 1) cap).ownBlock = some g → W.heap.size ≤ g := hvl
            clear hP9 hG9 hO9 hd9 hBf hX9 hd hfar hnv hnw hvn hvl
            generalize (w9.setCell ⟨mp, 1, none⟩ (.slice ao (bs.length + 1) cap)) = W10 at *
            refine HND.out.mono ?_
            rintro e w11 ⟨rfl, hP11, hg11⟩
            have H11 := Hd (Ai hP11 hg11)
            clear hP11 hg11
            go_wp2_with fail
            obtain ⟨hG9, hO9, hd9, hBf, hX9, hd⟩ := HALL.out
            obtain ⟨hP11, hg11⟩ := H11.out
            have hfu := HQ.out.1
            have hl1 : mS s2 < mS s' := HLE.out
            have hl2 := need_mn (lastOf 1 T) [59] s2
            have hl3 := HQ.out.2
            refine ⟨⟨needD (lastOf 1 T) [59] s2, cs, bs ++ [a5], .slice ad cs.length cd, (.slice ao (bs.length + 1) cap), cl ++ [.string (tx a5.1), .slice ap0 np0 cp0, .int .i64 k1, .string nm1, .bool f5, .int .u64 u5, .slice ap1 np1 cp1, .slice ak1 nk1 ck1, .slice ab1 nb1 cb1, .slice aa1 na1 ca1], fu', hP11, Gt hG9 hg11, by omega, HN0.out, by simp; omega, boxw_grown hBf hg11 hmb, own_kept hd9 hg11 (fun e => by have := hlowd b e; omega), by simpa using own_kept hO9 hg11 (fun e => by have := hlo b e; omega), ?_, hd⟩, by rw [hP11.m, HS0.out.m]; show mS (needD (lastOf 1 T) [59] s2) < mS s'; omega⟩
            exact hX9.move fun g hg lt => ⟨hg, hg11.block g lt (by have := hg.1; simp; omega)⟩
      · have f1 : decide ((i : Int) < (T.length : Int)) = false := by simp; omega
        have hN := HM.out
        rw [module_no (fun h => h.2 (hr.trans (List.drop_eq_nil_of_le (by omega))))] at hN
        have HN := Hd hN
        have f2 : (s'.e != 0) = false := by simp [ge]
        have HGE := Hd ge
        clear hN hr hi ge
        go_wp2_with fail
        have v0 : ((wr.setCell ⟨w.heap.size, 0, none⟩ (.slice ad cs.length cd)).setCell ⟨w.heap.size, 1, none⟩ (.slice ab bs.length cb)).cell? ⟨w.heap.size, 0, none⟩ = some (.slice ad cs.length cd) := (at_oth _ _ _ _ _ (by decide)).trans (at_sam _ d0)
        have v1 : ((wr.setCell ⟨w.heap.size, 0, none⟩ (.slice ad cs.length cd)).setCell ⟨w.heap.size, 1, none⟩ (.slice ab bs.length cb)).cell? ⟨w.heap.size, 1, none⟩ = some (.slice ab bs.length cb) := at_sam _ ((at_oth _ _ _ _ _ (by decide)).trans d1)
        refine bodyPost_ret (v := .tuple #[.agg #[.slice ad cs.length cd, .slice ab bs.length cb], .int .i64 0, .int .i64 0]) (by simp [results, Tryz.results35, go_sem, v0, v1]) rfl ?_
        have e0 : s'.e = 0 := HGE.out
        have hrs : w.heap.size < W.heap.size := by omega
        have hfr : ∀ g, W.heap.size ≤ g → ((wr.setCell ⟨w.heap.size, 0, none⟩ (.slice ad cs.length cd)).setCell ⟨w.heap.size, 1, none⟩ (.slice ab bs.length cb)).heap[g]? = wr.heap[g]? := fun g h => (Below.heap_setCell _ _ _ _ (by simp only; omega)).trans (Below.heap_setCell _ _ _ _ (by simp only; omega))
        rw [hRES, ← HN.out]
        refine ⟨⟨.slice ad cs.length cd, .slice ab bs.length cb, by simp [e0], Or.inr ⟨e0, W.heap.size, by omega, ?_, cl, ?_, ?_⟩⟩, ?_⟩
        · exact own_o (own_o HOd.out (set_grown ..) (fun g e e2 => by have := HLd.out g e; have := Oi e2; omega)) (set_grown ..) (fun g e e2 => by have := HLd.out g e; have := Oi e2; omega)
        · exact own_o (own_o HOb.out (set_grown ..) (fun g e e2 => by have := HLb.out g e; have := Oi e2; omega)) (set_grown ..) (fun g e e2 => by have := HLb.out g e; have := Oi e2; omega)
        · exact HXb.out.move fun g hg lt => ⟨hg, hfr g hg.1⟩
        · exact below_pq (below_pq (below_pq HBl.out H0.out.2 (by omega) (by omega)) (set_grown ..) (by omega) Nr) (set_grown ..) (by simp; omega) Nr
    · have f0 : (s'.e == 0) = false := by simp [ge]
      have f2 : (s'.e != 0) = true := by simp [ge]
      have hN := HM.out
      rw [module_no (fun h => ge h.1)] at hN
      have HN := Hd hN
      have HGE := Hd ge
      clear hN hr hi ge
      go_wp2_with fail
      go_region_held3 (fun w' => w'.cell? ⟨b, 2, none⟩ = some (.int .i64 s'.e) ∧ w'.cell? ⟨b, 3, none⟩ = some (.int .i64 s'.ln)) (first | go_keep | exact ⟨(at_far _ _ _ _ _ _ hrb.symm).trans ((at_far _ _ _ _ _ _ hrb.symm).trans c2), (at_far _ _ _ _ _ _ hrb.symm).trans ((at_far _ _ _ _ _ _ hrb.symm).trans c3)⟩) (fail)
      rename_i hHeld
      clear hHeld
      have v0 : ((wr.setCell ⟨w.heap.size, 0, none⟩ (.slice none 0 0)).setCell ⟨w.heap.size, 1, none⟩ (.slice none 0 0)).drew.cell? ⟨w.heap.size, 0, none⟩ = some (.slice none 0 0) := (at_oth _ _ _ _ _ (by decide)).trans (at_sam _ d0)
      have v1 : ((wr.setCell ⟨w.heap.size, 0, none⟩ (.slice none 0 0)).setCell ⟨w.heap.size, 1, none⟩ (.slice none 0 0)).drew.cell? ⟨w.heap.size, 1, none⟩ = some (.slice none 0 0) := at_sam _ ((at_oth _ _ _ _ _ (by decide)).trans d1)
      have HBf := Hd (show Below w.heap.size w ((wr.setCell ⟨w.heap.size, 0, none⟩ (.slice none 0 0)).setCell ⟨w.heap.size, 1, none⟩ (.slice none 0 0)).drew from (below_pq (below_pq (below_pq HBl.out H0.out.2 (by omega) (by omega)) (set_grown ..) (by omega) Nr) (set_grown ..) (by simp; omega) Nr).drew)
      go_wp2_with fail
      refine bodyPost_ret (v := .tuple #[.agg #[.slice none 0 0, .slice none 0 0], .int .i64 s'.e, .int .i64 s'.ln]) (by simp [results, Tryz.results35, go_sem, v0, v1]) rfl ?_
      have e0 : s'.e ≠ 0 := HGE.out
      rw [hRES, ← HN.out]
      exact ⟨⟨.slice none 0 0, .slice none 0 0, by simp [e0], Or.inl ⟨e0, rfl, rfl⟩⟩, HBf.out⟩
def depsOf (ops : Array Oper) : List (List Nat) := ops.toList.map fun o => (o.after.toList.filter (Region.binds .any)).map (·.on)
def lsOf (base : List Nat) (k : Nat) (idx : Nat → Nat) (n m : Nat) : Bool := base.contains m || (List.range k).any fun j => idx j == m && n.testBit j
def LsOf (base : List Nat) (k : Nat) (idx : Nat → Nat) (len n : Nat) : Array Bool := ((List.range len).map (lsOf base k idx n)).toArray
def chkSome (D : List (List Nat)) (base : List Nat) (k : Nat) (idx zeros : Nat → Nat) (full : Nat) : Bool :=
  D.all (fun d => d.all fun e => decide (e < D.length)) && (List.range k).all (fun j => decide (idx j < D.length)) &&
  (List.range full).all fun n =>
    ((List.range k).any fun j => !lsOf base k idx n (idx j) && ((D[idx j]?).getD []).all (lsOf base k idx n)) &&
    (List.range D.length).all fun i => lsOf base k idx n i || !((D[i]?).getD []).all (lsOf base k idx n) || (List.range k).any fun j => idx j == i && !n.testBit j && decide (n + 2 ^ j ≤ full) && zeros n == zeros (n + 2 ^ j) + 1
def KX (w : World) (m : Nat) (es : List (Sh × Value)) : Prop := w.heap[m]? = some (.map (entries es).toArray es.length)
theorem KX.lt {w : World} {m : Nat} {es : List (Sh × Value)} (h : KX w m es) : m < w.heap.size := by
  rcases Nat.lt_or_ge m w.heap.size with h' | h'
  · exact h'
  · unfold KX at h; rw [Array.getElem?_eq_none h'] at h; cases h
theorem look_all {tab es : List (Sh × Value)} (hn : (tab.map (·.1)).Nodup) (hsub : ∀ x, x ∈ es → x ∈ tab) (hall : ∀ x, x ∈ tab → x ∈ es) (s : Sh) : lookSh es s = lookSh tab s := by
  have uniq : ∀ {l : List (Sh × Value)}, (∀ x, x ∈ l → x ∈ tab) → ∀ x, x ∈ l → lookSh l x.1 = some x.2 := by
    intro l hl x hx
    unfold lookSh
    cases hf : l.find? (fun p => decide (p.1 = x.1)) with
    | none => exact absurd (by simp) (List.find?_eq_none.1 hf x hx)
    | some y =>
      have hy := List.mem_of_find?_eq_some hf
      have he := List.find?_some hf
      have hk : y.1 = x.1 := of_decide_eq_true he
      have : y = x := by
        have h1 := hl y hy
        have h2 := hl x hx
        clear hl hx hy hf he hsub hall
        induction tab with
        | nil => cases h1
        | cons z tab ih =>
          simp only [List.map_cons, List.nodup_cons] at hn
          rcases List.mem_cons.1 h1 with q | h3
          · rcases List.mem_cons.1 h2 with q2 | h4
            · rw [q, q2]
            · exact absurd (List.mem_map.2 ⟨x, h4, by rw [← hk, q]⟩) hn.1
          · rcases List.mem_cons.1 h2 with q2 | h4
            · exact absurd (List.mem_map.2 ⟨y, h3, by rw [hk, q2]⟩) hn.1
            · exact ih hn.2 h3 h4
      rw [this]; rfl
  by_cases g : ∃ x, x ∈ tab ∧ x.1 = s
  · obtain ⟨x, hx, rfl⟩ := g
    rw [uniq hsub x (hall x hx), uniq (fun _ h => h) x hx]
  · have none : ∀ {l : List (Sh × Value)}, (∀ x, x ∈ l → x ∈ tab) → lookSh l s = none := by
      intro l hl
      unfold lookSh
      simp only [Option.map_eq_none_iff, List.find?_eq_none, decide_eq_true_eq]
      exact fun x hx e => g ⟨x, hl x hx, e⟩
    rw [none hsub, none (fun _ h => h)]
def zeros (k n : Nat) : Nat := ((List.range k).filter fun j => !n.testBit j).length
def IDX8 (j : Nat) : Nat := 4 * j + 5
def BASE8 : List Nat := [0, 1, 2, 3, 4, 6, 7, 8, 10, 11, 12, 14, 15, 16, 18, 19, 20, 22, 23, 24, 26, 27, 28, 30, 31, 32]
def D8 : List (List Nat) := [[], [], [], [], [3], [1, 2, 4], [], [], [7], [1, 6, 8], [], [], [11], [1, 10, 12], [], [], [15], [1, 14, 16], [], [], [19], [1, 18, 20], [], [], [23], [1, 22, 24], [], [], [27], [1, 26, 28], [], [], [31], [1, 30, 32], [1, 2, 3, 4, 5, 6, 7, 8, 9, 10, 11, 12, 13, 14, 15, 16, 17, 18, 19, 20, 21, 22, 23, 24, 25, 26, 27, 28, 29, 30, 31, 32, 33], [0, 0, 1, 2, 3, 4, 5, 6, 7, 8, 9, 10, 11, 12, 13, 14, 15, 16, 17, 18, 19, 20, 21, 22, 23, 24, 25, 26, 27, 28, 29, 30, 31, 32, 33, 34], [35, 0, 1, 2, 3, 4, 5, 6, 7, 8, 9, 10, 11, 12, 13, 14, 15, 16, 17, 18, 19, 20, 21, 22, 23, 24, 25, 26, 27, 28, 29, 30, 31, 32, 33, 34], [36, 34, 0, 1, 2, 3, 4, 5, 6, 7, 8, 9, 10, 11, 12, 13, 14, 15, 16, 17, 18, 19, 20, 21, 22, 23, 24, 25, 26, 27, 28, 29, 30, 31, 32, 33, 34]]
def L8 (n : Nat) : Array Bool := LsOf BASE8 8 IDX8 D8.length n
def IDX9 : Nat → Nat
  | 0 => 1 | 1 => 4 | 2 => 5 | 3 => 8 | 4 => 9 | 5 => 13 | 6 => 16 | 7 => 17 | 8 => 21 | n => n + 100
def BASE9 : List Nat := [0, 2, 3, 6, 7, 10, 11, 12, 14, 15, 18, 19, 20]
def D9 : List (List Nat) := [[], [], [], [], [3], [1, 2, 4], [], [], [7, 4], [1, 6, 8], [], [], [11], [1, 10, 12], [], [], [15, 8], [1, 14, 16], [], [], [19], [1, 18, 20], [1, 2, 3, 4, 5, 6, 7, 8, 9, 10, 11, 12, 13, 14, 15, 16, 17, 18, 19, 20, 21], [0, 0, 1, 2, 3, 4, 5, 6, 7, 8, 9, 10, 11, 12, 13, 14, 15, 16, 17, 18, 19, 20, 21, 22], [23, 0, 1, 2, 3, 4, 5, 6, 7, 8, 9, 10, 11, 12, 13, 14, 15, 16, 17, 18, 19, 20, 21, 22], [24, 22, 16, 0, 1, 2, 3, 4, 5, 6, 7, 8, 9, 10, 11, 12, 13, 14, 15, 16, 17, 18, 19, 20, 21, 22]]
def L9 (n : Nat) : Array Bool := LsOf BASE9 9 IDX9 D9.length n
def tabT (b : Nat) (v1 v2 v3 : Value) : List (Sh × Value) := [(sName, v1), (sCon, v2), (sNum, meth 49 b), (sBack, v3), (sOpen, meth 50 b)]
theorem tab_nodup (b : Nat) (v1 v2 v3 : Value) : ((tabT b v1 v2 v3).map (·.1)).Nodup := by
  show [sName, sCon, sNum, sBack, sOpen].Nodup
  decide
def NamerAt (w : World) (lo b : Nat) (k : Int) (v : Value) : Prop := ∃ gk gr, v = namer gk gr ∧ w.cell? ⟨gk, 0, none⟩ = some (.int .i64 k) ∧ w.cell? ⟨gr, 0, none⟩ = some (.pointer (some ⟨b, 0, none⟩)) ∧ lo ≤ gk ∧ lo ≤ gr
theorem KX.no_cell {w : World} {m : Nat} {es : List (Sh × Value)} (h : KX w m es) (j : Nat) : w.cell? ⟨m, j, none⟩ = none := by
  unfold KX at h
  simp [World.cell?, h]
theorem NamerAt.below {w w' : World} {lo b : Nat} {k : Int} {v : Value} (h : NamerAt w lo b k v) (hb : Below w.heap.size w w') : NamerAt w' lo b k v := by
  obtain ⟨gk, gr, h1, h2, h3, h4⟩ := h
  exact ⟨gk, gr, h1, later' hb h2, later' hb h3, h4⟩
theorem NamerAt.map {w w' : World} {lo b m : Nat} {k : Int} {v : Value} {es : List (Sh × Value)} (h : NamerAt w lo b k v) (hm : KX w m es) (hg : w.grownBy w' (some m)) : NamerAt w' lo b k v := by
  obtain ⟨gk, gr, h1, h2, h3, h4⟩ := h
  refine ⟨gk, gr, h1, hg.cell h2 (fun e => ?_), hg.cell h3 (fun e => ?_), h4⟩
  · have := Oi e
    simp only at this
    rw [this, hm.no_cell] at h2
    cases h2
  · have := Oi e
    simp only at this
    rw [this, hm.no_cell] at h3
    cases h3
structure St9 (W : World) (b n : Nat) (F : Value → Value → Value → Value → Act) (a : Act) (w : World) (mm : Nat) (v0 v1 v2 v3 : Value) (es : List (Sh × Value)) : Prop where
  a : a = F v0 v1 v2 v3
  B : Below W.heap.size W w
  u0 : n.testBit 0 = false → v0 = undef ∧ es = []
  k0 : n.testBit 0 = true → v0 = .map (some mm) ∧ W.heap.size ≤ mm ∧ KX w mm es
  u1 : n.testBit 1 = false → v1 = undef ∧ n.testBit 2 = false
  k1 : n.testBit 1 = true → NamerAt w W.heap.size b 1 v1
  u2 : n.testBit 3 = false → v2 = undef ∧ n.testBit 4 = false
  k2 : n.testBit 3 = true → NamerAt w W.heap.size b 2 v2
  u3 : n.testBit 6 = false → v3 = undef ∧ n.testBit 7 = false
  k3 : n.testBit 6 = true → NamerAt w W.heap.size b 5 v3
  sub : ∀ x, x ∈ es → x ∈ tabT b v1 v2 v3
  m0 : (sName, v1) ∈ es ↔ n.testBit 2 = true
  m1 : (sCon, v2) ∈ es ↔ n.testBit 4 = true
  m2 : (sNum, meth 49 b) ∈ es ↔ n.testBit 5 = true
  m3 : (sBack, v3) ∈ es ↔ n.testBit 7 = true
  m4 : (sOpen, meth 50 b) ∈ es ↔ n.testBit 8 = true
theorem St9.done {W : World} {b mm : Nat} {F : Value → Value → Value → Value → Act} {a : Act} {w : World} {v0 v1 v2 v3 : Value} {es : List (Sh × Value)} (h : St9 W b 511 F a w mm v0 v1 v2 v3 es) : ∃ B : Bx, a = F (.map (some mm)) (namer B.k1 B.r1) (namer B.k2 B.r2) (namer B.k3 B.r3) ∧ Below W.heap.size W w ∧ W.heap.size ≤ mm ∧ KF w mm (atomForms b B) ∧ NamerAt w W.heap.size b 1 (namer B.k1 B.r1) ∧ NamerAt w W.heap.size b 2 (namer B.k2 B.r2) ∧ NamerAt w W.heap.size b 5 (namer B.k3 B.r3) := by
  obtain ⟨ha, hB, u0, k0, u1, k1, u2, k2, u3, k3, sub, m0, m1, m2, m3, m4⟩ := h
  obtain ⟨rfl, p2, p3⟩ := k0 (by decide)
  have n1 := k1 (by decide)
  have n2 := k2 (by decide)
  have n3 := k3 (by decide)
  obtain ⟨g1, r1, rfl, _⟩ := id n1
  obtain ⟨g2, r2, rfl, _⟩ := id n2
  obtain ⟨g3, r3, rfl, _⟩ := id n3
  refine ⟨⟨g1, r1, g2, r2, g3, r3⟩, ha, hB, p2, ⟨es, es.length, p3, look_all (tab := tabT b (namer g1 r1) (namer g2 r2) (namer g3 r3)) (tab_nodup _ _ _ _) sub (fun x hx => ?_)⟩, n1, n2, n3⟩
  simp only [tabT, List.mem_cons, List.not_mem_nil, or_false] at hx
  rcases hx with rfl | rfl | rfl | rfl | rfl
  · exact m0.2 (by decide)
  · exact m1.2 (by decide)
  · exact m2.2 (by decide)
  · exact m3.2 (by decide)
  · exact m4.2 (by decide)
def F4 (a : Act) (d0 d1 d2 d3 : Nat) (v0 v1 v2 v3 : Value) : Act := (((a.put (some d0) v0).put (some d1) v1).put (some d2) v2).put (some d3) v3
def ReaderAt (w0 : World) (a : Option Addr) (T : List Tok) (c : Nat) (w : World) (v3 v4 : Value) : Prop :=
  Below w0.heap.size w0 w ∧ BoxW w w0.heap.size [.slice a T.length c, .int .i64 1, .int .i64 0, v3, v4] ∧ Env8 w w0.heap.size
theorem ReaderAt.below {w0 w w' : World} {a : Option Addr} {T : List Tok} {c : Nat} {v3 v4 : Value} (h : ReaderAt w0 a T c w v3 v4) (hb : Below w.heap.size w w') : ReaderAt w0 a T c w' v3 v4 :=
  ⟨onB' h.1 hb, h.2.1.below hb, h.2.2.later (grown_of hb)⟩
def Box3 (w : World) (p0 p1 p2 : Nat) (vc vb : Value) (er ln : Int) : Prop :=
  w.cell? ⟨p0, 0, none⟩ = some vc ∧ w.cell? ⟨p0, 1, none⟩ = some vb ∧ w.cell? ⟨p1, 0, none⟩ = some (.int .i64 er) ∧ w.cell? ⟨p2, 0, none⟩ = some (.int .i64 ln) ∧ w.frozen? ⟨p0, 0, none⟩ = false ∧ w.frozen? ⟨p0, 1, none⟩ = false ∧ w.frozen? ⟨p1, 0, none⟩ = false ∧ w.frozen? ⟨p2, 0, none⟩ = false
theorem numT_x (t : List UInt8) : 0 ≤ (numT t).1.x := by
  unfold numT
  split
  · rename_i h
    exact (back (trimPrefix t [35]) (parseL (trimPrefix t [35])).1 (parseL (trimPrefix t [35])).2.1 (by rw [← h])).1
  · exact Int.le_refl 0
theorem readL_x (l : List UInt8) : 0 ≤ (readL l).1.x := by
  unfold readL readR
  repeat' split
  all_goals first | exact numT_x _ | exact Int.le_refl 0
theorem lexL_x {l : List UInt8} {T : List Tok} (h : lexL l = .good T) : ∀ y, y ∈ T → 0 ≤ y.1.x := by
  intro y hy
  obtain ⟨c, r, h1, _, _, _, h5⟩ := (lexL_own h).1 y hy
  have := readL_x y.1.t
  rw [h5] at this
  exact this
structure Shs (w : World) : Prop where
  letw : ShAt w 0 sLet
  casew : ShAt w 1 sCase
  lam : ShAt w 2 sLam
  name : ShAt w 3 sName
  con : ShAt w 4 sCon
  num : ShAt w 5 sNum
  back : ShAt w 6 sBack
  opn : ShAt w 7 sOpen
  data : ShAt w 8 sData
  semi : ShAt w 9 sSemi
  inw : ShAt w 10 sIn
  ofw : ShAt w 11 sOf
  curl : ShAt w 12 sCurl
  lruc : ShAt w 13 sLruc
  arrow : ShAt w 14 sArrow
  sign : ShAt w 15 sSign
  shut : ShAt w 16 sShut
  eq : ShAt w 17 sEq
theorem Shs.below {w w' : World} (h : Shs w) (hb : Below w.heap.size w w') : Shs w' := ⟨h.letw.later hb, h.casew.later hb, h.lam.later hb, h.name.later hb, h.con.later hb, h.num.later hb, h.back.later hb, h.opn.later hb, h.data.later hb, h.semi.later hb, h.inw.later hb, h.ofw.later hb, h.curl.later hb, h.lruc.later hb, h.arrow.later hb, h.sign.later hb, h.shut.later hb, h.eq.later hb⟩
theorem ShAt.b {w : World} {g b : Nat} {s : Sh} (h : ShAt w g s) (hb : w.heap.size ≤ b) : ShB w b g s := ⟨h, fun e => by have : g < w.heap.size := Bl h.1; omega⟩
theorem Shs.env {w : World} {b : Nat} (h : Shs w) (hb : w.heap.size ≤ b) : Env8 w b := ⟨h.letw.b hb, h.casew.b hb, h.lam.b hb, h.name.b hb, h.con.b hb, h.num.b hb, h.back.b hb, h.opn.b hb, h.data.b hb, h.semi.b hb, h.inw.b hb, h.ofw.b hb, h.curl.b hb, h.lruc.b hb, h.arrow.b hb, h.sign.b hb, h.shut.b hb, h.eq.b hb⟩
theorem RestIn.of_own {W : World} {base : Nat} {a : Option Addr} {c : Nat} {T : List Tok} (h : W.ownsRow base 93 5 (.slice a T.length c) T.length (flatT T)) {b : Nat} (hb : W.heap.size ≤ b) : RestIn W b (.slice a T.length c) T := by
  have hc : T.length ≤ c ∧ c ≤ maxLen := by
    rcases h.2 with ⟨e, e2⟩ | ⟨g, cap, cur, e, hg, hb, h1, h2, -⟩
    · obtain ⟨-, q1, q2⟩ := Value.slice.inj e; exact ⟨by omega, by unfold maxLen; omega⟩
    · obtain ⟨-, q1, q2⟩ := Value.slice.inj e; exact ⟨by omega, by omega⟩
  refine ⟨a, c, rfl, hc.1, hc.2, ?_⟩
  cases T with
  | nil => exact Or.inl rfl
  | cons y r =>
    obtain ⟨g, rfl, h0⟩ := own_tok h (j := 0) (by simp)
    have hg : g < W.heap.size := Bl h0.c0
    refine Or.inr ⟨g, 0, rfl, by omega, fun i hi => ?_⟩
    obtain ⟨g', e, hi'⟩ := own_tok h hi
    cases e
    simp only [Nat.zero_add]
    exact ⟨hi'.c0, hi'.c1, hi'.c2, hi'.c3, hi'.c4⟩
theorem lexL_tvs {l : List UInt8} {T : List Tok} (h : lexL l = .good T) : Tvs T := fun y hy => ((lexL_ok h).ok y hy).2
def modL (l : List UInt8) : Out Md :=
  match lexL l with
  | .good T => parseO T
  | .bad k line => .bad k line
def ParsedV (lo : Nat) (o : Out Md) (e : Ending) (w : World) : Prop :=
  match o with
  | .ok md _ _ => ∃ vc vb xb, e = .returned (.tuple #[.agg #[vc, vb], .int .i64 0, .int .i64 0]) ∧ w.ownsRow lo 69 2 vc md.1.length (declV md.1) ∧ w.ownsRow lo 39 10 vb md.2.length xb ∧ BndsAt w (fun g => lo ≤ g) md.2 xb
  | .bad er ln => er ≠ 0 ∧ e = .returned (.tuple #[.agg #[.slice none 0 0, .slice none 0 0], .int .i64 er, .int .i64 ln])
theorem Box3.below {w w' : World} {p0 : Nat} {vc vb : Value} {er ln : Int} (h : Box3 w p0 (p0 + 1) (p0 + 2) vc vb er ln) (hb : Below w.heap.size w w') : Box3 w' p0 (p0 + 1) (p0 + 2) vc vb er ln := by
  obtain ⟨h0, h1, h2, h3, z0, z1, z2, z3⟩ := h
  have l0 := Bl h0
  have l2 := Bl h2
  have l3 := Bl h3
  simp only at l0 l2 l3
  exact ⟨later' hb h0, later' hb h1, later' hb h2, later' hb h3, (World.frozen?_of_block (w := w) (hb.block _ l0)).trans z0, (World.frozen?_of_block (w := w) (hb.block _ l0)).trans z1, (World.frozen?_of_block (w := w) (hb.block _ l2)).trans z2, (World.frozen?_of_block (w := w) (hb.block _ l3)).trans z3⟩
theorem smB_any (c : UInt8) (w : World) : Calls Tryz.prog 89 #[.int .u8 c.toNat] w fun e w' => e = .returned (.bool (smB c)) ∧ w' = w := by
  by_cases g1 : 97 ≤ c.toNat
  · have f1 : decide ((97 : Int) ≤ (c.toNat : Int)) = true := decide_eq_true (by omega)
    by_cases g2 : c.toNat ≤ 122
    · have f2 : decide ((c.toNat : Int) ≤ (122 : Int)) = true := decide_eq_true (by omega)
      have hb : smB c = true := decide_eq_true (show 97 ≤ c.toNat ∧ c.toNat ≤ 122 from ⟨g1, g2⟩)
      rw [hb]
      clear hb
      go_enter Tryz.func89, Tryz.ntmps89
      go_wp2_with fail
      go_ret
      exact ⟨rfl, rfl⟩
    · have f2 : decide ((c.toNat : Int) ≤ (122 : Int)) = false := decide_eq_false (by omega)
      have hb : smB c = false := decide_eq_false (show ¬ (97 ≤ c.toNat ∧ c.toNat ≤ 122) from fun h => g2 h.2)
      rw [hb]
      clear hb
      go_enter Tryz.func89, Tryz.ntmps89
      go_wp2_with fail
      go_ret
      exact ⟨rfl, rfl⟩
  · have f1 : decide ((97 : Int) ≤ (c.toNat : Int)) = false := decide_eq_false (by omega)
    have hb : smB c = false := decide_eq_false (show ¬ (97 ≤ c.toNat ∧ c.toNat ≤ 122) from fun h => g1 h.1)
    rw [hb]
    clear hb
    go_enter Tryz.func89, Tryz.ntmps89
    go_wp2_with fail
    go_ret
    exact ⟨rfl, rfl⟩
theorem cpB_any (c : UInt8) (w : World) : Calls Tryz.prog 90 #[.int .u8 c.toNat] w fun e w' => e = .returned (.bool (cpB c)) ∧ w' = w := by
  by_cases g1 : 65 ≤ c.toNat
  · have f1 : decide ((65 : Int) ≤ (c.toNat : Int)) = true := decide_eq_true (by omega)
    by_cases g2 : c.toNat ≤ 90
    · have f2 : decide ((c.toNat : Int) ≤ (90 : Int)) = true := decide_eq_true (by omega)
      have hb : cpB c = true := decide_eq_true (show 65 ≤ c.toNat ∧ c.toNat ≤ 90 from ⟨g1, g2⟩)
      rw [hb]
      clear hb
      go_enter Tryz.func90, Tryz.ntmps90
      go_wp2_with fail
      go_ret
      exact ⟨rfl, rfl⟩
    · have f2 : decide ((c.toNat : Int) ≤ (90 : Int)) = false := decide_eq_false (by omega)
      have hb : cpB c = false := decide_eq_false (show ¬ (65 ≤ c.toNat ∧ c.toNat ≤ 90) from fun h => g2 h.2)
      rw [hb]
      clear hb
      go_enter Tryz.func90, Tryz.ntmps90
      go_wp2_with fail
      go_ret
      exact ⟨rfl, rfl⟩
  · have f1 : decide ((65 : Int) ≤ (c.toNat : Int)) = false := decide_eq_false (by omega)
    have hb : cpB c = false := decide_eq_false (show ¬ (65 ≤ c.toNat ∧ c.toNat ≤ 90) from fun h => g1 h.1)
    rw [hb]
    clear hb
    go_enter Tryz.func90, Tryz.ntmps90
    go_wp2_with fail
    go_ret
    exact ⟨rfl, rfl⟩
theorem dgB_any (c : UInt8) (w : World) : Calls Tryz.prog 93 #[.int .u8 c.toNat] w fun e w' => e = .returned (.bool (dgB c)) ∧ w' = w := by
  by_cases g1 : 48 ≤ c.toNat
  · have f1 : decide ((48 : Int) ≤ (c.toNat : Int)) = true := decide_eq_true (by omega)
    by_cases g2 : c.toNat ≤ 57
    · have f2 : decide ((c.toNat : Int) ≤ (57 : Int)) = true := decide_eq_true (by omega)
      have hb : dgB c = true := decide_eq_true (show 48 ≤ c.toNat ∧ c.toNat ≤ 57 from ⟨g1, g2⟩)
      rw [hb]
      clear hb
      go_enter Tryz.func93, Tryz.ntmps93
      go_wp2_with fail
      go_ret
      exact ⟨rfl, rfl⟩
    · have f2 : decide ((c.toNat : Int) ≤ (57 : Int)) = false := decide_eq_false (by omega)
      have hb : dgB c = false := decide_eq_false (show ¬ (48 ≤ c.toNat ∧ c.toNat ≤ 57) from fun h => g2 h.2)
      rw [hb]
      clear hb
      go_enter Tryz.func93, Tryz.ntmps93
      go_wp2_with fail
      go_ret
      exact ⟨rfl, rfl⟩
  · have f1 : decide ((48 : Int) ≤ (c.toNat : Int)) = false := decide_eq_false (by omega)
    have hb : dgB c = false := decide_eq_false (show ¬ (48 ≤ c.toNat ∧ c.toNat ≤ 57) from fun h => g1 h.1)
    rw [hb]
    clear hb
    go_enter Tryz.func93, Tryz.ntmps93
    go_wp2_with fail
    go_ret
    exact ⟨rfl, rfl⟩
theorem drop_cons_of {s : ByteArray} {k : Nat} (h : k < s.size) : ∃ c, s.data.toList.drop k = c :: s.data.toList.drop (k + 1) ∧ s[k]'h = c := by
  have h' : k < s.data.toList.length := by rw [← size_eq]; exact h
  exact ⟨s.data.toList[k], List.drop_eq_getElem_cons h', rfl⟩
def RunSaid (n : Nat) (w : World) (e : Ending) (w' : World) : Prop := e = .returned (.int .i64 n) ∧ Below w.heap.size w w'
theorem RunSaid.mk {m n : Nat} {w w' : World} (h : m = n) (hb : Below w.heap.size w w') : RunSaid m w (.returned (.int .i64 n)) w' := by
  subst h
  exact ⟨rfl, hb⟩
theorem run7_any (s : ByteArray) (hs : s.size ≤ 100000) (at0 : Nat) (h0 : at0 ≤ s.size) (w : World) :
    Calls Tryz.prog 91 #[.string s, .int .i64 at0] w (RunSaid (runL (s.data.toList.drop at0)).length w) := by
  go_enter Tryz.func91, Tryz.ntmps91
  go_wp2_with fail
  go_loopw [5] (fun s5 wr => ∃ n : Nat, s5 = .int .i64 n ∧ at0 + n ≤ s.size ∧ Hid ((runL (s.data.toList.drop at0)).length = n + (runL (s.data.toList.drop (at0 + n))).length) ∧ Below w.heap.size w wr) (fun s5 _ => s.size - at0 - (RowKit.intOf s5).toNat)
  case atStart => exact ⟨0, rfl, by omega, Hd (by simp), Below.refl _ _⟩
  case round =>
    obtain ⟨n, rfl, hn, hr, hb⟩ := hrel
    have HB := Hd hb
    clear hb
    have hlt0 : (0 : Int) ≤ (at0 : Int) + (n : Int) := by omega
    by_cases hlt : at0 + n < s.size
    · obtain ⟨c, hd, hsc⟩ := drop_cons_of hlt
      have hR := hr.out
      rw [hd, run_cons, inRun_eq] at hR
      have hlt' : (at0 : Int) + (n : Int) < (s.size : Int) := by omega
      clear hd hr
      have en1 : IntKind.i64.wrap ((n : Int) + 1) = (n : Int) + 1 := by rw [IntKind.wrap_i64]; omega
      have hus : (usB c = true ∧ ((c.toNat : Int) == 95) = true) ∨ (usB c = false ∧ ((c.toNat : Int) == 95) = false) := by
        unfold usB
        by_cases g : c.toNat = 95
        · exact Or.inl ⟨decide_eq_true g, by rw [g]; rfl⟩
        · exact Or.inr ⟨decide_eq_false g, by simp; omega⟩
      have HUS := Hd hus
      clear hus
      cases h1 : smB c with
      | true =>
        have HR := Hd (show (runL (s.data.toList.drop at0)).length = n + 1 + (runL (s.data.toList.drop (at0 + (n + 1)))).length by
          rw [hR, h1]
          rw [show at0 + (n + 1) = at0 + n + 1 by omega]
          simp <;> omega)
        clear hR
        go_wp2_with fail
        rw [hsc]
        refine (smB_any c _).mono ?_
        rintro e w2 ⟨rfl, rfl⟩
        rw [h1]
        go_wp2_with fail
        exact ⟨⟨n + 1, by go_num, by omega, HR, HB.out⟩, by simp [RowKit.intOf]; omega⟩
      | false =>
        cases h2 : cpB c with
        | true =>
          have HR := Hd (show (runL (s.data.toList.drop at0)).length = n + 1 + (runL (s.data.toList.drop (at0 + (n + 1)))).length by
            rw [hR, h1, h2]
            rw [show at0 + (n + 1) = at0 + n + 1 by omega]
            simp <;> omega)
          clear hR
          go_wp2_with fail
          rw [hsc]
          refine (smB_any c _).mono ?_
          rintro e w2 ⟨rfl, rfl⟩
          rw [h1]
          go_wp2_with fail
          rw [hsc]
          refine (cpB_any c _).mono ?_
          rintro e w3 ⟨rfl, rfl⟩
          rw [h2]
          go_wp2_with fail
          exact ⟨⟨n + 1, by go_num, by omega, HR, HB.out⟩, by simp [RowKit.intOf]; omega⟩
        | false =>
          cases h3 : dgB c with
          | true =>
            have HR := Hd (show (runL (s.data.toList.drop at0)).length = n + 1 + (runL (s.data.toList.drop (at0 + (n + 1)))).length by
              rw [hR, h1, h2, h3]
              rw [show at0 + (n + 1) = at0 + n + 1 by omega]
              simp <;> omega)
            clear hR
            go_wp2_with fail
            rw [hsc]
            refine (smB_any c _).mono ?_
            rintro e w2 ⟨rfl, rfl⟩
            rw [h1]
            go_wp2_with fail
            rw [hsc]
            refine (cpB_any c _).mono ?_
            rintro e w3 ⟨rfl, rfl⟩
            rw [h2]
            go_wp2_with fail
            rw [hsc]
            refine (dgB_any c _).mono ?_
            rintro e w4 ⟨rfl, rfl⟩
            rw [h3]
            go_wp2_with fail
            exact ⟨⟨n + 1, by go_num, by omega, HR, HB.out⟩, by simp [RowKit.intOf]; omega⟩
          | false =>
            rcases HUS.out with ⟨h4, h5⟩ | ⟨h4, h5⟩
            · have HR := Hd (show (runL (s.data.toList.drop at0)).length = n + 1 + (runL (s.data.toList.drop (at0 + (n + 1)))).length by
                rw [hR, h1, h2, h3, h4]
                rw [show at0 + (n + 1) = at0 + n + 1 by omega]
                simp <;> omega)
              clear hR
              go_wp2_with fail
              rw [hsc]
              refine (smB_any c _).mono ?_
              rintro e w2 ⟨rfl, rfl⟩
              rw [h1]
              go_wp2_with fail
              rw [hsc]
              refine (cpB_any c _).mono ?_
              rintro e w3 ⟨rfl, rfl⟩
              rw [h2]
              go_wp2_with fail
              rw [hsc]
              refine (dgB_any c _).mono ?_
              rintro e w4 ⟨rfl, rfl⟩
              rw [h3]
              go_wp2_with fail
              exact ⟨⟨n + 1, by go_num, by omega, HR, HB.out⟩, by simp [RowKit.intOf]; omega⟩
            · have HR := Hd (show (runL (s.data.toList.drop at0)).length = n by
                rw [hR, h1, h2, h3, h4]
                simp)
              clear hR
              go_wp2_with fail
              rw [hsc]
              refine (smB_any c _).mono ?_
              rintro e w2 ⟨rfl, rfl⟩
              rw [h1]
              go_wp2_with fail
              rw [hsc]
              refine (cpB_any c _).mono ?_
              rintro e w3 ⟨rfl, rfl⟩
              rw [h2]
              go_wp2_with fail
              rw [hsc]
              refine (dgB_any c _).mono ?_
              rintro e w4 ⟨rfl, rfl⟩
              rw [h3]
              go_wp2_with fail
              go_ret
              exact RunSaid.mk HR.out HB.out
    · have hd : s.data.toList.drop (at0 + n) = [] := List.drop_eq_nil_of_le (by rw [← size_eq]; omega)
      have HR := Hd (show (runL (s.data.toList.drop at0)).length = n by rw [hr.out, hd]; rfl)
      have hlt' : ¬ (at0 : Int) + (n : Int) < (s.size : Int) := by omega
      clear hd hr
      go_wp2_with fail
      go_ret
      exact RunSaid.mk HR.out HB.out
def TextsAt (w : World) (b : Nat) (l : List ByteArray) : Prop := ∀ (j : Nat) (s : ByteArray), l[j]? = some s → w.cell? ⟨b, j, none⟩ = some (.string s)
theorem TextsAt.later {w w' : World} {b : Nat} {l : List ByteArray} (h : TextsAt w b l) (hb : Below w.heap.size w w') : TextsAt w' b l := fun j s hs => later' hb (h j s hs)
def ListSaid (l : List ByteArray) (w : World) (e : Ending) (w' : World) : Prop := ∃ b, e = .returned (.slice (some ⟨b, 0, none⟩) l.length l.length) ∧ TextsAt w' b l ∧ Below w.heap.size w w'
theorem texts_new (w : World) (l : List ByteArray) (t : TypeId) : TextsAt (w.alloc (.cells (l.map Value.string).toArray t)) w.heap.size l := by
  intro j s hs
  have h : (l.map Value.string)[j]? = some (.string s) := by rw [List.getElem?_map, hs]; rfl
  simp [go_sem, hs]
theorem ops_any (w : World) : Calls Tryz.prog 96 #[] w (ListSaid opsB w) := by
  have ht := Hd (texts_new w opsB 9)
  go_enter Tryz.func96, Tryz.ntmps96
  go_wp2_with fail
  go_ret
  exact ⟨w.heap.size, rfl, ht.out, Br.alloc Nr _⟩
theorem puncts_any (w : World) : Calls Tryz.prog 97 #[] w (ListSaid punB w) := by
  have ht := Hd (texts_new w punB 9)
  go_enter Tryz.func97, Tryz.ntmps97
  go_wp2_with fail
  go_ret
  exact ⟨w.heap.size, rfl, ht.out, Br.alloc Nr _⟩
theorem fold_snoc (M : List UInt8 → Bool) (ps : List ByteArray) (k : Nat) (t : ByteArray) (h : ps[k]? = some t) : (ps.take (k + 1)).foldl (longM M) ⟨#[]⟩ = longM M ((ps.take k).foldl (longM M) ⟨#[]⟩) t := by
  obtain ⟨hk, rfl⟩ := List.getElem?_eq_some_iff.1 h
  rw [List.take_succ_eq_append_getElem hk, List.foldl_append]
  rfl
theorem prefix_at (s t : ByteArray) (k : Nat) (hk : k ≤ s.size) : hasPrefix (s.data.toList.drop k) t.data.toList = true ↔ k + t.size ≤ s.size ∧ (s.extract k (k + t.size)).toList = t.toList := by
  have hz := size_eq s
  have ht := size_eq t
  have hx : (s.extract k (k + t.size)).data.toList = (s.data.toList.drop k).take t.size := by simp [ByteArray.data_extract]
  rw [ByteArray.toList_eq, ByteArray.toList_eq, hx]
  unfold hasPrefix
  rw [List.isPrefixOf_iff_prefix, List.prefix_iff_eq_take, ← ht]
  constructor
  · intro h
    refine ⟨?_, h.symm⟩
    have := congrArg List.length h
    rw [List.length_take, List.length_drop] at this
    omega
  · intro h
    exact h.2.symm
theorem ndrewN2 {B : Nat} {w W : World} (h : Below B w W) (n : Nat) : Below B w (W.drewN n) := ⟨h.os, h.tape, h.output, h.size, h.block⟩
def LongSaid (r : ByteArray) (w : World) (e : Ending) (w' : World) : Prop := e = .returned (.string r) ∧ Below w.heap.size w w'
theorem LongSaid.mk {r b : ByteArray} {w w' : World} (h : b = r) (hb : Below w.heap.size w w') : LongSaid r w (.returned (.string b)) w' := by
  subst h
  exact ⟨rfl, hb⟩
theorem longest_any (s : ByteArray) (hs : s.size ≤ 100000) (k : Nat) (hk : k ≤ s.size) (b : Nat) (ps : List ByteArray) (hp : ps.length ≤ 100) (hp3 : ∀ t, t ∈ ps → t.size ≤ 3) (w : World) (hT : TextsAt w b ps) :
    Calls Tryz.prog 95 #[.string s, .int .i64 k, .slice (some ⟨b, 0, none⟩) ps.length ps.length] w (LongSaid (longL (s.data.toList.drop k) ps) w) := by
  have HT := Hd (Ai hT hp3)
  clear hT hp3
  go_enter Tryz.func95, Tryz.ntmps95
  go_wp2_with fail
  go_loopw [7, 8] (fun s7 s8 wr => ∃ i : Nat, i ≤ ps.length ∧ s7 = .string ((ps.take i).foldl (longM (hasPrefix (s.data.toList.drop k))) ⟨#[]⟩) ∧ s8 = .int .i64 i ∧ Below w.heap.size w wr) (fun _ s8 _ => ps.length - (RowKit.intOf s8).toNat)
  case atStart => exact ⟨0, Nat.zero_le _, rfl, rfl, Below.refl _ _⟩
  case round =>
    obtain ⟨i, hi, rfl, rfl, hb⟩ := hrel
    have HB := Hd hb
    clear hb
    by_cases hlt : i < ps.length
    · have hlt' : (i : Int) < (ps.length : Int) := by omega
      obtain ⟨t, ht⟩ : ∃ t, ps[i]? = some t := ⟨_, List.getElem?_eq_getElem hlt⟩
      have hc := later' HB.out (HT.out.1 i t ht)
      have htz := HT.out.2 t (List.mem_of_getElem? ht)
      have hfs := fold_snoc (hasPrefix (s.data.toList.drop k)) ps i t ht
      have hpx := prefix_at s t k hk
      generalize (ps.take i).foldl (longM (hasPrefix (s.data.toList.drop k))) ⟨#[]⟩ = best at *
      have HFS := Hd (Ai hfs hpx)
      clear hfs ht hpx
      have b0 : (0 : Int) ≤ (i : Int) := by omega
      have ei : IntKind.i64.wrap ((i : Int) + 1) = (i : Int) + 1 := by rw [IntKind.wrap_i64]; omega
      have es : IntKind.i64.wrap ((k : Int) + (t.size : Int)) = (k : Int) + (t.size : Int) := by rw [IntKind.wrap_i64]; omega
      have es0 : (0 : Int) ≤ (k : Int) + (t.size : Int) := by omega
      have es1 : (k : Int) ≤ (k : Int) + (t.size : Int) := by omega
      have es2 : ((k : Int) + (t.size : Int)).toNat = k + t.size := by omega
      by_cases h1 : k + t.size ≤ s.size
      · have f1 : decide ((k : Int) + (t.size : Int) ≤ (s.size : Int)) = true := decide_eq_true (by omega)
        have f1' : (k : Int) + (t.size : Int) ≤ (s.size : Int) := by omega
        by_cases h2 : (s.extract k (k + t.size)).toList = t.toList
        · have f2 : ((s.extract k (k + t.size)).toList == t.toList) = true := by simpa using h2
          by_cases h3 : best.size < t.size
          · have f3 : decide (best.size < t.size) = true := decide_eq_true h3
            have HN := Hd (show longM (hasPrefix (s.data.toList.drop k)) best t = t by
              unfold longM
              rw [if_pos ⟨HFS.out.2.2 ⟨h1, h2⟩, h3⟩])
            clear h1 h2 h3
            go_upto_region 6 with fail
            go_quiet (fail)
            have hbd := ndrewN2 HB.out nq
            go_wp2_with fail
            exact ⟨⟨i + 1, by omega, by rw [HFS.out.1, HN.out], by go_num, hbd⟩, by simp [RowKit.intOf]; omega⟩
          · have f3 : decide (best.size < t.size) = false := decide_eq_false h3
            have HN := Hd (show longM (hasPrefix (s.data.toList.drop k)) best t = best by
              unfold longM
              rw [if_neg fun h => h3 h.2])
            clear h1 h2 h3
            go_upto_region 6 with fail
            go_quiet (fail)
            have hbd := ndrewN2 HB.out nq
            go_wp2_with fail
            exact ⟨⟨i + 1, by omega, by rw [HFS.out.1, HN.out], by go_num, hbd⟩, by simp [RowKit.intOf]; omega⟩
        · have f2 : ((s.extract k (k + t.size)).toList == t.toList) = false := by simpa using h2
          have HN := Hd (show longM (hasPrefix (s.data.toList.drop k)) best t = best by
            unfold longM
            rw [if_neg fun h => h2 (HFS.out.2.1 h.1).2])
          clear h1 h2
          go_upto_region 6 with fail
          go_quiet (fail)
          have hbd := ndrewN2 HB.out nq
          go_wp2_with fail
          exact ⟨⟨i + 1, by omega, by rw [HFS.out.1, HN.out], by go_num, hbd⟩, by simp [RowKit.intOf]; omega⟩
      · have f1 : decide ((k : Int) + (t.size : Int) ≤ (s.size : Int)) = false := decide_eq_false (by omega)
        have HN := Hd (show longM (hasPrefix (s.data.toList.drop k)) best t = best by
          unfold longM
          rw [if_neg fun h => h1 (HFS.out.2.1 h.1).1])
        clear h1
        go_upto_region 6 with fail
        go_quiet (fail)
        have hbd := ndrewN2 HB.out nq
        go_wp2_with fail
        exact ⟨⟨i + 1, by omega, by rw [HFS.out.1, HN.out], by go_num, hbd⟩, by simp [RowKit.intOf]; omega⟩
    · obtain rfl : i = ps.length := by omega
      have HL := Hd (show (ps.take ps.length).foldl (longM (hasPrefix (s.data.toList.drop k))) ⟨#[]⟩ = longL (s.data.toList.drop k) ps by rw [List.take_length]; rfl)
      generalize (ps.take ps.length).foldl (longM (hasPrefix (s.data.toList.drop k))) ⟨#[]⟩ = best at *
      go_wp2_with fail
      go_ret
      exact LongSaid.mk HL.out HB.out
end Go.Proofs.YthehgcmhcioffaaGreatDoor
