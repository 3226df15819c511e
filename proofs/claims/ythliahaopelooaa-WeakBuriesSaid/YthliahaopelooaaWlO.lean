/- WeakBuries: its walk. -/
import Derived.Test.YthliahaopelooaaWlN
import Derived.Test.YthliahaopelooaaWlQ
namespace Go.Proofs.Ythliahaopelooaa
open Go.RowKit

theorem Nums.later {w w' : World} {a : Option Addr} {n : Nat} {ws : Nat → Int} (h : Nums w a n ws) (hb : Below w.heap.size w w') : Nums w' a n ws := fun i hi => by
  obtain ⟨b, off, h1, h2, h3, h4⟩ := h i hi
  exact ⟨b, off, h1, Nat.lt_of_lt_of_le h2 hb.size, later' hb h3, h4⟩

section
variable {Kx : Nat → Prop} {S : LSp} {m : LM} {W : World} {F : List Int} {rn qn : List Nat} {mk : Nat → Bool}
theorem LS.own {W' : World} (h : LS Kx S m F rn qn mk W) (hb : Below W.heap.size W W') {q : Nat} (h1 : W.heap.size ≤ q) (h2 : q < W'.heap.size) : LS (fun b => Kx b ∨ b = q) S m F rn qn mk W' := by
  obtain ⟨u, hu⟩ := h.lm
  exact ⟨⟨u, hu.own hb h1 h2⟩, h.ws, h.mks, h.dr, h.ma, h.sl⟩
theorem ls_mark0 (h : LS Kx S m F rn qn mk W) (h0 : m.weaks.length = 0) (n : Int) :
    Calls Try.prog 11 #[.pointer (some ⟨S.wb, 0, none⟩), .int .i64 n] W fun e w' => e = .returned (.tuple #[]) ∧ w' = W := by
  obtain ⟨u, hu⟩ := h.lm
  obtain ⟨a4, cap4, c4, -⟩ := hu.weaksAt
  rw [h0] at c4
  clear hu h
  go_enter Try.func11, Try.ntmps11
  go_wp2_with fail
  refine bodyPost_ret (v := .tuple #[]) (by simp [results, Try.results11, go_sem]) rfl ?_
  exact ⟨rfl, rfl⟩
theorem ls_mark_all (h : LS Kx S m F rn qn mk W) (h1 : m.weaks.length < 100) (hc : m.marked.length ≤ cnt mk m.weaks.length) (n : Int) (hn1 : -9223372036854775808 ≤ n) (hn2 : n ≤ 9223372036854775807) :
    Calls Try.prog 11 #[.pointer (some ⟨S.wb, 0, none⟩), .int .i64 n] W fun e w' => e = .returned (.tuple #[]) ∧ ∃ m' mk', LS Kx S m' F rn qn mk' w' ∧ Kp Kx W w' ∧ m'.weaks = m.weaks ∧ m'.marked.length ≤ cnt mk' m'.weaks.length := by
  by_cases h0 : m.weaks.length = 0
  · refine (ls_mark0 h h0 n).mono ?_
    rintro e w' ⟨rfl, rfl⟩
    exact ⟨rfl, m, mk, h, Kp.refl _ _, rfl, hc⟩
  · refine (ls_mark h (by omega) h1 hc n hn1 hn2).mono ?_
    rintro e w' ⟨rfl, m', mk', a1, a2, a3, -, -, -, -, a4⟩
    exact ⟨rfl, m', mk', a1, a2, a3, a4⟩
end

set_option maxHeartbeats 16000000 in
set_option maxRecDepth 100000 in
theorem buries_walk (n0 : Int) (a1 : Option Addr) (l1 c1 : Nat) (ws1 : Nat → Int) (w : World) (h00 : 0 ≤ n0) (h01 : n0 ≤ 255) (hv : Nums w a1 l1 ws1) :
    Calls Try.prog 4 #[.int .u8 n0, .slice a1 l1 c1] w fun e w' => e = .returned (.bool true) ∧ Below w.heap.size w w' := by
  obtain ⟨O, hO, hO12⟩ : ∃ N : Nat, n0.tmod 12 = N ∧ N < 12 := ⟨n0.toNat % 12, by rw [Int.tmod_eq_emod_of_nonneg h00]; omega, Nat.mod_lt _ (by decide)⟩
  have HV0 := Lib.hid hv
  clear hv
  go_enter Try.func4, Try.ntmps4
  go_wp2_with fail
  refine (wawake_any w).mono ?_
  rintro e w0 ⟨rfl, hb0⟩
  have HB0 := Lib.hid hb0
  have HV := Lib.hid (HV0.out.later hb0)
  clear hb0 HV0
  by_cases h40 : (40 : Int) < (l1 : Int)
  · go_wp2_with fail
    go_ret
    exact ⟨rfl, HB0.out⟩
  go_wp2_with fail
  refine (ls_made w0).mono ?_
  rintro e w1 ⟨S, rfl, hl1, hb1⟩
  have H1 := Lib.hid (And.intro hl1 hb1)
  clear hl1 hb1
  go_wp2_with fail
  go_loopw [7] (fun s7 wr => ∃ (i : Nat) (m : LM) (F : List Int) (mk : Nat → Bool), i ≤ O ∧ s7 = .int .i64 i ∧ LS (fun b => b < w0.heap.size) S m F (dn i) [] mk wr ∧ Kp (fun b => b < w0.heap.size) w0 wr ∧ m.weaks.length = i ∧ m.cy = false) (fun s7 _ => O - (intOf s7).toNat)
  case atStart => exact ⟨0, m0, [], _, Nat.zero_le _, rfl, H1.out.1, Kp.of_below H1.out.2 fun _ h => h, rfl, rfl⟩
  case round =>
    clear H1
    obtain ⟨i, m, F, mk, hi, rfl, hl, hk, hn, hcy⟩ := hrel
    have HL := Lib.hid (And.intro hl (And.intro hk (And.intro hn hcy)))
    clear hl hk hn hcy
    by_cases hlt : i < O
    · have hlt' : (i : Int) < (O : Int) := by omega
      have HA := Lib.hid (ls_add HL.out.1 (by have := HL.out.2.2.1; omega))
      go_wp2_with fail
      refine HA.out.mono ?_
      rintro e w2 ⟨rfl, m', F', hl', hk', ho', -⟩
      rw [HL.out.2.2.1] at hl'
      have HE := Lib.hid (And.intro hl' (And.intro (HL.out.2.1.trans hk') (And.intro (ho'.n.trans (by rw [HL.out.2.2.1])) (ho'.cy.trans HL.out.2.2.2))))
      clear hl' hk' ho' HA HL
      go_wp2_with fail
      go_roundw
      case rel => exact ⟨i + 1, m', F', _, by omega, by go_num, HE.out.1, HE.out.2.1, HE.out.2.2.1, HE.out.2.2.2⟩
      case measure => simp [intOf]; omega
    · obtain rfl : i = O := by omega
      obtain ⟨u2, hu2⟩ := HL.out.1.lm
      obtain ⟨⟨v5, d5⟩, z5⟩ := hu2.d5
      have hnil := hu2.nil_marked
      have hln := HL.out.1.pushed hnil.1 (Nat.zero_le _)
      obtain ⟨u3, hu3⟩ := hln.lm
      have c0 := hu3.c0
      have HB := Lib.hid (ls_begin hln HL.out.2.2.2)
      have H2 := Lib.hid (And.intro (HL.out.2.1.trans hnil.2) HL.out.2.2.1)
      clear hu2 hnil hln hu3 HL
      go_wp2_with fail
      refine HB.out.mono ?_
      rintro e w3 ⟨rfl, hl3, hk3⟩
      have H3 := Lib.hid (And.intro hl3 (And.intro (H2.out.1.trans hk3) (And.intro (show ({ ({ m with marked := [] } : LM) with cy := true, par := 1 - ({ m with marked := [] } : LM).par } : LM).weaks.length = i from H2.out.2) (show ({ ({ m with marked := [] } : LM) with cy := true, par := 1 - ({ m with marked := [] } : LM).par } : LM).marked.length ≤ cnt (fun _ => false) ({ ({ m with marked := [] } : LM) with cy := true, par := 1 - ({ m with marked := [] } : LM).par } : LM).weaks.length from Nat.zero_le _))))
      generalize ({ ({ m with marked := [] } : LM) with cy := true, par := 1 - ({ m with marked := [] } : LM).par } : LM) = m3 at *
      clear hl3 hk3 HB H2 c0 d5 z5
      go_wp2_with fail
      go_loopw [8] (fun s8 wr => ∃ (j : Nat) (m' : LM) (mk : Nat → Bool), j ≤ l1 ∧ s8 = .int .i64 j ∧ LS (fun b => b < w0.heap.size) S m' F (dn i) [] mk wr ∧ Kp (fun b => b < w0.heap.size) w0 wr ∧ m'.weaks.length = i ∧ m'.marked.length ≤ cnt mk m'.weaks.length) (fun s8 _ => l1 - (intOf s8).toNat)
      case atStart => exact ⟨0, m3, _, Nat.zero_le _, rfl, H3.out.1, H3.out.2.1, H3.out.2.2.1, H3.out.2.2.2⟩
      case round =>
        clear H3
        obtain ⟨j, m4, mk4, hj, rfl, hl4, hk4, hn4, hm4⟩ := hrel
        by_cases hlt : j < l1
        · have hlt' : (j : Int) < (l1 : Int) := by omega
          obtain ⟨b1, off1, rfl, -, e1, e2, e3⟩ := (HV.out.later hk4.below) j hlt
          have HM := Lib.hid (ls_mark_all hl4 (by omega) hm4 (ws1 j) e2 e3)
          have H4 := Lib.hid (And.intro hk4 hn4)
          clear hl4 hk4 hn4 hm4 e2 e3
          generalize ws1 j = x1 at *
          go_wp2_with fail
          refine HM.out.mono ?_
          rintro e w5 ⟨rfl, m5, mk5, hl5, hk5, ew5, hm5⟩
          have HE := Lib.hid (And.intro hl5 (And.intro (H4.out.1.trans hk5) (And.intro (show m5.weaks.length = i by rw [ew5]; exact H4.out.2) hm5)))
          clear hl5 hk5 ew5 hm5 HM H4 e1
          go_wp2_with fail
          go_roundw
          case rel => exact ⟨j + 1, m5, mk5, by omega, by go_num, HE.out⟩
          case measure => simp [intOf]; omega
        · have hlt' : ¬ (j : Int) < (l1 : Int) := by omega
          obtain ⟨u4, hu4⟩ := hl4.lm
          have d1 := hu4.c1
          have HT := Lib.hid (ls_tbegin hl4)
          have H4 := Lib.hid (And.intro hk4 hn4)
          clear hl4 hk4 hn4 hm4 hu4 HV
          go_wp2_with fail
          refine HT.out.mono ?_
          rintro e w5 ⟨rfl, hl5, hk5⟩
          have H5 : Hid (Lb w0 S i 0 mk4 { m4 with nx := ((dn i).map (pl m4)).headD 0 } F [] [] w5) := Lib.hid ⟨hl5, H4.out.2, Nx.start _ _, H4.out.1.trans hk5⟩
          generalize ({ m4 with nx := ((dn i).map (pl m4)).headD 0 } : LM) = m5 at *
          clear hl5 hk5 HT H4 d1
          go_wp2_with fail
          go_loopw [9] (fun s9 wr => ∃ (k : Nat) (m' : LM) (pre qn : List Nat), k ≤ i + 1 ∧ s9 = .int .i64 k ∧ Lb w0 S i k mk4 m' F pre qn wr) (fun s9 _ => i + 1 - (intOf s9).toNat)
          case atStart => exact ⟨0, m5, [], [], Nat.zero_le _, rfl, H5.out⟩
          case round =>
            clear H5
            obtain ⟨k, m6, pre, qn, hk, rfl, h6⟩ := hrel
            have H6 := Lib.hid h6
            obtain ⟨a4, cap4, c4, -⟩ := h6.c4
            have d1 := h6.c1
            clear h6
            rcases (show k < i ∨ k = i ∨ k = i + 1 by omega) with hlt | rfl | rfl
            · have hle : (k : Int) ≤ (i : Int) := by omega
              have hlt' : (k : Int) < (i : Int) := by omega
              obtain ⟨q, hq⟩ : ∃ q, i - 1 - k = q := ⟨_, rfl⟩
              have hqi : q < i := by omega
              cases hm : mk4 q with
              | true =>
                have HS := Lib.hid (lb_keep H6.out hlt (by omega) (by rw [hq]; exact hm))
                rw [hq] at HS
                clear hm H6 hq
                go_wp2_with fail
                refine HS.out.mono ?_
                rintro e w7 ⟨rfl, m7, pre7, h7⟩
                have H7 := Lib.hid h7
                obtain ⟨a7, cap7, c7, -⟩ := h7.c4
                clear h7 HS c4 d1
                go_wp2_with fail
                go_roundw
                case rel => exact ⟨k + 1, m7, pre7, qn, by omega, by go_num, H7.out⟩
                case measure => simp [intOf]; omega
              | false =>
                have HS := Lib.hid (lb_bury H6.out hlt (by omega) (by rw [hq]; exact hm))
                rw [hq] at HS
                clear hm H6 hq
                go_wp2_with fail
                refine HS.out.mono ?_
                rintro e w7 ⟨rfl, m7, h7⟩
                have H7 := Lib.hid h7
                obtain ⟨a7, cap7, c7, hc7⟩ := h7.c4
                obtain ⟨g7, rfl, e7⟩ := hc7 q hqi
                have hqz : ¬ (q : Int) < 0 := by omega
                have hqi' : ¬ (i : Int) ≤ (q : Int) := by omega
                have hqi2 : (q : Int) < (i : Int) := by omega
                have d0 := h7.c0
                have hmem : q ∈ qn ++ [q] := by simp
                have HC := Lib.hid (lb_cell h7 (n := q) hmem)
                have hvq := h7.ls.ws.vq q hmem
                have hvf := h7.ls.ws.vf q (Or.inr hmem)
                have hfp := h7.ls.ws.fp q (by rw [h7.n]; exact hqi)
                obtain ⟨f2, hf2⟩ : ∃ f, F.getD q 0 = f := ⟨_, rfl⟩
                rw [hf2] at hvf hfp
                obtain ⟨p7, hp⟩ : ∃ p, pl m7 q = p := ⟨_, rfl⟩
                rw [hp] at HC e7
                have HP := Lib.hid (And.intro hmem (And.intro hp (And.intro hvq hvf)))
                have hf0 : ¬ f2 = 0 := by omega
                clear h7 HS c4 d1 hc7 hvq hvf hfp hf2 hp hmem
                go_wp2_with fail
                refine HC.out.mono ?_
                rintro e w8 ⟨⟨om, rfl⟩, h8⟩
                have hx := (Below.refl w8.heap.size w8).alloc (Nat.le_refl _) (.cells #[.int .i64 10, .int .i64 4, .int .i64 q, .int .i64 om] 46)
                obtain ⟨b0, -, b2, -⟩ := box_cells w8 (.int .i64 10) (.int .i64 4) (.int .i64 q) (.int .i64 om) 46
                have h9 := h8.ls.own hx (q := w8.heap.size) (Nat.le_refl _) (by show _ < (w8.heap.push _).size; simp)
                have h9b := h8.later hx
                have G1 := Lib.hid (ls_get h9 HP.out.1 (j := 0) (by decide) (by decide) HP.out.2.2.1.1)
                rw [HP.out.2.1] at G1
                have H9 := Lib.hid (And.intro h9b (And.intro b0 b2))
                replace d0 := h9b.c0
                clear h8 hx b0 b2 h9 h9b HC c7 e7
                go_wp2_with fail
                generalize (w8.alloc (.cells #[.int .i64 10, .int .i64 4, .int .i64 q, .int .i64 om] 46)) = w9 at *
                refine G1.out.mono ?_
                rintro e w10 ⟨rfl, h10, k10⟩
                have G2 := Lib.hid (ls_get h10 HP.out.1 (j := 1) (by decide) (by decide) HP.out.2.2.1.2)
                rw [HP.out.2.1] at G2
                have H10 := Lib.hid (And.intro (H9.out.1.kp.trans (k10.mono fun _ h => Or.inl h)) (And.intro (k10.cell (Or.inr rfl) H9.out.2.1) (And.intro (k10.cell (Or.inr rfl) H9.out.2.2) (And.intro H9.out.1.n H9.out.1.nx))))
                obtain ⟨u10, hu10⟩ := h10.lm
                replace d0 := hu10.c0
                clear h10 k10 G1 H9 hu10
                go_wp2_with fail
                refine G2.out.mono ?_
                rintro e w11 ⟨rfl, h11, k11⟩
                have G3 := Lib.hid (ls_get h11 HP.out.1 (j := 2) (v := f2) (by decide) (by decide) HP.out.2.2.2)
                rw [HP.out.2.1] at G3
                have H11 := Lib.hid (And.intro (H10.out.1.trans (k11.mono fun _ h => Or.inl h)) (And.intro (k11.cell (Or.inr rfl) H10.out.2.1) (And.intro (k11.cell (Or.inr rfl) H10.out.2.2.1) H10.out.2.2.2)))
                obtain ⟨u11, hu11⟩ := h11.lm
                replace d0 := hu11.c0
                clear h11 k11 G2 H10 hu11
                go_wp2_with fail
                refine G3.out.mono ?_
                rintro e w12 ⟨rfl, h12, k12⟩
                have b0 := k12.cell (Or.inr rfl) H11.out.2.1
                have b2 := k12.cell (Or.inr rfl) H11.out.2.2.1
                have HE : Hid (Lb w0 S i (k + 1) mk4 m7 F pre (qn ++ [q]) w12) := Lib.hid ⟨h12.less fun _ h => Or.inl h, H11.out.2.2.2.1, H11.out.2.2.2.2, H11.out.1.trans (k12.mono fun _ h => Or.inl h)⟩
                clear h12 k12 G3 H11 HP d0
                go_wp2_with fail
                go_roundw
                case rel => exact ⟨k + 1, m7, pre, qn ++ [q], by omega, by go_num, HE.out⟩
                case measure => simp [intOf]; omega
            · have hle : (k : Int) ≤ (k : Int) := by omega
              have HS := Lib.hid (lb_none H6.out)
              clear H6
              go_wp2_with fail
              refine HS.out.mono ?_
              rintro e w7 ⟨rfl, h7⟩
              have H7 := Lib.hid h7
              obtain ⟨a7, cap7, c7, -⟩ := h7.c4
              clear h7 HS c4 d1
              go_wp2_with fail
              go_roundw
              case rel => exact ⟨k + 1, m6, pre, qn, by omega, by go_num, H7.out⟩
              case measure => first | (simp [intOf]; done) | (simp [intOf]; omega)
            · have hle : ¬ ((i + 1 : Nat) : Int) ≤ (i : Int) := by omega
              have HG := Lib.hid H6.out.lg
              clear H6 d1
              go_wp2_with fail
              clear hle c4
              go_loopw [] (fun wr => ∃ (m' : LM) (rn qn : List Nat) (ws : List Int), Lg w0 S i m' F rn qn ws wr) (fun wr => tbCn S wr)
              case atStart => exact ⟨_, _, _, _, HG.out⟩
              case round =>
                clear HG
                obtain ⟨m7, rn, qn7, ws7, hg⟩ := hrel
                have d1 := hg.c1
                have HG := Lib.hid hg
                cases qn7 with
                | nil =>
                  have HS := Lib.hid (lg_none hg)
                  clear hg
                  go_wp2_with fail
                  refine HS.out.mono ?_
                  rintro e w8 ⟨rfl, h8⟩
                  have HQ := Lib.hid (lg_queue h8)
                  replace d1 := h8.c1
                  clear h8 HS HG
                  go_wp2_with fail
                  refine HQ.out.mono ?_
                  rintro e w9 ⟨⟨a9, cap9, rfl⟩, k9⟩
                  have HE := Lib.hid k9.below
                  clear k9 HQ d1
                  go_wp2_with fail
                  go_ret
                  exact ⟨rfl, HB0.out.trans (HE.out.mono HB0.out.size)⟩
                | cons n qs =>
                  have HS := Lib.hid (lg_take hg (by omega))
                  have hni : n < i := by rw [← hg.n]; exact hg.st.ql n (by simp)
                  have hfp := hg.st.fp n (by rw [hg.n]; exact hni)
                  have hwq := hg.wq n (by simp)
                  have hnq : n ∉ qs := (List.nodup_cons.1 (List.nodup_append.1 hg.st.rnd).2.1).1
                  have hcn := hg.cn
                  have HN := Lib.hid (And.intro hwq (And.intro hnq hcn))
                  obtain ⟨f, hf⟩ : ∃ f, F.getD n 0 = f := ⟨_, rfl⟩
                  obtain ⟨pt, hpt⟩ : ∃ p, pl m7 n = p := ⟨_, rfl⟩
                  rw [hf] at HS hfp
                  rw [hpt] at HS HN
                  clear hg hwq hnq hcn HG hf hpt
                  go_wp2_with fail
                  refine HS.out.mono ?_
                  rintro e w8 ⟨rfl, m8, h8, esh, ho, v2, v3⟩
                  have G1 := Lib.hid (lg_get h8 ho (j := 2) (by decide) (by decide) v2)
                  have H8 := Lib.hid (And.intro ho (And.intro v3 esh))
                  have d0 := h8.c0
                  clear h8 esh ho v2 v3 HS d1
                  go_wp2_with fail
                  refine G1.out.mono ?_
                  rintro e w9 ⟨rfl, h9⟩
                  have G2 := Lib.hid (lg_get h9 H8.out.1 (j := 3) (by decide) (by decide) H8.out.2.1)
                  replace d0 := h9.c0
                  clear h9 G1
                  go_wp2_with fail
                  refine G2.out.mono ?_
                  rintro e w10 ⟨rfl, h10⟩
                  have H10 := Lib.hid (And.intro h10 H8.out.2.2)
                  clear h10 G2 H8 d0
                  obtain ⟨a6, cap6, c6, hc6⟩ := H10.out.1.sh
                  have hpl : m7.shaded.length < m8.shaded.length := by rw [H10.out.2]; simp only [List.length_append, List.length_cons, List.length_nil]; omega
                  have hpv : m8.shaded.getD m7.shaded.length 0 = f := by
                    rw [H10.out.2, List.append_assoc, List.getD_eq_getElem?_getD, List.getElem?_append_right (Nat.le_refl _), Nat.sub_self]
                    rfl
                  obtain ⟨L, hL⟩ : ∃ L, m8.shaded.length = L := ⟨_, rfl⟩
                  rw [hL] at c6 hc6 hpl
                  obtain ⟨ps, hps⟩ : ∃ p, m7.shaded.length = p := ⟨_, rfl⟩
                  rw [hps] at hpv hpl
                  have HS6 := Lib.hid (And.intro hc6 hpv)
                  have HG10 := Lib.hid H10.out.1
                  have hLb : L ≤ 1000 := by
                    have := H10.out.1.sl
                    omega
                  have hf0 : ¬ f = 0 := by omega
                  clear hc6 hpv hL hps H10
                  go_wp2_with fail
                  go_loopw [30, 31] (fun s30 s31 wr => ∃ (b : Bool) (t : Nat), t ≤ L ∧ s30 = .bool b ∧ s31 = .int .i64 t ∧ wr = w10 ∧ Hid (ps < t → b = true)) (fun _ s31 _ => L - (intOf s31).toNat)
                  case atStart => exact ⟨false, 0, Nat.zero_le _, rfl, rfl, rfl, Lib.hid fun h => absurd h (Nat.not_lt_zero _)⟩
                  case round =>
                    obtain ⟨b, t, htL, rfl, rfl, hwr, hbb⟩ := hrel
                    subst hwr
                    by_cases hlt : t < L
                    · have hlt' : (t : Int) < (L : Int) := by omega
                      obtain ⟨g6, rfl, e6⟩ := HS6.out.1 t hlt
                      cases b with
                      | true =>
                        clear e6
                        go_wp2_with fail
                        go_roundw
                        case rel => exact ⟨true, t + 1, by omega, rfl, by go_num, by simp, Lib.hid fun _ => rfl⟩
                        case measure => simp [intOf]; omega
                      | false =>
                        by_cases e : t = ps
                        · rw [e, HS6.out.2, ← e] at e6
                          clear e
                          go_wp2_with fail
                          go_roundw
                          case rel => exact ⟨true, t + 1, by omega, by first | rfl | simp, by go_num, by simp, Lib.hid fun _ => rfl⟩
                          case measure => simp [intOf]; omega
                        · have HNE := Lib.hid e
                          clear e
                          generalize m8.shaded.getD t 0 = v6 at *
                          go_wp2_with fail
                          go_roundw
                          case rel => exact ⟨decide (v6 = f), t + 1, by omega, by first | rfl | simp, by go_num, by simp, Lib.hid fun h => absurd (hbb.out (by have := HNE.out; omega)) Bool.false_ne_true⟩
                          case measure => simp [intOf]; omega
                    · obtain rfl : t = L := by omega
                      obtain rfl : b = true := hbb.out hpl
                      have hnz : ¬ (n : Int) < 0 := by omega
                      have hni' : ¬ (i : Int) ≤ (n : Int) := by omega
                      have hni2 : (n : Int) < (i : Int) := by omega
                      obtain ⟨g4, cap7, d4, hc4, z4, hset⟩ := HG10.out.row (by omega)
                      have e4 := hc4 n hni
                      rw [HN.out.1] at e4
                      have z4n := z4 n
                      have HE := Lib.hid (hset n HN.out.2.1)
                      clear hc4 z4 hset HS6 HG10 hbb
                      go_wp2_with fail
                      go_roundw
                      case rel => exact ⟨_, _, _, _, HE.out⟩
                      case measure =>
                        rw [HE.out.cn, HN.out.2.2]
                        simp

end Go.Proofs.Ythliahaopelooaa
