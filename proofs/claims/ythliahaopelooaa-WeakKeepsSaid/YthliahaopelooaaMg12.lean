import Derived.Test.YthliahaopelooaaMg11
/- WeakKeeps: its walk. -/
namespace Go.Proofs.Ythliahaopelooaa
open Go.RowKit
set_option maxHeartbeats 16000000 in
set_option maxRecDepth 100000 in
theorem keeps_walk (n : Int) (all : Bool) (w : World) (h0 : 0 ≤ n) (h1 : n ≤ 255) :
    Calls Try.prog 6 #[.int .u8 n, .bool all] w fun e w' => e = .returned (.bool true) ∧ Below w.heap.size w w' := by
  obtain ⟨N, hN, hN15⟩ : ∃ N : Nat, n.tmod 15 = N ∧ N < 15 := ⟨n.toNat % 15, by rw [Int.tmod_eq_emod_of_nonneg h0]; omega, Nat.mod_lt _ (by decide)⟩
  go_enter Try.func6, Try.ntmps6
  go_wp2_with fail
  refine (wawake_any w).mono ?_
  rintro e w0 ⟨rfl, hb0⟩
  have HB0 := Lib.hid hb0
  clear hb0
  go_wp2_with fail
  refine (ls_made w0).mono ?_
  rintro e w1 ⟨S, rfl, hl1, hb1⟩
  have H1 := Lib.hid (And.intro hl1 hb1)
  clear hl1 hb1
  go_wp2_with fail
  go_loopw [7] (fun s7 wr => ∃ (i : Nat) (m : LM) (F : List Int) (mk : Nat → Bool), i ≤ N ∧ s7 = .int .i64 i ∧ LS (fun b => b < w0.heap.size) S m F (dn i) [] mk wr ∧ Kp (fun b => b < w0.heap.size) w0 wr ∧ m.weaks.length = i ∧ m.cy = false) (fun s7 _ => N - (intOf s7).toNat)
  case atStart => exact ⟨0, m0, [], _, Nat.zero_le _, rfl, H1.out.1, Kp.of_below H1.out.2 fun _ h => h, rfl, rfl⟩
  case round =>
    clear H1
    obtain ⟨i, m, F, mk, hi, rfl, hl, hk, hn, hcy⟩ := hrel
    have HL := Lib.hid (And.intro hl (And.intro hk (And.intro hn hcy)))
    clear hl hk hn hcy
    by_cases hlt : i < N
    · have hlt' : (i : Int) < (N : Int) := by omega
      have HA := Lib.hid (ls_add HL.out.1 (by have := HL.out.2.2.1; omega))
      go_wp2_with fail
      refine HA.out.mono ?_
      rintro e w2 ⟨rfl, m', F', hl', hk', ho', -⟩
      rw [HL.out.2.2.1] at hl'
      have HE := Lib.hid (And.intro hl' (And.intro (HL.out.2.1.trans hk') (And.intro (ho'.n.trans (by rw [HL.out.2.2.1])) (ho'.cy.trans HL.out.2.2.2))))
      clear hl' hk' ho' HA HL
      go_wp2_with fail
      go_roundw
      case rel => exact ⟨i + 1, m', F', _, by omega, by go_num, HE.out.1, HE.out.2.1, HE.out.2.2.1, HE.out.2.2.2⟩
      case measure => simp [intOf]; omega
    · obtain rfl : i = N := by omega
      obtain ⟨u1, hu1⟩ := HL.out.1.lm
      have c1 := hu1.c1
      have HR := Lib.hid (ls_row HL.out.1 (by have := HL.out.2.2.1; omega))
      clear hu1
      go_wp2_with fail
      refine HR.out.mono ?_
      rintro e w2 ⟨v8, rfl, hv8, hl2, hk2⟩
      obtain ⟨a8, cap8, e8, hc8⟩ := rw_at hv8
      rw [List.length_map, dn_length] at e8 hc8
      subst e8
      have HV := Lib.hid hv8
      have H2 := Lib.hid (And.intro hl2 (And.intro (HL.out.2.1.trans hk2) (And.intro HL.out.2.2.1 HL.out.2.2.2)))
      obtain ⟨u2, hu2⟩ := hl2.lm
      have c0 := hu2.c0
      have HB := Lib.hid (ls_begin hl2 HL.out.2.2.2)
      clear hv8 hl2 hk2 hu2 HR HL hc8 c1
      go_wp2_with fail
      refine HB.out.mono ?_
      rintro e w3 ⟨rfl, hl3, hk3⟩
      have n3 : ({ m with cy := true, par := 1 - m.par } : LM).weaks.length = i := H2.out.2.2.1
      have p3 : pl ({ m with cy := true, par := 1 - m.par } : LM) = pl m := rfl
      generalize ({ m with cy := true, par := 1 - m.par } : LM) = m3 at *
      have H3 := Lib.hid (And.intro hl3 (And.intro (H2.out.2.1.trans (hk3.mono fun _ h => Or.inl h)) (And.intro n3 (HV.out.kp hk3 fun g hg => Or.inr hg))))
      have HP := Lib.hid p3
      clear hl3 hk3 HB H2 HV c0 n3 p3
      rw [← HP.out] at H3
      go_wp2_with fail
      go_loopw [9] (fun s9 wr => ∃ (j : Nat) (m' : LM) (mk : Nat → Bool), j ≤ i ∧ s9 = .int .i64 j ∧ LS (fun b => b < w0.heap.size ∨ (Value.slice a8 i cap8).ownBlock = some b) S m' F (dn i) [] mk wr ∧ Kp (fun b => b < w0.heap.size ∨ (Value.slice a8 i cap8).ownBlock = some b) w3 wr ∧ m'.weaks = m3.weaks ∧ (∀ q, q < j → mk q = true) ∧ (all = false → ∀ q, mk q = false)) (fun s9 _ => i - (intOf s9).toNat)
      case atStart => exact ⟨0, m3, _, Nat.zero_le _, rfl, H3.out.1, Kp.refl _ _, rfl, fun q hq => by omega, fun _ q => rfl⟩
      case round =>
        obtain ⟨j, m4, mk4, hj, rfl, hl4, hk4, ew4, hm4, hf4⟩ := hrel
        have H4 := Lib.hid (And.intro hl4 (And.intro hk4 (And.intro ew4 (And.intro hm4 hf4))))
        obtain ⟨u4, hu4⟩ := hl4.lm
        obtain ⟨a3, cap3, c3, hke⟩ := hu4.keysAt
        have hlk : m4.keys.length = i := by rw [hl4.ws.lk, ew4]; exact H3.out.2.2.1
        rw [hlk] at c3 hke
        have hdr : Below wr.heap.size wr wr.drew := (Below.refl _ _).drew
        have d0 := later' hdr hu4.c0
        have d3 := later' hdr c3
        have d1 := hu4.c1
        have HKE := Lib.hid hke
        clear hl4 hk4 ew4 hm4 hf4 hu4 hlk hke
        by_cases go : j < i ∧ all = true
        · obtain ⟨hlt, rfl⟩ := go
          have hlt' : (j : Int) < (i : Int) := by omega
          obtain ⟨g3, rfl, c5⟩ := HKE.out j hlt
          have d5 := later' hdr c5
          have h4d := H4.out.1.later hdr
          have HS := Lib.hid (ls_shade h4d.1 (n := j) (by have := H4.out.2.2.1; rw [this]; have := H3.out.2.2.1; omega))
          have HK4 := Lib.hid (H4.out.2.1.trans h4d.2)
          clear h4d hdr HKE
          generalize kl m4 j = key at *
          go_upto_region 17 with fail
          go_region_law (refine step_wanted rfl ?_; go_simp; go_at_call 27; refine HS.out.mono ?_; rintro e w5 ⟨rfl, m5, h5, k5, ew5, -, -, -, -, -, -⟩)
          all_goals
            have HE := Lib.hid (And.intro h5 (And.intro (HK4.out.trans k5) (ew5.trans H4.out.2.2.1)))
            have hm5 : ∀ q, q < j + 1 → (mk4 q || decide (q = j)) = true := fun q hq => by
              by_cases e : q = j
              · simp [e]
              · simp [H4.out.2.2.2.1 q (by omega)]
            have HMM := Lib.hid hm5
            clear h5 k5 ew5 hm5 HS HK4 H4 d0 d3 d5 d1
            go_wp2_with fail
            go_roundw
            case rel => exact ⟨j + 1, m5, _, by omega, by go_num, HE.out.1, HE.out.2.1, HE.out.2.2, HMM.out, fun h => by cases h⟩
            case measure => simp [intOf]; omega
        · have hmk : ∀ q, q < i → mk4 q = all := fun q hq => by
            cases hall : all with
            | false => exact H4.out.2.2.2.2 hall q
            | true => exact H4.out.2.2.2.1 q (by
                have : ¬ j < i := fun h => go ⟨h, hall⟩
                omega)
          have HMK := Lib.hid hmk
          have gcase : (all = true ∧ ¬ ((j : Int) < (i : Int))) ∨ (all = false ∧ ((j : Int) < (i : Int))) ∨ (all = false ∧ ¬ ((j : Int) < (i : Int))) := by
            cases hall : all with
            | false =>
              by_cases h : (j : Int) < (i : Int)
              · exact Or.inr (Or.inl ⟨rfl, h⟩)
              · exact Or.inr (Or.inr ⟨rfl, h⟩)
            | true => exact Or.inl ⟨rfl, fun h => go ⟨by omega, hall⟩⟩
          have HT := Lib.hid (ls_tbegin H4.out.1)
          have HN4 := Lib.hid (And.intro (show m4.weaks.length = i by rw [H4.out.2.2.1]; exact H3.out.2.2.1) (And.intro (show pl m4 = pl m3 by unfold pl; rw [H4.out.2.2.1]) H4.out.2.1))
          clear go hmk H4 HKE hdr d0 d3
          obtain ⟨a4, cap4, c4⟩ : ∃ a cap, wr.cell? ⟨S.wb, 3, none⟩ = some (.slice a i cap) := ⟨_, _, c3⟩
          clear c3
          rcases gcase with ⟨rfl, g1⟩ | ⟨rfl, g1⟩ | ⟨rfl, g1⟩
          · go_wp2_with fail
            refine HT.out.mono ?_
            rintro e w5 ⟨rfl, hl5, hk5⟩
            have n5 : ({ m4 with nx := ((dn i).map (pl m4)).headD 0 } : LM).weaks.length = i := HN4.out.1
            have p5 : pl ({ m4 with nx := ((dn i).map (pl m4)).headD 0 } : LM) = pl m3 := HN4.out.2.1
            have x5 : ({ m4 with nx := ((dn i).map (pl m4)).headD 0 } : LM).nx = ((dn i).map (pl m3)).headD 0 := by rw [← HN4.out.2.1]
            have H5 := Lib.hid (And.intro hl5 (And.intro (HN4.out.2.2.trans hk5) (And.intro n5 (And.intro p5 x5))))
            clear hl5 hk5 n5 p5 x5 HT HN4 d1 c4 g1
            generalize ({ m4 with nx := ((dn i).map (pl m4)).headD 0 } : LM) = m5 at *
            have hRow : Rw 0 w5 (.slice a8 i cap8) ((dn i).map (pl m3)) := H3.out.2.2.2.kp H5.out.2.1 fun g hg => Or.inr hg
            have HRW := Lib.hid hRow
            clear hRow
            go_wp2_with fail
            go_loopw [10] (fun s10 wr => ∃ (k : Nat) (m' : LM), k ≤ i ∧ s10 = .int .i64 k ∧ LS (fun b => b < w0.heap.size ∨ (Value.slice a8 i cap8).ownBlock = some b) S m' F (dn i) [] mk4 wr ∧ Kp (fun b => b < w0.heap.size ∨ (Value.slice a8 i cap8).ownBlock = some b) w3 wr ∧ m'.weaks.length = i ∧ pl m' = pl m3 ∧ m'.nx = ((dn (i - k)).map (pl m3)).headD 0) (fun s10 _ => i - (intOf s10).toNat)
            case atStart => exact ⟨0, m5, Nat.zero_le _, rfl, H5.out.1, H5.out.2.1, H5.out.2.2.1, H5.out.2.2.2.1, H5.out.2.2.2.2⟩
            case round =>
              obtain ⟨k, m6, hk, rfl, hl6, hk6, n6, p6, x6⟩ := hrel
              have H6 := Lib.hid (And.intro hl6 (And.intro hk6 (And.intro n6 p6)))
              obtain ⟨u6, hu6⟩ := hl6.lm
              have d1 := hu6.c1
              clear hu6 hk6
              by_cases hlt : k < i
              · have hlt' : (k : Int) < (i : Int) := by omega
                obtain ⟨q, hq⟩ : ∃ q, i - 1 - k = q := ⟨_, rfl⟩
                have hx6 : m6.nx = pl m6 q := by
                  rw [x6, p6, dn_step hlt, hq]
                  rfl
                have hl6' : LS (fun b => b < w0.heap.size ∨ (Value.slice a8 i cap8).ownBlock = some b) S m6 F ((dn i).take k ++ q :: dn q) [] mk4 wr := by
                  have := hl6
                  rw [dn_split hlt, hq] at this
                  exact this
                have HS := Lib.hid (ls_step (pre := (dn i).take k) (suf := dn q) (n := q) hl6' hx6 (by omega))
                have hmq : mk4 q = true := HMK.out q (by omega)
                rw [hmq] at HS
                simp only [if_true, Bool.not_true] at HS
                have hqz : (q : Int) = (i : Int) - 1 - (k : Int) := by omega
                have hew : IntKind.i64.wrap ((i : Int) - 1) = (i : Int) - 1 ∧ IntKind.i64.wrap ((i : Int) - 1 - (k : Int)) = (q : Int) := ⟨by rw [IntKind.wrap_i64]; omega, by rw [IntKind.wrap_i64]; omega⟩
                have HEW := Lib.hid hew
                clear hew
                have HQ := Lib.hid (And.intro hq hqz)
                clear hl6 x6 hx6 hl6' hmq hq hqz n6 p6
                go_wp2_with fail
                refine HS.out.mono ?_
                rintro e w7 ⟨rfl, m7, hl7, hk7, ew7, -, ex7, -, -, -, -⟩
                have p7 : pl m7 = pl m3 := by rw [← H6.out.2.2.2]; unfold pl; rw [ew7]
                have hik : i - (k + 1) = q := by have := HQ.out.1; omega
                have hl7' : LS (fun b => b < w0.heap.size ∨ (Value.slice a8 i cap8).ownBlock = some b) S m7 F (dn i) [] mk4 w7 := by
                  have := hl7
                  rw [← HQ.out.1, ← dn_split hlt] at this
                  exact this
                have HE := Lib.hid (And.intro hl7' (And.intro (H6.out.2.1.trans hk7) (And.intro (show m7.weaks.length = i by rw [ew7]; exact H6.out.2.2.1) (And.intro p7 (show m7.nx = ((dn (i - (k + 1))).map (pl m3)).headD 0 by rw [hik, ex7, H6.out.2.2.2])))))
                clear hl7 hk7 ew7 ex7 p7 hik hl7' HS H6 d1
                obtain ⟨ew1, ew2⟩ := HEW.out
                go_wp2_with fail
                go_roundw
                case rel => exact ⟨k + 1, m7, by omega, by go_num, HE.out⟩
                case measure => simp [intOf]; omega
              · obtain rfl : k = i := by omega
                have HS := Lib.hid (ls_step0 hl6 (by rw [x6, Nat.sub_self]; rfl))
                clear hl6 x6 n6 p6
                go_wp2_with fail
                refine HS.out.mono ?_
                rintro e w7 ⟨rfl, hl7, hk7⟩
                have HK7 := Lib.hid (H6.out.2.1.trans hk7)
                have HN7 := Lib.hid H6.out.2.2
                obtain ⟨u7, hu7⟩ := hl7.lm
                replace d1 := hu7.c1
                have HR7 := Lib.hid (ls_row hl7 (by have := HN7.out.1; omega))
                clear hl7 hk7 hu7 HS H6
                go_wp2_with fail
                refine HR7.out.mono ?_
                rintro e w8 ⟨v9, rfl, hv9, hl8, hk8⟩
                have hr8 := H3.out.2.2.2.kp (HK7.out.trans hk8) fun g hg => Or.inr hg
                have HI := Lib.hid (ints_rw hv9 hr8 (by simp [dn_length]; omega) (by simp [dn_length]; omega))
                rw [HN7.out.2, decide_eq_true rfl] at HI
                have H8 := Lib.hid (And.intro hl8 (HK7.out.trans hk8))
                have HN9 := HN7.out.1
                obtain ⟨u8, hu8⟩ := hl8.lm
                replace d1 := hu8.c1
                clear hv9 hl8 hk8 hr8 HR7 HK7 HN7 hu8
                go_wp2_with fail
                refine HI.out.mono ?_
                rintro e w9 ⟨rfl, hb9⟩
                have h9 := H8.out.1.later hb9
                have HQ9 := Lib.hid (ls_queue h9.1 (by omega))
                have HK9 := Lib.hid (H8.out.2.trans (h9.2.mono fun _ h => Or.inl h))
                obtain ⟨u9, hu9⟩ := h9.1.lm
                replace d1 := hu9.c1
                clear h9 hb9 H8 HI hu9 HN9
                go_wp2_with fail
                refine HQ9.out.mono ?_
                rintro e w10 ⟨v11, rfl, hv11, -, hk11⟩
                obtain ⟨a11, cap11, e11, -⟩ := rw_at hv11
                simp only [List.map_nil, List.length_nil] at e11
                subst e11
                have HE := Lib.hid ((H3.out.2.1.trans (HK9.out.mono fun _ h => Or.inl h)).trans (hk11.mono fun _ h => Or.inl (Or.inl h)))
                clear hv11 hk11 HQ9 HK9 d1
                go_wp2_with fail
                go_ret
                exact ⟨rfl, HB0.out.trans (HE.out.below.mono HB0.out.size)⟩
          all_goals
            go_wp2_with fail
            refine HT.out.mono ?_
            rintro e w5 ⟨rfl, hl5, hk5⟩
            have n5 : ({ m4 with nx := ((dn i).map (pl m4)).headD 0 } : LM).weaks.length = i := HN4.out.1
            have p5 : pl ({ m4 with nx := ((dn i).map (pl m4)).headD 0 } : LM) = pl m3 := HN4.out.2.1
            have x5 : ({ m4 with nx := ((dn i).map (pl m4)).headD 0 } : LM).nx = ((dn i).map (pl m3)).headD 0 := by rw [← HN4.out.2.1]
            have H5 := Lib.hid (And.intro hl5 (And.intro (HN4.out.2.2.trans hk5) (And.intro n5 (And.intro p5 x5))))
            clear hl5 hk5 n5 p5 x5 HT HN4 d1 c4 g1
            generalize ({ m4 with nx := ((dn i).map (pl m4)).headD 0 } : LM) = m5 at *
            have hRow : Rw 0 w5 (.slice a8 i cap8) ((dn i).map (pl m3)) := H3.out.2.2.2.kp H5.out.2.1 fun g hg => Or.inr hg
            have HRW := Lib.hid hRow
            clear hRow
            go_wp2_with fail
            go_loopw [10] (fun s10 wr => ∃ (k : Nat) (m' : LM), k ≤ i ∧ s10 = .int .i64 k ∧ LS (fun b => b < w0.heap.size ∨ (Value.slice a8 i cap8).ownBlock = some b) S m' F (dn (i - k)) ((dn i).take k) mk4 wr ∧ Kp (fun b => b < w0.heap.size ∨ (Value.slice a8 i cap8).ownBlock = some b) w3 wr ∧ m'.weaks.length = i ∧ pl m' = pl m3 ∧ m'.nx = ((dn (i - k)).map (pl m3)).headD 0) (fun s10 _ => i - (intOf s10).toNat)
            case atStart => exact ⟨0, m5, Nat.zero_le _, rfl, H5.out.1, H5.out.2.1, H5.out.2.2.1, H5.out.2.2.2.1, H5.out.2.2.2.2⟩
            case round =>
              obtain ⟨k, m6, hk, rfl, hl6, hk6, n6, p6, x6⟩ := hrel
              have H6 := Lib.hid (And.intro hl6 (And.intro hk6 (And.intro n6 p6)))
              obtain ⟨u6, hu6⟩ := hl6.lm
              have d1 := hu6.c1
              clear hu6 hk6
              by_cases hlt : k < i
              · have hlt' : (k : Int) < (i : Int) := by omega
                obtain ⟨q, hq⟩ : ∃ q, i - 1 - k = q := ⟨_, rfl⟩
                have hx6 : m6.nx = pl m6 q := by
                  rw [x6, p6, dn_step hlt, hq]
                  rfl
                have hl6' : LS (fun b => b < w0.heap.size ∨ (Value.slice a8 i cap8).ownBlock = some b) S m6 F ([] ++ q :: dn q) ((dn i).take k) mk4 wr := by
                  have := hl6
                  rw [dn_step hlt, hq] at this
                  exact this
                have HS := Lib.hid (ls_step (pre := []) (suf := dn q) (n := q) hl6' hx6 (by omega))
                have hmq : mk4 q = false := HMK.out q (by omega)
                rw [hmq] at HS
                simp only [Bool.false_eq_true, if_false, Bool.not_false, List.nil_append] at HS
                have hqz : (q : Int) = (i : Int) - 1 - (k : Int) := by omega
                have hew : IntKind.i64.wrap ((i : Int) - 1) = (i : Int) - 1 ∧ IntKind.i64.wrap ((i : Int) - 1 - (k : Int)) = (q : Int) := ⟨by rw [IntKind.wrap_i64]; omega, by rw [IntKind.wrap_i64]; omega⟩
                have HEW := Lib.hid hew
                clear hew
                have HQ := Lib.hid (And.intro hq hqz)
                clear hl6 x6 hx6 hl6' hmq hq hqz n6 p6
                go_wp2_with fail
                refine HS.out.mono ?_
                rintro e w7 ⟨rfl, m7, hl7, hk7, ew7, -, ex7, -, -, -, -⟩
                have p7 : pl m7 = pl m3 := by rw [← H6.out.2.2.2]; unfold pl; rw [ew7]
                have hik : i - (k + 1) = q := by have := HQ.out.1; omega
                have hl7' : LS (fun b => b < w0.heap.size ∨ (Value.slice a8 i cap8).ownBlock = some b) S m7 F (dn (i - (k + 1))) ((dn i).take (k + 1)) mk4 w7 := by
                  rw [hik, dn_take hlt, HQ.out.1]
                  exact hl7
                have HE := Lib.hid (And.intro hl7' (And.intro (H6.out.2.1.trans hk7) (And.intro (show m7.weaks.length = i by rw [ew7]; exact H6.out.2.2.1) (And.intro p7 (show m7.nx = ((dn (i - (k + 1))).map (pl m3)).headD 0 by rw [hik, ex7, H6.out.2.2.2])))))
                clear hl7 hk7 ew7 ex7 p7 hik hl7' HS H6 d1
                obtain ⟨ew1, ew2⟩ := HEW.out
                go_wp2_with fail
                go_roundw
                case rel => exact ⟨k + 1, m7, by omega, by go_num, HE.out⟩
                case measure => simp [intOf]; omega
              · obtain rfl : k = i := by omega
                have HS := Lib.hid (ls_step0 hl6 (by rw [x6, Nat.sub_self]; rfl))
                clear hl6 x6 n6 p6
                go_wp2_with fail
                refine HS.out.mono ?_
                rintro e w7 ⟨rfl, hl7, hk7⟩
                have HK7 := Lib.hid (H6.out.2.1.trans hk7)
                have HN7 := Lib.hid H6.out.2.2
                obtain ⟨u7, hu7⟩ := hl7.lm
                replace d1 := hu7.c1
                have HR7 := Lib.hid (ls_row hl7 (by have := HN7.out.1; omega))
                clear hl7 hk7 hu7 HS H6
                go_wp2_with fail
                refine HR7.out.mono ?_
                rintro e w8 ⟨v9, rfl, hv9, hl8, hk8⟩
                obtain ⟨a9, cap9, e9, -⟩ := rw_at hv9
                rw [Nat.sub_self] at e9
                simp only [dn, List.map_nil, List.length_nil] at e9
                subst e9
                have HQ8 := Lib.hid (ls_queue (hl8.less fun _ h => Or.inl h) (by have := HN7.out.1; omega))
                have HK8 := Lib.hid (HK7.out.trans hk8)
                obtain ⟨u8, hu8⟩ := hl8.lm
                replace d1 := hu8.c1
                clear hv9 hl8 hk8 HR7 HK7 hu8
                go_wp2_with fail
                refine HQ8.out.mono ?_
                rintro e w9 ⟨v10, rfl, hv10, hl9, hk9⟩
                have hr9 := H3.out.2.2.2.kp (HK8.out.trans hk9) fun g hg => Or.inr hg
                have hti : (dn k).take k = dn k := by rw [List.take_of_length_le (by rw [dn_length]; exact Nat.le_refl _)]
                rw [hti] at hv10 hl9
                have HI := Lib.hid (ints_rw hv10 hr9 (by simp [dn_length]; omega) (by simp [dn_length]; omega))
                rw [HN7.out.2, decide_eq_true rfl] at HI
                have H9 := Lib.hid (And.intro (hl9.less fun _ h => Or.inl h) (And.intro (HK8.out.trans hk9) HN7.out))
                clear hv10 hl9 hk9 hr9 HQ8 HK8 HN7 hti d1
                go_wp2_with fail
                refine HI.out.mono ?_
                rintro e w10 ⟨rfl, hb10⟩
                have h10 := H9.out.1.later hb10
                have H10 := Lib.hid (And.intro h10.1 (And.intro (H9.out.2.1.trans h10.2) H9.out.2.2))
                clear h10 hb10 HI H9
                go_wp2_with fail
                go_loopw [17] (fun s17 wr => ∃ (t : Nat) (m' : LM), t ≤ k ∧ s17 = .int .i64 t ∧ LS (fun b => b < w0.heap.size ∨ (Value.slice a8 k cap8).ownBlock = some b) S m' F (dn (k - k)) (dn (k - t)) mk4 wr ∧ Kp (fun b => b < w0.heap.size ∨ (Value.slice a8 k cap8).ownBlock = some b) w3 wr ∧ m'.weaks.length = k ∧ pl m' = pl m3) (fun s17 _ => k - (intOf s17).toNat)
                case atStart => exact ⟨0, m6, Nat.zero_le _, rfl, H10.out.1, H10.out.2.1, H10.out.2.2.1, H10.out.2.2.2⟩
                case round =>
                  obtain ⟨t, m7, ht, rfl, hl11, hk11, n7, p7⟩ := hrel
                  have H11 := Lib.hid (And.intro hl11 (And.intro hk11 (And.intro n7 p7)))
                  obtain ⟨u11, hu11⟩ := hl11.lm
                  have d1 := hu11.c1
                  clear hu11
                  by_cases hlt : t < k
                  · have hlt' : (t : Int) < (k : Int) := by omega
                    obtain ⟨q, hq⟩ : ∃ q, k - 1 - t = q := ⟨_, rfl⟩
                    have hl12 := hl11
                    rw [dn_step hlt, hq] at hl12
                    have HS := Lib.hid (ls_take hl12 (by omega))
                    have HQ := Lib.hid hq
                    clear hl11 hl12 hk11 n7 hq
                    rw [p7] at HS
                    clear p7
                    go_wp2_with fail
                    refine HS.out.mono ?_
                    rintro e w12 ⟨rfl, m8, hl13, hk13, ew8, -, -, -, -, -, -, -⟩
                    have hr13 := H3.out.2.2.2.kp (H11.out.2.1.trans hk13) fun g hg => Or.inr hg
                    obtain ⟨g13, hg13, c13⟩ := rw_cell hr13 (i := t) (by simp [dn_length]; exact hlt)
                    rw [map_getD (dn_get hlt), HQ.out] at c13
                    have hl13' : LS (fun b => b < w0.heap.size ∨ (Value.slice a8 k cap8).ownBlock = some b) S m8 F (dn (k - k)) (dn (k - (t + 1))) mk4 w12 := by
                      rw [show k - (t + 1) = q by have := HQ.out; omega]
                      exact hl13
                    have HE := Lib.hid (And.intro hl13' (And.intro (H11.out.2.1.trans hk13) (And.intro (show m8.weaks.length = k by rw [ew8]; exact H11.out.2.2.1) (show pl m8 = pl m3 by rw [← H11.out.2.2.2]; unfold pl; rw [ew8]))))
                    clear hl13 hk13 ew8 hr13 hl13' HS H11 d1
                    generalize pl m3 q = pq at *
                    subst hg13
                    go_wp2_with fail
                    go_roundw
                    case rel => exact ⟨t + 1, m8, by omega, by go_num, HE.out⟩
                    case measure => simp [intOf]; omega
                  · obtain rfl : t = k := by omega
                    have HQ9 := Lib.hid (ls_queue hl11 (by omega))
                    clear hl11 hk11 n7 p7
                    go_wp2_with fail
                    refine HQ9.out.mono ?_
                    rintro e w13 ⟨v11, rfl, hv11, -, hk11⟩
                    obtain ⟨a11, cap11, e11, -⟩ := rw_at hv11
                    rw [Nat.sub_self] at e11
                    simp only [dn, List.map_nil, List.length_nil] at e11
                    subst e11
                    have HE := Lib.hid ((H3.out.2.1.trans (H11.out.2.1.mono fun _ h => Or.inl h)).trans (hk11.mono fun _ h => Or.inl h))
                    clear hv11 hk11 HQ9 H11 d1
                    go_wp2_with fail
                    go_ret
                    exact ⟨rfl, HB0.out.trans (HE.out.below.mono HB0.out.size)⟩
end Go.Proofs.Ythliahaopelooaa
