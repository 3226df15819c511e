/- StackPlays, walked. -/
import Derived.Test.YtalfhcmccdnajaaSlI
import Derived.Test.YtalfhcmccdnajaaSkO
namespace Go.Proofs.Ytalfhcmccdnajaa
open Go.RowKit Go.Sort

theorem wpAnyH_narrow {P : Program} {md : Region.Mode} {ops : Array Oper} {Q : Exit → Act → World → Prop} {S S' : World → Prop} (hS : ∀ w, S' w → S w) :
    ∀ (fuel : Nat) (listed : Array Bool) (a : Act) (w : World), wpAnyH P md ops Q S' fuel listed a w → wpAnyH P md ops Q S fuel listed a w
  | 0, _, _, _, h => h
  | _ + 1, _, _, _, h => ⟨h.1, fun i hi => wpOp_mono (fun _ _ g => ⟨hS _ g.1, wpAnyH_narrow hS _ _ _ _ g.2⟩) (h.2 i hi)⟩

set_option maxHeartbeats 4000000 in
theorem plays_few (a0 : Option Addr) (len cap : Nat) (X : Nat → Int) (F : Nat → Fr) (room : Int) (w : World) (hA : Acts w a0 len X F) (h : ¬ (Few len F ∧ 0 ≤ room ∧ room ≤ 4096)) :
    Calls Try.prog 3 #[.int .i64 room, .slice a0 len cap] w fun e w' => e = .returned (.bool true) ∧ Below w.heap.size w w' := by
  by_cases hf : Few len F
  · have hr : ¬ (0 ≤ room ∧ room ≤ 4096) := fun hr => h ⟨hf, hr⟩
    by_cases h0 : room < 0
    · clear h
      go_enter Try.func3, Try.ntmps3
      go_wp2_with fail
      refine (awake_any _).mono ?_
      rintro e w1 ⟨rfl, hB⟩
      have HB := Lib.hid hB
      clear hB
      go_wp2_with fail
      refine (few_true a0 len cap X F w _ hA HB.out hf).mono ?_
      rintro e w2 ⟨rfl, rfl⟩
      go_wp2_with fail
      refine (new_out room hr _).mono ?_
      rintro e w3 ⟨rfl, rfl⟩
      go_wp2_with fail
      go_ret
      exact ⟨rfl, HB.out⟩
    · have h1 : room > 4096 := by omega
      clear h
      go_enter Try.func3, Try.ntmps3
      go_wp2_with fail
      refine (awake_any _).mono ?_
      rintro e w1 ⟨rfl, hB⟩
      have HB := Lib.hid hB
      clear hB
      go_wp2_with fail
      refine (few_true a0 len cap X F w _ hA HB.out hf).mono ?_
      rintro e w2 ⟨rfl, rfl⟩
      go_wp2_with fail
      refine (new_out room hr _).mono ?_
      rintro e w3 ⟨rfl, rfl⟩
      go_wp2_with fail
      go_ret
      exact ⟨rfl, HB.out⟩
  · clear h
    go_enter Try.func3, Try.ntmps3
    go_wp2_with fail
    refine (awake_any _).mono ?_
    rintro e w1 ⟨rfl, hB⟩
    have HB := Lib.hid hB
    clear hB
    go_wp2_with fail
    refine (few_false a0 len cap X F w _ hA HB.out hf).mono ?_
    rintro e w2 ⟨rfl, rfl⟩
    go_wp2_with fail
    go_ret
    exact ⟨rfl, HB.out⟩

set_option maxHeartbeats 16000000 in
set_option maxRecDepth 100000 in
theorem plays_in (a0 : Option Addr) (len cap : Nat) (X : Nat → Int) (F : Nat → Fr) (room : Int) (w : World) (hA : Acts w a0 len X F) (hf : Few len F) (r0 : 0 ≤ room) (r1 : room ≤ 4096) :
    Calls Try.prog 3 #[.int .i64 room, .slice a0 len cap] w fun e w' => e = .returned (.bool true) ∧ Below w.heap.size w w' := by
  have HA := Lib.hid (And.intro hA hf)
  have HR := Lib.hid (And.intro r0 r1)
  have hl : len ≤ 100 := hf.1
  have g1 : ¬ room < 0 := by omega
  have g2 : ¬ room > 4096 := by omega
  clear hA hf r0 r1
  go_enter Try.func3, Try.ntmps3
  go_wp2_with fail
  refine (awake_any _).mono ?_
  rintro e w1 ⟨rfl, hB⟩
  have HB := Lib.hid hB
  clear hB
  go_wp2_with fail
  refine (few_true a0 len cap X F w _ HA.out.1 HB.out HA.out.2).mono ?_
  rintro e w2 ⟨rfl, rfl⟩
  go_wp2_with fail
  refine (new_in room HR.out.1 HR.out.2 _).mono ?_
  rintro e w3 ⟨p, v, rfl, hS, hB3, hp, hv⟩
  have HM : Hid (Mid w p room v [] 0 w3) := ⟨hS, HB.out.trans (hB3.mono HB.out.size), by have := HB.out.size; omega, fun g hg => by rw [hv] at hg; cases hg⟩
  have HV := Lib.hid hv
  clear hS hB3 hp hv HB
  go_upto_region 11 with fail
  have HT : Hid (Two w p w3.heap.size room [] 0 [] (w3.alloc (.cells #[.slice none 0 0, .slice none 0 0, .int .i64 room] 33))) := by
    have hh := heap_alloc_new w3 (.cells #[.slice none 0 0, .slice none 0 0, .int .i64 room] 33)
    have hb : Below w3.heap.size w3 (w3.alloc (.cells #[.slice none 0 0, .slice none 0 0, .int .i64 room] 33)) := (Below.refl _ _).alloc (Nat.le_refl _) _
    refine ⟨v, .slice none 0 0, .slice none 0 0, ⟨HM.out.later hb, ⟨cell_of_row _ _ 0 _ _ _ hh, cell_of_row _ _ 1 _ _ _ hh, cell_of_row _ _ 2 _ _ _ hh, frozen_of_row _ _ 0 _ _ hh, frozen_of_row _ _ 1 _ _ hh, Or.inl ⟨rfl, rfl⟩, Or.inl ⟨rfl, rfl⟩, by simp [Value.ownBlock], by simp [Value.ownBlock], by simp [Value.ownBlock]⟩, HM.out.below.size, off_new HM.out (Nat.le_refl _), fun g hg => (by cases hg), fun g hg => (by cases hg), fun f hf => by simp at hf, fun f hf => by simp at hf⟩, rfl⟩
  clear HM HV
  go_wp2_with fail
  generalize w3.alloc (.cells #[.slice none 0 0, .slice none 0 0, .int .i64 room] 33) = w4 at HT ⊢
  generalize w3.heap.size = q at HT ⊢
  go_loopw [8] (fun s8 wr => ∃ (i : Nat) (L R : List Fr) (left : Nat), i ≤ len ∧ s8 = .int .i64 i ∧ Two w p q room L left R wr) (fun s8 _ => len - (RowKit.intOf s8).toNat)
  case atStart => exact ⟨0, [], [], 0, Nat.zero_le _, rfl, HT.out⟩
  case round =>
    clear HT
    obtain ⟨i, L, R, left, hi, rfl, v, vL, vT, hH, hE⟩ := hrel
    by_cases hlt : i < len
    · have HE := Lib.hid hE
      obtain ⟨b, off, rfl, hbl, hc⟩ := HA.out.1.at_ (by omega)
      obtain ⟨d0, d1, d2, d3⟩ := hc i hlt
      have hw := HA.out.1.ws i hlt
      have hwl := HA.out.2.2 i hlt
      generalize X i = X at d0
      generalize F i = f at d1 d2 d3 hw hwl
      have HW := Lib.hid (And.intro hw hwl)
      have HK : Hid (∀ V, Below w.heap.size w V → V.cell? ⟨b, off + i * 4, none⟩ = some (.int .i64 X) ∧ V.cell? ⟨b, off + i * 4 + 1, none⟩ = some (.int .i64 f.k) ∧ V.cell? ⟨b, off + i * 4 + 2, none⟩ = some (.int .i64 f.n) ∧ V.cell? ⟨b, off + i * 4 + 3, none⟩ = some (.slice f.a f.ws.length f.c)) := fun V hV => ⟨(hV.cell (p := ⟨b, off + i * 4, none⟩) hbl).trans d0, (hV.cell (p := ⟨b, off + i * 4 + 1, none⟩) hbl).trans d1, (hV.cell (p := ⟨b, off + i * 4 + 2, none⟩) hbl).trans d2, (hV.cell (p := ⟨b, off + i * 4 + 3, none⟩) hbl).trans d3⟩
      have HH := Lib.hid (hH.later (Below.refl _ _).drew)
      have hlt' : (i : Int) < (len : Int) := by omega
      clear hc hw hwl hbl d0 d1 d2 d3 hH hE
      go_upto_region 14 with fail
      refine wp_region_held_drew (S := fun W' => W'.cell? ⟨b, off + i * 4, none⟩ = some (.int .i64 X) ∧ W'.cell? ⟨b, off + i * 4 + 1, none⟩ = some (.int .i64 f.k) ∧ W'.cell? ⟨b, off + i * 4 + 2, none⟩ = some (.int .i64 f.n) ∧ W'.cell? ⟨b, off + i * 4 + 3, none⟩ = some (.slice f.a f.ws.length f.c)) (by kernel_rfl) (HK.out _ HH.out.mid.below) (fun hHeld => ?_)
      refine wpAnyH_take (i := 0) (oi := { dst := some 46, op := Op.move (Operand.tmp 5), type := 25, pos := "law.go:75", after := #[], guard := none }) (v := ?_) rfl (by kernel_rfl) (by kernel_rfl) (by kernel_rfl) (fun _ _ _ h => h) (Or.inl ⟨by rfl, ?_⟩) (by assumption) ?_
      rotate_left
      · intro w hSw
        try dsimp only at hSw
        go_simp <;> with_reducible rfl
      try simp only [Act.put, List.setIfInBounds_toArray, List.set_cons_zero, List.set_cons_succ]
      refine wpAnyH_take (i := 1) (oi := { dst := some 47, op := Op.move (Operand.tmp 1), type := 22, pos := "law.go:75", after := #[], guard := none }) (v := ?_) rfl (by kernel_rfl) (by kernel_rfl) (by kernel_rfl) (fun _ _ _ h => h) (Or.inl ⟨by rfl, ?_⟩) (by assumption) ?_
      rotate_left
      · intro w hSw
        try dsimp only at hSw
        go_simp <;> with_reducible rfl
      try simp only [Act.put, List.setIfInBounds_toArray, List.set_cons_zero, List.set_cons_succ]
      refine wpAnyH_take (i := 2) (oi := { dst := some 48, op := Op.move (Operand.tmp 8), type := 3, pos := "law.go:75", after := #[], guard := none }) (v := ?_) rfl (by kernel_rfl) (by kernel_rfl) (by kernel_rfl) (fun _ _ _ h => h) (Or.inl ⟨by rfl, ?_⟩) (by assumption) ?_
      rotate_left
      · intro w hSw
        try dsimp only at hSw
        go_simp <;> with_reducible rfl
      try simp only [Act.put, List.setIfInBounds_toArray, List.set_cons_zero, List.set_cons_succ]
      refine wpAnyH_take (i := 3) (oi := { dst := some 49, op := Op.indexAddr 22 (Operand.tmp 47) (Operand.tmp 48), type := 0, pos := "law.go:75", after := #[{ on := 1, ground := Ground.data }, { on := 2, ground := Ground.data }], guard := none }) (v := ?_) rfl (by kernel_rfl) (by kernel_rfl) (by kernel_rfl) (fun _ _ _ h => h) (Or.inl ⟨by rfl, ?_⟩) (by assumption) ?_
      rotate_left
      · intro w hSw
        try dsimp only at hSw
        go_simp <;> with_reducible rfl
      try simp only [Act.put, List.setIfInBounds_toArray, List.set_cons_zero, List.set_cons_succ]
      refine wpAnyH_take (i := 4) (oi := { dst := some 50, op := Op.load 42 (Operand.tmp 49), type := 42, pos := "law.go:75", after := #[{ on := 3, ground := Ground.data }], guard := none }) (v := ?_) rfl (by kernel_rfl) (by kernel_rfl) (by kernel_rfl) (fun _ _ _ h => h) (Or.inl ⟨by rfl, ?_⟩) (by assumption) ?_
      rotate_left
      · intro w hSw
        try dsimp only at hSw
        go_simp <;> with_reducible rfl
      try simp only [Act.put, List.setIfInBounds_toArray, List.set_cons_zero, List.set_cons_succ]
      refine wpAnyH_take (i := 6) (oi := { dst := some 52, op := Op.move (Operand.tmp 7), type := 29, pos := "law.go:75", after := #[], guard := none }) (v := ?_) rfl (by kernel_rfl) (by kernel_rfl) (by kernel_rfl) (fun _ _ _ h => h) (Or.inl ⟨by rfl, ?_⟩) (by assumption) ?_
      rotate_left
      · intro w hSw
        try dsimp only at hSw
        go_simp <;> with_reducible rfl
      try simp only [Act.put, List.setIfInBounds_toArray, List.set_cons_zero, List.set_cons_succ]
      refine wpAnyH_take (i := 7) (oi := { dst := some 53, op := Op.move (Operand.tmp 1), type := 22, pos := "law.go:75", after := #[], guard := none }) (v := ?_) rfl (by kernel_rfl) (by kernel_rfl) (by kernel_rfl) (fun _ _ _ h => h) (Or.inl ⟨by rfl, ?_⟩) (by assumption) ?_
      rotate_left
      · intro w hSw
        try dsimp only at hSw
        go_simp <;> with_reducible rfl
      try simp only [Act.put, List.setIfInBounds_toArray, List.set_cons_zero, List.set_cons_succ]
      refine wpAnyH_take (i := 8) (oi := { dst := some 54, op := Op.move (Operand.tmp 8), type := 3, pos := "law.go:75", after := #[], guard := none }) (v := ?_) rfl (by kernel_rfl) (by kernel_rfl) (by kernel_rfl) (fun _ _ _ h => h) (Or.inl ⟨by rfl, ?_⟩) (by assumption) ?_
      rotate_left
      · intro w hSw
        try dsimp only at hSw
        go_simp <;> with_reducible rfl
      try simp only [Act.put, List.setIfInBounds_toArray, List.set_cons_zero, List.set_cons_succ]
      refine wpAnyH_take (i := 9) (oi := { dst := some 55, op := Op.indexAddr 22 (Operand.tmp 53) (Operand.tmp 54), type := 0, pos := "law.go:75", after := #[{ on := 7, ground := Ground.data }, { on := 8, ground := Ground.data }], guard := none }) (v := ?_) rfl (by kernel_rfl) (by kernel_rfl) (by kernel_rfl) (fun _ _ _ h => h) (Or.inl ⟨by rfl, ?_⟩) (by assumption) ?_
      rotate_left
      · intro w hSw
        try dsimp only at hSw
        go_simp <;> with_reducible rfl
      try simp only [Act.put, List.setIfInBounds_toArray, List.set_cons_zero, List.set_cons_succ]
      refine wpAnyH_take (i := 10) (oi := { dst := some 56, op := Op.load 42 (Operand.tmp 55), type := 42, pos := "law.go:75", after := #[{ on := 9, ground := Ground.data }], guard := none }) (v := ?_) rfl (by kernel_rfl) (by kernel_rfl) (by kernel_rfl) (fun _ _ _ h => h) (Or.inl ⟨by rfl, ?_⟩) (by assumption) ?_
      rotate_left
      · intro w hSw
        try dsimp only at hSw
        go_simp <;> with_reducible rfl
      try simp only [Act.put, List.setIfInBounds_toArray, List.set_cons_zero, List.set_cons_succ]
      refine wpAnyH_ready (rs := [5]) (by kernel_rfl) (by simp) ?_
      refine AllReadyH.cons (o := { dst := some 51, op := Op.call { callee := Callee.value (Operand.func 11), args := #[Operand.tmp 46, Operand.tmp 50], argTypes := #[25, 42] }, type := 39, pos := "law.go:75", after := #[{ on := 0, ground := Ground.data }, { on := 4, ground := Ground.data }], guard := none }) rfl (fun K hK => ?_) AllReadyH.nil
      go_simp
      refine (do_all p left room v L X f _ HH.out.mid.st (HW.out.1.move (K' := fun _ => True) (fun g hg _ => ⟨trivial, HH.out.mid.below.block g hg⟩) HH.out.mid.below.size) HW.out.2).mono ?_
      rintro e x5 ⟨⟨⟨tk, tn, tws⟩, fr, ok, er⟩, L', left', a1, c1, hst, rfl, hwt, hd, hsub⟩
      obtain ⟨v', hH5⟩ := HH.out.did hd hsub
      have HH5 := Lib.hid hH5
      have HS5 := Lib.hid (And.intro hst hwt)
      clear hd hsub hH5 hst hwt
      go_wp2_with fail
      refine hK.out _ _ (HK.out _ HH5.out.mid.below) (fun hHeld => ?_)
      clear hK K
      try simp only [Act.put, List.setIfInBounds_toArray, List.set_cons_zero, List.set_cons_succ]
      refine wpAnyH_ready (rs := [11]) (by kernel_rfl) (by simp) ?_
      refine AllReadyH.cons (o := { dst := some 57, op := Op.call { callee := Callee.value (Operand.func 12), args := #[Operand.tmp 52, Operand.tmp 56], argTypes := #[29, 42] }, type := 39, pos := "law.go:75", after := #[{ on := 6, ground := Ground.data }, { on := 10, ground := Ground.data }, { on := 5, ground := Ground.chain }], guard := none }) rfl (fun K hK => ?_) AllReadyH.nil
      go_simp
      refine (rdo_all q left vL vT room R X f _ HH5.out.rf (by have h1 := HH.out.mid.st.us; have h2 := HH.out.mid.st.r1; rw [← used_map, HE.out, used_map]; omega) HW.out.2 (by have h1 := HH.out.mid.st.le; have h2 := congrArg List.length HE.out; simp only [List.length_map] at h2; omega)).mono ?_
      rintro e x6 ⟨A2, R', left2, a2, c2, hst2, rfl, hmem, hd2, hsub2⟩
      rw [HE.out, HS5.out.1, Prod.mk.injEq, Prod.mk.injEq] at hst2
      obtain ⟨rfl, hE2, rfl⟩ := hst2
      obtain ⟨vL', vT', hH6, hblk⟩ := HH5.out.rdid hd2 (fun x hx => (hsub2 x hx).elim (fun h => HH.out.rw x h) (fun h => h ▸ HW.out.1))
      have hw1 : WAt (fun _ => True) x6 ⟨tk, tn, tws, a1, c1⟩ := HS5.out.2.move (fun g hg hk => ⟨trivial, hblk g hg (by have := HH.out.rf.lq; omega) (fun e => by have := HH.out.rf.fs.lt g e.symm; omega) (fun e => by have := HH.out.rf.bs.lt g e.symm; omega)⟩) (by have h1 := hd2; obtain ⟨_, _, _, h2, _⟩ := h1; exact h2.size)
      have hw2 : WAt (fun _ => True) x6 ⟨tk, tn, tws, a2, c2⟩ := by
        rcases hmem with h | h
        · have h' : tws = [] := h
          subst h'
          exact wat_nil _ _ _ _ _ _
        · exact (HH.out.rw _ h).move (fun g hg _ => ⟨trivial, hH6.mid.below.block g hg⟩) hH6.mid.below.size
      have HH6 := Lib.hid hH6
      have HE6 := Lib.hid hE2.symm
      have HW6 := Lib.hid (And.intro hw1 hw2)
      clear hd2 hsub2 hmem hH6 hE2 hblk hw1 hw2
      go_wp2_with fail
      refine hK.out _ _ (HK.out _ HH6.out.mid.below) (fun hHeld => ?_)
      clear hK K
      try simp only [Act.put, List.setIfInBounds_toArray, List.set_cons_zero, List.set_cons_succ]
      obtain ⟨N, hN⟩ : ∃ N, N = L'.length := ⟨_, rfl⟩
      have hRN : R'.length = N := by have h2 := congrArg List.length HE6.out; simp only [List.length_map] at h2; omega
      obtain ⟨aL, cL, hvL⟩ := HH6.out.rf.fs.sl
      rw [hRN] at hvL
      have HN := Lib.hid (And.intro hN (And.intro hRN hvL))
      have HU := Lib.hid (show used R' = used L' from by rw [← used_map, HE6.out, used_map])
      have HK5 : Hid (∀ V, Below x6.heap.size x6 V → V.cell? ⟨b, off + i * 4, none⟩ = some (.int .i64 X) ∧ V.cell? ⟨b, off + i * 4 + 1, none⟩ = some (.int .i64 f.k) ∧ V.cell? ⟨b, off + i * 4 + 2, none⟩ = some (.int .i64 f.n) ∧ V.cell? ⟨b, off + i * 4 + 3, none⟩ = some (.slice f.a f.ws.length f.c) ∧ V.cell? ⟨q, 0, none⟩ = some (.slice aL N cL)) := fun V hV => by
        have h1 := HK.out _ (HH6.out.mid.below.trans (hV.mono HH6.out.mid.below.size))
        have h2 := (HH6.out.rf.later hV).c0
        rw [HN.out.2.2] at h2
        exact ⟨h1.1, h1.2.1, h1.2.2.1, h1.2.2.2, h2⟩
      clear hN hRN hvL HH5
      refine wpAnyH_narrow (S' := fun W' => W'.cell? ⟨b, off + i * 4, none⟩ = some (.int .i64 X) ∧ W'.cell? ⟨b, off + i * 4 + 1, none⟩ = some (.int .i64 f.k) ∧ W'.cell? ⟨b, off + i * 4 + 2, none⟩ = some (.int .i64 f.n) ∧ W'.cell? ⟨b, off + i * 4 + 3, none⟩ = some (.slice f.a f.ws.length f.c) ∧ W'.cell? ⟨q, 0, none⟩ = some (.slice aL N cL)) (fun _ h => ⟨h.1, h.2.1, h.2.2.1, h.2.2.2.1⟩) _ _ _ _ ?_
      replace hHeld := HK5.out x6 (Below.refl _ _)
      refine wpAnyH_ready (rs := [12]) (by kernel_rfl) (by simp) ?_
      refine AllReadyH.cons (o := { dst := some 58, op := Op.call { callee := Callee.value (Operand.func 10), args := #[Operand.tmp 51, Operand.tmp 57], argTypes := #[39, 39] }, type := 4, pos := "law.go:75", after := #[{ on := 5, ground := Ground.data }, { on := 11, ground := Ground.data }, { on := 11, ground := Ground.chain }], guard := none }) rfl (fun K hK => ?_) AllReadyH.nil
      go_simp
      refine (same_any tk tn tws a1 c1 a2 c2 fr ok er (fun _ => True) (fun _ => True) _ HW6.out.1 HW6.out.2).mono ?_
      rintro e x7 ⟨rfl, hb7⟩
      have HB7 := Lib.hid hb7
      have HH7 := Lib.hid (HH6.out.later hb7)
      clear hb7
      go_wp2_with fail
      refine hK.out _ _ (HK5.out _ HB7.out) (fun hHeld => ?_)
      clear hK K
      try simp only [Act.put, List.setIfInBounds_toArray, List.set_cons_zero, List.set_cons_succ]
      refine wpAnyH_take (i := 13) (oi := { dst := some 59, op := Op.unOp UnOp.not 4 (Operand.tmp 58), type := 4, pos := "law.go:75", after := #[{ on := 12, ground := Ground.data }], guard := none }) (v := ?_) rfl (by kernel_rfl) (by kernel_rfl) (by kernel_rfl) (fun _ _ _ h => h) (Or.inl ⟨by rfl, ?_⟩) (by assumption) ?_
      rotate_left
      · intro w hSw
        try dsimp only at hSw
        go_simp <;> with_reducible rfl
      try simp only [Act.put, List.setIfInBounds_toArray, List.set_cons_zero, List.set_cons_succ]
      refine wpAnyH_take (i := 14) (oi := { dst := some 60, op := Op.move (Operand.tmp 59), type := 4, pos := "law.go:75", after := #[{ on := 13, ground := Ground.data }, { on := 12, ground := Ground.chain }], guard := none }) (v := ?_) rfl (by kernel_rfl) (by kernel_rfl) (by kernel_rfl) (fun _ _ _ h => h) (Or.inl ⟨by rfl, ?_⟩) (by assumption) ?_
      rotate_left
      · intro w hSw
        try dsimp only at hSw
        go_simp <;> with_reducible rfl
      try simp only [Act.put, List.setIfInBounds_toArray, List.set_cons_zero, List.set_cons_succ]
      refine wpAnyH_take (i := 15) (oi := { dst := some 61, op := Op.move (Operand.tmp 5), type := 25, pos := "law.go:75", after := #[{ on := 14, ground := Ground.guard }], guard := some (14, false) }) (v := ?_) rfl (by kernel_rfl) (by kernel_rfl) (by kernel_rfl) (fun _ _ _ h => h) (Or.inl ⟨by rfl, ?_⟩) (by assumption) ?_
      rotate_left
      · intro w hSw
        try dsimp only at hSw
        go_simp <;> with_reducible rfl
      try simp only [Act.put, List.setIfInBounds_toArray, List.set_cons_zero, List.set_cons_succ]
      refine wpAnyH_take (i := 17) (oi := { dst := some 63, op := Op.move (Operand.tmp 7), type := 29, pos := "law.go:75", after := #[{ on := 14, ground := Ground.guard }], guard := some (14, false) }) (v := ?_) rfl (by kernel_rfl) (by kernel_rfl) (by kernel_rfl) (fun _ _ _ h => h) (Or.inl ⟨by rfl, ?_⟩) (by assumption) ?_
      rotate_left
      · intro w hSw
        try dsimp only at hSw
        go_simp <;> with_reducible rfl
      try simp only [Act.put, List.setIfInBounds_toArray, List.set_cons_zero, List.set_cons_succ]
      refine wpAnyH_take (i := 18) (oi := { dst := some 64, op := Op.nilCheck (Operand.tmp 63), type := 0, pos := "law.go:75", after := #[{ on := 17, ground := Ground.data }, { on := 14, ground := Ground.guard }], guard := some (14, false) }) (v := ?_) rfl (by kernel_rfl) (by kernel_rfl) (by kernel_rfl) (fun _ _ _ h => h) (Or.inl ⟨by rfl, ?_⟩) (by assumption) ?_
      rotate_left
      · intro w hSw
        try dsimp only at hSw
        go_simp <;> with_reducible rfl
      try simp only [Act.put, List.setIfInBounds_toArray, List.set_cons_zero, List.set_cons_succ]
      refine wpAnyH_take (i := 19) (oi := { dst := some 65, op := Op.fieldAddr 33 (Operand.tmp 64) 0, type := 0, pos := "law.go:75", after := #[{ on := 18, ground := Ground.data }, { on := 14, ground := Ground.guard }], guard := some (14, false) }) (v := ?_) rfl (by kernel_rfl) (by kernel_rfl) (by kernel_rfl) (fun _ _ _ h => h) (Or.inl ⟨by rfl, ?_⟩) (by assumption) ?_
      rotate_left
      · intro w hSw
        try dsimp only at hSw
        go_simp <;> with_reducible rfl
      try simp only [Act.put, List.setIfInBounds_toArray, List.set_cons_zero, List.set_cons_succ]
      refine wpAnyH_take (i := 20) (oi := { dst := some 66, op := Op.load 30 (Operand.tmp 65), type := 30, pos := "law.go:75", after := #[{ on := 19, ground := Ground.data }, { on := 14, ground := Ground.guard }], guard := some (14, false) }) (v := ?_) rfl (by kernel_rfl) (by kernel_rfl) (by kernel_rfl) (fun _ _ _ h => h) (Or.inl ⟨by rfl, ?_⟩) (by assumption) ?_
      rotate_left
      · intro w hSw
        try dsimp only at hSw
        go_simp <;> with_reducible rfl
      try simp only [Act.put, List.setIfInBounds_toArray, List.set_cons_zero, List.set_cons_succ]
      refine wpAnyH_take (i := 21) (oi := { dst := some 67, op := Op.call { callee := Callee.builtin Builtin.len, args := #[Operand.tmp 66], argTypes := #[30] }, type := 3, pos := "law.go:75", after := #[{ on := 20, ground := Ground.data }, { on := 14, ground := Ground.guard }], guard := some (14, false) }) (v := ?_) rfl (by kernel_rfl) (by kernel_rfl) (by kernel_rfl) (fun _ _ _ h => h) (Or.inl ⟨by rfl, ?_⟩) (by assumption) ?_
      rotate_left
      · intro w hSw
        try dsimp only at hSw
        go_simp <;> with_reducible rfl
      try simp only [Act.put, List.setIfInBounds_toArray, List.set_cons_zero, List.set_cons_succ]
      refine wpAnyH_ready (rs := [16]) (by kernel_rfl) (by simp) ?_
      refine AllReadyH.cons (o := { dst := some 62, op := Op.call { callee := Callee.value (Operand.func 13), args := #[Operand.tmp 61], argTypes := #[25] }, type := 3, pos := "law.go:75", after := #[{ on := 15, ground := Ground.data }, { on := 14, ground := Ground.chain }, { on := 14, ground := Ground.guard }], guard := some (14, false) }) rfl (fun K hK => ?_) AllReadyH.nil
      go_simp
      refine (len_any p left' room v' L' _ HH7.out.mid.st).mono ?_
      rintro e _ ⟨rfl, rfl⟩
      rw [← HN.out.1]
      go_wp2_with fail
      refine hK.out _ _ (HK5.out _ HB7.out) (fun hHeld => ?_)
      clear hK K
      try simp only [Act.put, List.setIfInBounds_toArray, List.set_cons_zero, List.set_cons_succ]
      refine wpAnyH_take (i := 22) (oi := { dst := some 68, op := Op.binOp BinOp.neq 3 (Operand.tmp 62) (Operand.tmp 67) 3, type := 4, pos := "law.go:75", after := #[{ on := 16, ground := Ground.data }, { on := 21, ground := Ground.data }, { on := 14, ground := Ground.guard }], guard := some (14, false) }) (v := ?_) rfl (by kernel_rfl) (by kernel_rfl) (by kernel_rfl) (fun _ _ _ h => h) (Or.inl ⟨by rfl, ?_⟩) (by assumption) ?_
      rotate_left
      · intro w hSw
        try dsimp only at hSw
        go_simp <;> with_reducible rfl
      try simp only [Act.put, List.setIfInBounds_toArray, List.set_cons_zero, List.set_cons_succ]
      refine wpAnyH_take (i := 23) (oi := { dst := some 69, op := Op.pick (Operand.tmp 60) (Operand.const (Value.bool true)) (Operand.tmp 68), type := 4, pos := "law.go:75", after := #[{ on := 14, ground := Ground.data }, { on := 22, ground := Ground.data }], guard := none }) (v := ?_) rfl (by kernel_rfl) (by kernel_rfl) (by kernel_rfl) (fun _ _ _ h => h) (Or.inl ⟨by rfl, ?_⟩) (by assumption) ?_
      rotate_left
      · intro w hSw
        try dsimp only at hSw
        go_simp <;> with_reducible rfl
      try simp only [Act.put, List.setIfInBounds_toArray, List.set_cons_zero, List.set_cons_succ]
      refine wpAnyH_take (i := 24) (oi := { dst := some 70, op := Op.move (Operand.tmp 69), type := 4, pos := "law.go:75", after := #[{ on := 23, ground := Ground.data }, { on := 16, ground := Ground.chain }], guard := none }) (v := ?_) rfl (by kernel_rfl) (by kernel_rfl) (by kernel_rfl) (fun _ _ _ h => h) (Or.inl ⟨by rfl, ?_⟩) (by assumption) ?_
      rotate_left
      · intro w hSw
        try dsimp only at hSw
        go_simp <;> with_reducible rfl
      try simp only [Act.put, List.setIfInBounds_toArray, List.set_cons_zero, List.set_cons_succ]
      refine wpAnyH_take (i := 25) (oi := { dst := some 71, op := Op.move (Operand.tmp 5), type := 25, pos := "law.go:75", after := #[{ on := 24, ground := Ground.guard }], guard := some (24, false) }) (v := ?_) rfl (by kernel_rfl) (by kernel_rfl) (by kernel_rfl) (fun _ _ _ h => h) (Or.inl ⟨by rfl, ?_⟩) (by assumption) ?_
      rotate_left
      · intro w hSw
        try dsimp only at hSw
        go_simp <;> with_reducible rfl
      try simp only [Act.put, List.setIfInBounds_toArray, List.set_cons_zero, List.set_cons_succ]
      refine wpAnyH_take (i := 27) (oi := { dst := some 73, op := Op.move (Operand.tmp 7), type := 29, pos := "law.go:75", after := #[{ on := 24, ground := Ground.guard }], guard := some (24, false) }) (v := ?_) rfl (by kernel_rfl) (by kernel_rfl) (by kernel_rfl) (fun _ _ _ h => h) (Or.inl ⟨by rfl, ?_⟩) (by assumption) ?_
      rotate_left
      · intro w hSw
        try dsimp only at hSw
        go_simp <;> with_reducible rfl
      try simp only [Act.put, List.setIfInBounds_toArray, List.set_cons_zero, List.set_cons_succ]
      refine wpAnyH_ready (rs := [26]) (by kernel_rfl) (by simp) ?_
      refine AllReadyH.cons (o := { dst := some 72, op := Op.call { callee := Callee.value (Operand.func 14), args := #[Operand.tmp 71], argTypes := #[25] }, type := 3, pos := "law.go:75", after := #[{ on := 25, ground := Ground.data }, { on := 24, ground := Ground.chain }, { on := 24, ground := Ground.guard }], guard := some (24, false) }) rfl (fun K hK => ?_) AllReadyH.nil
      go_simp
      refine (used_any p left' room v' L' _ HH7.out.mid.st).mono ?_
      rintro e _ ⟨rfl, rfl⟩
      go_wp2_with fail
      refine hK.out _ _ (HK5.out _ HB7.out) (fun hHeld => ?_)
      clear hK K
      try simp only [Act.put, List.setIfInBounds_toArray, List.set_cons_zero, List.set_cons_succ]
      refine wpAnyH_ready (rs := [28]) (by kernel_rfl) (by simp) ?_
      refine AllReadyH.cons (o := { dst := some 74, op := Op.call { callee := Callee.value (Operand.func 15), args := #[Operand.tmp 73], argTypes := #[29] }, type := 3, pos := "law.go:75", after := #[{ on := 27, ground := Ground.data }, { on := 26, ground := Ground.chain }, { on := 24, ground := Ground.guard }], guard := some (24, false) }) rfl (fun K hK => ?_) AllReadyH.nil
      go_simp
      refine (rused_any q left' vL' vT' room R' _ HH7.out.rf (by have h1 := HH7.out.mid.st.us; have h2 := HH7.out.mid.st.r1; have h3 := HU.out; omega)).mono ?_
      rintro e _ ⟨rfl, rfl⟩
      rw [HU.out]
      go_wp2_with fail
      refine hK.out _ _ (HK5.out _ HB7.out) (fun hHeld => ?_)
      clear hK K
      try simp only [Act.put, List.setIfInBounds_toArray, List.set_cons_zero, List.set_cons_succ]
      refine wpAnyH_take (i := 29) (oi := { dst := some 75, op := Op.binOp BinOp.neq 3 (Operand.tmp 72) (Operand.tmp 74) 3, type := 4, pos := "law.go:75", after := #[{ on := 26, ground := Ground.data }, { on := 28, ground := Ground.data }, { on := 24, ground := Ground.guard }], guard := some (24, false) }) (v := ?_) rfl (by kernel_rfl) (by kernel_rfl) (by kernel_rfl) (fun _ _ _ h => h) (Or.inl ⟨by rfl, ?_⟩) (by assumption) ?_
      rotate_left
      · intro w hSw
        try dsimp only at hSw
        go_simp <;> with_reducible rfl
      try simp only [Act.put, List.setIfInBounds_toArray, List.set_cons_zero, List.set_cons_succ]
      refine wpAnyH_take (i := 30) (oi := { dst := some 76, op := Op.pick (Operand.tmp 70) (Operand.const (Value.bool true)) (Operand.tmp 75), type := 4, pos := "law.go:75", after := #[{ on := 24, ground := Ground.data }, { on := 29, ground := Ground.data }], guard := none }) (v := ?_) rfl (by kernel_rfl) (by kernel_rfl) (by kernel_rfl) (fun _ _ _ h => h) (Or.inl ⟨by rfl, ?_⟩) (by assumption) ?_
      rotate_left
      · intro w hSw
        try dsimp only at hSw
        go_simp <;> with_reducible rfl
      try simp only [Act.put, List.setIfInBounds_toArray, List.set_cons_zero, List.set_cons_succ]
      refine wpAnyH_take (i := 31) (oi := { dst := some 77, op := Op.move (Operand.tmp 76), type := 4, pos := "law.go:75", after := #[{ on := 30, ground := Ground.data }, { on := 28, ground := Ground.chain }], guard := none }) (v := ?_) rfl (by kernel_rfl) (by kernel_rfl) (by kernel_rfl) (fun _ _ _ h => h) (Or.inl ⟨by rfl, ?_⟩) (by assumption) ?_
      rotate_left
      · intro w hSw
        try dsimp only at hSw
        go_simp <;> with_reducible rfl
      try simp only [Act.put, List.setIfInBounds_toArray, List.set_cons_zero, List.set_cons_succ]
      refine wpAnyH_take (i := 32) (oi := { dst := some 78, op := Op.move (Operand.tmp 5), type := 25, pos := "law.go:75", after := #[{ on := 31, ground := Ground.guard }], guard := some (31, false) }) (v := ?_) rfl (by kernel_rfl) (by kernel_rfl) (by kernel_rfl) (fun _ _ _ h => h) (Or.inl ⟨by rfl, ?_⟩) (by assumption) ?_
      rotate_left
      · intro w hSw
        try dsimp only at hSw
        go_simp <;> with_reducible rfl
      try simp only [Act.put, List.setIfInBounds_toArray, List.set_cons_zero, List.set_cons_succ]
      refine wpAnyH_take (i := 34) (oi := { dst := some 80, op := Op.move (Operand.tmp 7), type := 29, pos := "law.go:75", after := #[{ on := 31, ground := Ground.guard }], guard := some (31, false) }) (v := ?_) rfl (by kernel_rfl) (by kernel_rfl) (by kernel_rfl) (fun _ _ _ h => h) (Or.inl ⟨by rfl, ?_⟩) (by assumption) ?_
      rotate_left
      · intro w hSw
        try dsimp only at hSw
        go_simp <;> with_reducible rfl
      try simp only [Act.put, List.setIfInBounds_toArray, List.set_cons_zero, List.set_cons_succ]
      refine wpAnyH_ready (rs := [33]) (by kernel_rfl) (by simp) ?_
      refine AllReadyH.cons (o := { dst := some 79, op := Op.call { callee := Callee.value (Operand.func 16), args := #[Operand.tmp 78], argTypes := #[25] }, type := 3, pos := "law.go:75", after := #[{ on := 32, ground := Ground.data }, { on := 31, ground := Ground.chain }, { on := 31, ground := Ground.guard }], guard := some (31, false) }) rfl (fun K hK => ?_) AllReadyH.nil
      go_simp
      refine (left_any p left' room v' L' _ HH7.out.mid.st).mono ?_
      rintro e _ ⟨rfl, rfl⟩
      go_wp2_with fail
      refine hK.out _ _ (HK5.out _ HB7.out) (fun hHeld => ?_)
      clear hK K
      try simp only [Act.put, List.setIfInBounds_toArray, List.set_cons_zero, List.set_cons_succ]
      refine wpAnyH_ready (rs := [35]) (by kernel_rfl) (by simp) ?_
      refine AllReadyH.cons (o := { dst := some 81, op := Op.call { callee := Callee.value (Operand.func 17), args := #[Operand.tmp 80], argTypes := #[29] }, type := 3, pos := "law.go:75", after := #[{ on := 34, ground := Ground.data }, { on := 33, ground := Ground.chain }, { on := 31, ground := Ground.guard }], guard := some (31, false) }) rfl (fun K hK => ?_) AllReadyH.nil
      go_simp
      refine (rleft_any q left' vL' vT' room R' _ HH7.out.rf (by have h1 := HH7.out.mid.st.small; have h2 := HN.out; omega) (by have h1 := HH7.out.mid.st.le; have h2 := HN.out; omega)).mono ?_
      rintro e _ ⟨rfl, rfl⟩
      go_wp2_with fail
      refine hK.out _ _ (HK5.out _ HB7.out) (fun hHeld => ?_)
      clear hK K
      try simp only [Act.put, List.setIfInBounds_toArray, List.set_cons_zero, List.set_cons_succ]
      refine wpAnyH_take (i := 36) (oi := { dst := some 82, op := Op.binOp BinOp.neq 3 (Operand.tmp 79) (Operand.tmp 81) 3, type := 4, pos := "law.go:75", after := #[{ on := 33, ground := Ground.data }, { on := 35, ground := Ground.data }, { on := 31, ground := Ground.guard }], guard := some (31, false) }) (v := ?_) rfl (by kernel_rfl) (by kernel_rfl) (by kernel_rfl) (fun _ _ _ h => h) (Or.inl ⟨by rfl, ?_⟩) (by assumption) ?_
      rotate_left
      · intro w hSw
        try dsimp only at hSw
        go_simp <;> with_reducible rfl
      try simp only [Act.put, List.setIfInBounds_toArray, List.set_cons_zero, List.set_cons_succ]
      refine wpAnyH_take (i := 37) (oi := { dst := some 83, op := Op.pick (Operand.tmp 77) (Operand.const (Value.bool true)) (Operand.tmp 82), type := 4, pos := "law.go:75", after := #[{ on := 31, ground := Ground.data }, { on := 36, ground := Ground.data }], guard := none }) (v := ?_) rfl (by kernel_rfl) (by kernel_rfl) (by kernel_rfl) (fun _ _ _ h => h) (Or.inl ⟨by rfl, ?_⟩) (by assumption) ?_
      rotate_left
      · intro w hSw
        try dsimp only at hSw
        go_simp <;> with_reducible rfl
      try simp only [Act.put, List.setIfInBounds_toArray, List.set_cons_zero, List.set_cons_succ]
      refine wpAnyH_take (i := 38) (oi := { dst := some 84, op := Op.move (Operand.tmp 83), type := 4, pos := "law.go:75", after := #[{ on := 37, ground := Ground.data }, { on := 35, ground := Ground.chain }], guard := none }) (v := ?_) rfl (by kernel_rfl) (by kernel_rfl) (by kernel_rfl) (fun _ _ _ h => h) (Or.inl ⟨by rfl, ?_⟩) (by assumption) ?_
      rotate_left
      · intro w hSw
        try dsimp only at hSw
        go_simp <;> with_reducible rfl
      try simp only [Act.put, List.setIfInBounds_toArray, List.set_cons_zero, List.set_cons_succ]
      refine wpAnyH_take (i := 39) (oi := { dst := some 85, op := Op.move (Operand.tmp 5), type := 25, pos := "law.go:75", after := #[{ on := 38, ground := Ground.guard }], guard := some (38, false) }) (v := ?_) rfl (by kernel_rfl) (by kernel_rfl) (by kernel_rfl) (fun _ _ _ h => h) (Or.inl ⟨by rfl, ?_⟩) (by assumption) ?_
      rotate_left
      · intro w hSw
        try dsimp only at hSw
        go_simp <;> with_reducible rfl
      try simp only [Act.put, List.setIfInBounds_toArray, List.set_cons_zero, List.set_cons_succ]
      refine wpAnyH_take (i := 41) (oi := { dst := some 87, op := Op.move (Operand.tmp 7), type := 29, pos := "law.go:75", after := #[{ on := 38, ground := Ground.guard }], guard := some (38, false) }) (v := ?_) rfl (by kernel_rfl) (by kernel_rfl) (by kernel_rfl) (fun _ _ _ h => h) (Or.inl ⟨by rfl, ?_⟩) (by assumption) ?_
      rotate_left
      · intro w hSw
        try dsimp only at hSw
        go_simp <;> with_reducible rfl
      try simp only [Act.put, List.setIfInBounds_toArray, List.set_cons_zero, List.set_cons_succ]
      refine wpAnyH_take (i := 42) (oi := { dst := some 88, op := Op.nilCheck (Operand.tmp 87), type := 0, pos := "law.go:75", after := #[{ on := 41, ground := Ground.data }, { on := 38, ground := Ground.guard }], guard := some (38, false) }) (v := ?_) rfl (by kernel_rfl) (by kernel_rfl) (by kernel_rfl) (fun _ _ _ h => h) (Or.inl ⟨by rfl, ?_⟩) (by assumption) ?_
      rotate_left
      · intro w hSw
        try dsimp only at hSw
        go_simp <;> with_reducible rfl
      try simp only [Act.put, List.setIfInBounds_toArray, List.set_cons_zero, List.set_cons_succ]
      refine wpAnyH_take (i := 43) (oi := { dst := some 89, op := Op.fieldAddr 33 (Operand.tmp 88) 0, type := 0, pos := "law.go:75", after := #[{ on := 42, ground := Ground.data }, { on := 38, ground := Ground.guard }], guard := some (38, false) }) (v := ?_) rfl (by kernel_rfl) (by kernel_rfl) (by kernel_rfl) (fun _ _ _ h => h) (Or.inl ⟨by rfl, ?_⟩) (by assumption) ?_
      rotate_left
      · intro w hSw
        try dsimp only at hSw
        go_simp <;> with_reducible rfl
      try simp only [Act.put, List.setIfInBounds_toArray, List.set_cons_zero, List.set_cons_succ]
      refine wpAnyH_take (i := 44) (oi := { dst := some 90, op := Op.load 30 (Operand.tmp 89), type := 30, pos := "law.go:75", after := #[{ on := 43, ground := Ground.data }, { on := 38, ground := Ground.guard }], guard := some (38, false) }) (v := ?_) rfl (by kernel_rfl) (by kernel_rfl) (by kernel_rfl) (fun _ _ _ h => h) (Or.inl ⟨by rfl, ?_⟩) (by assumption) ?_
      rotate_left
      · intro w hSw
        try dsimp only at hSw
        go_simp <;> with_reducible rfl
      try simp only [Act.put, List.setIfInBounds_toArray, List.set_cons_zero, List.set_cons_succ]
      refine wpAnyH_ready (rs := [40]) (by kernel_rfl) (by simp) ?_
      refine AllReadyH.cons (o := { dst := some 86, op := Op.call { callee := Callee.value (Operand.func 19), args := #[Operand.tmp 85], argTypes := #[25] }, type := 30, pos := "law.go:75", after := #[{ on := 39, ground := Ground.data }, { on := 38, ground := Ground.chain }, { on := 38, ground := Ground.guard }], guard := some (38, false) }) rfl (fun K hK => ?_) AllReadyH.nil
      go_simp
      refine (list_any p left' room v' L' _ HH7.out.mid.st).mono ?_
      rintro e x8 ⟨u8, rfl, M8, hM8, hmm, hnew, _, hb8⟩
      have HB8 := Lib.hid (HB7.out.trans (hb8.mono HB7.out.size))
      have HH8 := Lib.hid (HH7.out.later hb8)
      have HM8 := Lib.hid (And.intro hM8 (And.intro hmm hnew))
      clear hb8 hM8 hmm hnew
      go_wp2_with fail
      refine hK.out _ _ (HK5.out _ HB8.out) (fun hHeld => ?_)
      clear hK K
      try simp only [Act.put, List.setIfInBounds_toArray, List.set_cons_zero, List.set_cons_succ]
      refine wpAnyH_ready (rs := [45]) (by kernel_rfl) (by simp) ?_
      refine AllReadyH.cons (o := { dst := some 91, op := Op.call { callee := Callee.value (Operand.func 18), args := #[Operand.tmp 86, Operand.tmp 90], argTypes := #[30, 30] }, type := 4, pos := "law.go:75", after := #[{ on := 40, ground := Ground.data }, { on := 44, ground := Ground.data }, { on := 40, ground := Ground.chain }, { on := 38, ground := Ground.guard }], guard := some (38, false) }) rfl (fun K hK => ?_) AllReadyH.nil
      go_simp
      refine (lsame_any M8 R' u8 (.slice aL N cL) (fun _ => True) (fun _ => True) _ HM8.out.1 (HN.out.2.2 ▸ HH8.out.rf.fs) (HM8.out.2.1.trans HE6.out.symm) (fun x hx => (HM8.out.2.2 x hx).wat.move (fun _ _ _ => ⟨trivial, rfl⟩) (Nat.le_refl _)) (fun x hx => (HH8.out.rw x hx).move (fun g hg _ => ⟨trivial, HH8.out.mid.below.block g hg⟩) HH8.out.mid.below.size) (by have h1 := HH8.out.mid.st.small; have h2 := congrArg List.length HM8.out.2.1; simp only [List.length_map] at h2; omega)).mono ?_
      rintro e x9 ⟨rfl, hb9⟩
      have HB9 := Lib.hid (HB8.out.trans (hb9.mono HB8.out.size))
      have HH9 := Lib.hid (HH8.out.later hb9)
      clear hb9
      go_wp2_with fail
      refine hK.out _ _ (HK5.out _ HB9.out) (fun hHeld => ?_)
      clear hK K
      try simp only [Act.put, List.setIfInBounds_toArray, List.set_cons_zero, List.set_cons_succ]
      refine wpAnyH_take (i := 46) (oi := { dst := some 92, op := Op.unOp UnOp.not 4 (Operand.tmp 91), type := 4, pos := "law.go:75", after := #[{ on := 45, ground := Ground.data }, { on := 38, ground := Ground.guard }], guard := some (38, false) }) (v := ?_) rfl (by kernel_rfl) (by kernel_rfl) (by kernel_rfl) (fun _ _ _ h => h) (Or.inl ⟨by rfl, ?_⟩) (by assumption) ?_
      rotate_left
      · intro w hSw
        try dsimp only at hSw
        go_simp <;> with_reducible rfl
      try simp only [Act.put, List.setIfInBounds_toArray, List.set_cons_zero, List.set_cons_succ]
      refine wpAnyH_take (i := 47) (oi := { dst := some 93, op := Op.pick (Operand.tmp 84) (Operand.const (Value.bool true)) (Operand.tmp 92), type := 4, pos := "law.go:75", after := #[{ on := 38, ground := Ground.data }, { on := 46, ground := Ground.data }], guard := none }) (v := ?_) rfl (by kernel_rfl) (by kernel_rfl) (by kernel_rfl) (fun _ _ _ h => h) (Or.inl ⟨by rfl, ?_⟩) (by assumption) ?_
      rotate_left
      · intro w hSw
        try dsimp only at hSw
        go_simp <;> with_reducible rfl
      try simp only [Act.put, List.setIfInBounds_toArray, List.set_cons_zero, List.set_cons_succ]
      refine wpAnyH_done (by kernel_rfl) ?_ _
      go_wp2_with fail
      go_roundw
      case rel => exact ⟨i + 1, L', R', left', by omega, by go_num, _, _, _, HH9.out, HE6.out⟩
      case measure => simp [RowKit.intOf]; omega
    · obtain rfl : i = len := by omega
      have HH := Lib.hid hH
      have hus : used L ≤ room := hH.mid.st.us
      clear hH hE
      go_wp2_with fail
      refine (used_any p left room v L _ HH.out.mid.st).mono ?_
      rintro e w5 ⟨rfl, rfl⟩
      go_wp2_with fail
      go_ret
      exact ⟨rfl, HH.out.mid.below⟩

theorem plays_walk (a0 : Option Addr) (len cap : Nat) (X : Nat → Int) (F : Nat → Fr) (room : Int) (w : World) (hA : Acts w a0 len X F) :
    Calls Try.prog 3 #[.int .i64 room, .slice a0 len cap] w fun e w' => e = .returned (.bool true) ∧ Below w.heap.size w w' := by
  by_cases h : Few len F ∧ 0 ≤ room ∧ room ≤ 4096
  · exact plays_in a0 len cap X F room w hA h.1 h.2.1 h.2.2
  · exact plays_few a0 len cap X F room w hA h

end Go.Proofs.Ytalfhcmccdnajaa
