import Derived.Laws.ResultCell
import Derived.Test.YthehgcmhcioffaaGreatDoorRows
import Derived.ChangeMaps5
import Derived.LaidMore
import Derived.Lay
import Derived.Lib.LaidTab
import Derived.SevenTiedAt
import Derived.Test.YthehgcmhcioffaaGreatDoorMg5
import Derived.Test.YthehgcmhcioffaaGreatDoorMg11
import Derived.Test.YthehgcmhcioffaaGreatDoorMg21
import Derived.Test.YthehgcmhcioffaaGreatDoorMg23
namespace Go.Proofs.YthehgcmhcioffaaGreatDoor
set_option maxHeartbeats 64000000
set_option maxRecDepth 100000
open Go.RowKit Go.Lib
theorem digs_itoa (x : Nat) (h : x < 9223372036854775808) : (⟨(digs 10 x).toArray⟩ : ByteArray) = tx (Lib.itoa (x : Int)) := by
  have h1 := int_text_up x h
  rw [show wrap64 (x : Int) = (x : Int) by unfold wrap64; omega] at h1
  rw [h1]
  rfl
theorem dmodule_any (m : Md) (hkb : kfBs m.2) (hwb : wfBs m.2) (hx : sumN xB2 m.2 ≤ 100000) (hd : ∀ d, d ∈ m.1 → ∃ x : Nat, d.2 = (x : Int) ∧ x < 9223372036854775808) (hdl : (headT m.1).length ≤ 20000000000) (K : Nat → Prop) (ad : Option Addr) (cd : Nat) (ab : Option Addr) (cb : Nat) (w : World) (hm : ModAt w K m ad cd ab cb) :
    Calls Tryz.prog 11 #[.agg #[.slice ad m.1.length cd, .slice ab m.2.length cb]] w fun e w' => e = .returned (.string (tx (modT m))) ∧ Below w.heap.size w w' := by
  have hx0 := (Below.refl w.heap.size w).alloc Nr (.cells #[.slice ad m.1.length cd, .slice ab m.2.length cb] 26)
  have HX := Hd (Ai hx0 (BoxW.alloc w #[.slice ad m.1.length cd, .slice ab m.2.length cb] 26))
  have hcapB := (hm.br.choose_spec.1).cap
  have hcapD := hm.dr.cap
  unfold maxLen at hcapB hcapD
  have HL := Hd (fun j => Nt (lines_take m.2 j) (show (linesT m.2).length ≤ 20000000000 by
    rw [lines_len]
    have := bindsLB m.2 hkb hwb
    omega))
  have HT : Hid (∀ y, y ∈ m.2 → TdE y.2.2 ∧ (bindT y).length ≤ 20000000000) := fun y hy => by
    have h2 : 2 + y.2.1.length + wxE y.2.2 ≤ sumN xB2 m.2 := sumN_mem xB2 hy
    refine ⟨dtext_all (SizeOf.sizeOf y.2.2) y.2.2 Nr (kfBs_mem hkb y hy) (wfBs_mem hwb y hy).2.2 (by omega), ?_⟩
    have h5 : (bindT y).length + 2 ≤ _ := sumN_mem (fun b => (bindT b).length + 2) hy
    have := bindsLB m.2 hkb hwb
    omega
  have HH := Hd hdl
  have HO := Hd hm
  have HDD := Hd hd
  clear hx0 hkb hwb hx hd hdl hm
  go_enter Tryz.func11, Tryz.ntmps11
  go_upto_region 1 with fail
  have c0 : (w.alloc (.cells #[.slice ad m.1.length cd, .slice ab m.2.length cb] 26)).cell? ⟨w.heap.size, 0, none⟩ = some (.slice ad m.1.length cd) := HX.out.2.1 0 _ rfl
  have c1 : (w.alloc (.cells #[.slice ad m.1.length cd, .slice ab m.2.length cb] 26)).cell? ⟨w.heap.size, 1, none⟩ = some (.slice ab m.2.length cb) := HX.out.2.1 1 _ rfl
  generalize (w.alloc (.cells #[.slice ad m.1.length cd, .slice ab m.2.length cb] 26)) = W at *
  have H0 : Hid (Below W.heap.size W W) := Below.refl _ _
  by_cases g : m.1.length = 0
  · have hh : tx (headT m.1) = ⟨#[]⟩ := by unfold headT; rw [if_pos g]; rfl
    have hl : headT m.1 = [] := by unfold headT; rw [if_pos g]
    have g0 : ¬ (m.1.length : Int) > 0 := by omega
    have HL0 := Hd hl
    clear hh hl
    go_wp2_with fail
    clear c0 c1
    go_loopw [3, 5] (fun s3 s5 wr => ∃ j : Nat, j ≤ m.2.length ∧ s3 = .string (tx (headT m.1 ++ linesT (m.2.take j))) ∧ s5 = .int .i64 j ∧ Below W.heap.size W wr) (fun _ s5 _ => m.2.length - (RowKit.intOf s5).toNat)
    case atStart => exact ⟨0, Nat.zero_le _, by rw [List.take_zero, HL0.out]; rfl, rfl, H0.out⟩
    case round =>
      obtain ⟨j, hj, rfl, rfl, hbr⟩ := hrel
      have HR := Hd hbr
      clear hbr
      have d0 : wr.cell? ⟨w.heap.size, 0, none⟩ = some (.slice ad m.1.length cd) := (HX.out.2.below HR.out).1 0 _ rfl
      have d1 : wr.cell? ⟨w.heap.size, 1, none⟩ = some (.slice ab m.2.length cb) := (HX.out.2.below HR.out).1 1 _ rfl
      by_cases gj : j < m.2.length
      · have gj' : (j : Int) < (m.2.length : Int) := by omega
        obtain ⟨xb, hB, tB⟩ := HO.out.br
        obtain ⟨aq, cq, k, nm, f, u, ap, np, cp, ak, nk, ck, ab2, nb, cb2, aa, na, ca, hQ, hE, hc⟩ := tB.cells j gj
        obtain ⟨g1, o1, ea1, k1, m1', -, ht1⟩ := hB.at (by omega)
        subst ea1
        have HP := Hd (fun i v h => later' (onB' HX.out.1 HR.out) (ht1 _ _ (hc i v h)))
        have HA := Hd (ddbind_any m.2[j] (HT.out _ (List.getElem_mem gj)).1 (HT.out _ (List.getElem_mem gj)).2 aq cq K wr k nm f u ap np cp ak nk ck ab2 nb cb2 aa na ca (hQ.blw (onB' HX.out.1 HR.out)) (hE.blw (onB' HX.out.1 HR.out)))
        have hl1 := HL.out (j + 1)
        have hl0 := HL.out j
        rw [lines_step m.2 gj, List.length_append] at hl1
        unfold lineL at hl1
        rw [List.length_append] at hl1
        have hh := HH.out
        have z3 : (tx (headT m.1 ++ linesT (m.2.take j))).size ≤ 60000000000 := by rw [tx_size, List.length_append]; omega
        have z4 : (tx (bindT m.2[j])).size ≤ 20000000000 := by rw [tx_size]; omega
        have p0 : wr.cell? ⟨g1, o1 + j * 10, none⟩ = some (.string (tx m.2[j].1)) := HP.out 0 _ rfl
        have p1 : wr.cell? ⟨g1, o1 + j * 10 + 1, none⟩ = some (.slice aq m.2[j].2.1.length cq) := by rw [Nat.add_assoc]; exact HP.out 1 _ rfl
        have p2 : wr.cell? ⟨g1, o1 + j * 10 + 2, none⟩ = some (.int .i64 k) := by rw [Nat.add_assoc]; exact HP.out 2 _ rfl
        have p3 : wr.cell? ⟨g1, o1 + j * 10 + 3, none⟩ = some (.string (tx nm)) := by rw [Nat.add_assoc]; exact HP.out 3 _ rfl
        have p4 : wr.cell? ⟨g1, o1 + j * 10 + 4, none⟩ = some (.bool f) := by rw [Nat.add_assoc]; exact HP.out 4 _ rfl
        have p5 : wr.cell? ⟨g1, o1 + j * 10 + 5, none⟩ = some (.int .u64 u) := by rw [Nat.add_assoc]; exact HP.out 5 _ rfl
        have p6 : wr.cell? ⟨g1, o1 + j * 10 + 6, none⟩ = some (.slice ap np cp) := by rw [Nat.add_assoc]; exact HP.out 6 _ rfl
        have p7 : wr.cell? ⟨g1, o1 + j * 10 + 7, none⟩ = some (.slice ak nk ck) := by rw [Nat.add_assoc]; exact HP.out 7 _ rfl
        have p8 : wr.cell? ⟨g1, o1 + j * 10 + 8, none⟩ = some (.slice ab2 nb cb2) := by rw [Nat.add_assoc]; exact HP.out 8 _ rfl
        have p9 : wr.cell? ⟨g1, o1 + j * 10 + 9, none⟩ = some (.slice aa na ca) := by rw [Nat.add_assoc]; exact HP.out 9 _ rfl
        have HE := Hd (show tx (headT m.1 ++ linesT (m.2.take j)) ++ tx (bindT m.2[j]) ++ ⟨#[59, 10]⟩ = tx (headT m.1 ++ linesT (m.2.take (j + 1))) by rw [lines_step m.2 gj, show (⟨#[59, 10]⟩ : ByteArray) = tx [59, 10] from rfl, tx_app, tx_app]; unfold lineL; simp only [List.append_assoc])
        clear ht1 hl1 hl0 hc hE hQ hh hB tB
        generalize tx (headT m.1 ++ linesT (m.2.take j)) = tj at *
        generalize tx (bindT m.2[j]) = tl at *
        generalize tx m.2[j].1 = e0 at *
        generalize m.2[j].2.1.length = e1 at *
        have hs1 : ¬ 9223372036854775807 < tj.size + tl.size := by omega
        have hs2 : ¬ 9223372036854775807 < tj.size + tl.size + 2 := by omega
        have ej : IntKind.i64.wrap ((j : Int) + 1) = (j : Int) + 1 := by rw [IntKind.wrap_i64]; omega
        have b0 : (0 : Int) ≤ (j : Int) := by omega
        go_wp2_with fail
        refine HA.out.mono ?_
        rintro e w2 ⟨rfl, hb⟩
        have HB := Hd (onB' HR.out hb)
        clear hb HA
        go_wp2_with fail
        exact ⟨⟨j + 1, by omega, by rw [HE.out], by go_num, HB.out⟩, by simp [RowKit.intOf]; omega⟩
      · obtain rfl : j = m.2.length := by omega
        rw [List.take_length]
        go_wp2_with fail
        go_ret
        exact ⟨rfl, onB' HX.out.1 HR.out⟩
  · have g0 : (m.1.length : Int) > 0 := by omega
    have hl : headT m.1 = (dataL ++ blk (m.1.map declT)) ++ [59, 10] := by unfold headT lineL; rw [if_neg g, blk_words]
    have HLA := Hd hl
    have HLB := Hd (fun j => Nt (blk_take (m.1.map declT) j) (show (blk (m.1.map declT)).length ≤ 20000000000 by have := HH.out; rw [hl, List.length_append, List.length_append] at this; omega))
    clear hl
    go_wp2_with fail
    clear c0 c1
    go_loopw [3, 4] (fun s3 s4 wr => ∃ j : Nat, j ≤ m.1.length ∧ s3 = .string (tx (dataL ++ blk ((m.1.map declT).take j))) ∧ s4 = .int .i64 j ∧ Below W.heap.size W wr) (fun _ s4 _ => m.1.length - (RowKit.intOf s4).toNat)
    case atStart => exact ⟨0, Nat.zero_le _, rfl, rfl, H0.out⟩
    case round =>
      obtain ⟨j, hj, rfl, rfl, hbr⟩ := hrel
      have HR := Hd hbr
      clear hbr
      have d0 : wr.cell? ⟨w.heap.size, 0, none⟩ = some (.slice ad m.1.length cd) := (HX.out.2.below HR.out).1 0 _ rfl
      have d1 : wr.cell? ⟨w.heap.size, 1, none⟩ = some (.slice ab m.2.length cb) := (HX.out.2.below HR.out).1 1 _ rfl
      by_cases gj : j < m.1.length
      · have gj' : (j : Int) < (m.1.length : Int) := by omega
        have gm : j < (m.1.map declT).length := by rw [List.length_map]; exact gj
        obtain ⟨g1, o1, ea1, k1, m1', -, ht1⟩ := HO.out.dr.at (by omega)
        subst ea1
        obtain ⟨x, hxe, hxl⟩ := HDD.out _ (List.getElem_mem gj)
        have HP0 : Hid (∀ V, Below W.heap.size W V → V.cell? ⟨g1, o1 + j * 2, none⟩ = some (.string (tx m.1[j].1))) := fun V hV => later' (onB' HX.out.1 hV) (ht1 _ _ (decl_cells m.1 j gj 0 _ rfl))
        have HP1 : Hid (∀ V, Below W.heap.size W V → V.cell? ⟨g1, o1 + j * 2 + 1, none⟩ = some (.int .i64 x)) := fun V hV => by
          have h := later' (onB' HX.out.1 hV) (ht1 _ _ (decl_cells m.1 j gj 1 _ rfl))
          rw [hxe, ← Nat.add_assoc] at h
          exact h
        have HD := Hd (fun V => show Calls Tryz.prog 29 #[.int .u64 x, .int .u64 10] V (fun e w' => e = .returned (.string (tx (Lib.itoa (x : Int)))) ∧ Below V.heap.size V w') by
          have h := digits_any x 10 V (by decide) (by decide) (by omega)
          rw [digs_itoa x hxl] at h
          exact h)
        have hl1 := HLB.out (j + 1)
        have hl0 := HLB.out j
        rw [blk_step _ gm, List.length_append, List.length_cons, map_at declT m.1 gj] at hl1
        have hdt : declT m.1[j] = m.1[j].1 ++ (32 :: Lib.itoa (x : Int)) := by unfold declT wordsL; rw [hxe]; simp
        rw [hdt, List.length_append, List.length_cons] at hl1
        have z1 : (tx (dataL ++ blk ((m.1.map declT).take j))).size ≤ 20000000004 := by rw [tx_size, List.length_append]; show 4 + _ ≤ _; omega
        have z2 : (tx m.1[j].1).size ≤ 20000000000 := by rw [tx_size]; omega
        have z3 : (tx (Lib.itoa (x : Int))).size ≤ 20000000000 := by rw [tx_size]; omega
        have HE := Hd (show tx (dataL ++ blk ((m.1.map declT).take j)) ++ ⟨#[32]⟩ ++ tx m.1[j].1 ++ ⟨#[32]⟩ ++ tx (Lib.itoa (x : Int)) = tx (dataL ++ blk ((m.1.map declT).take (j + 1))) by
          rw [show (⟨#[32]⟩ : ByteArray) = tx [32] from rfl, tx_app, tx_app, tx_app, tx_app, blk_step _ gm, map_at declT m.1 gj, hdt]
          simp only [List.append_assoc, List.cons_append, List.nil_append])
        have hcv : IntKind.u64.wrap (x : Int) = (x : Int) := by rw [IntKind.wrap_u64]; omega
        clear ht1 hl1 hl0 gm hdt hxe d1
        generalize tx (dataL ++ blk ((m.1.map declT).take j)) = tj at *
        generalize tx m.1[j].1 = ta at *
        generalize tx (Lib.itoa (x : Int)) = tb at *
        have hs1 : ¬ 9223372036854775807 < tj.size + 1 := by omega
        have hs2 : ¬ 9223372036854775807 < tj.size + 1 + ta.size := by omega
        have hs3 : ¬ 9223372036854775807 < tj.size + 1 + ta.size + 1 := by omega
        have hs4 : ¬ 9223372036854775807 < tj.size + 1 + ta.size + 1 + tb.size := by omega
        have ej : IntKind.i64.wrap ((j : Int) + 1) = (j : Int) + 1 := by rw [IntKind.wrap_i64]; omega
        have b0 : (0 : Int) ≤ (j : Int) := by omega
        go_upto_region 7 with fail
        refine wp_region_held_drew (S := fun V => Below W.heap.size W V) (by kernel_rfl) (HR.out.drew) (fun hHeld => ?_)
        refine wpAnyH_take (i := 0) (oi := { dst := some 17, op := Op.move (Operand.tmp 3), type := 9, pos := "ref.go:105", after := #[], guard := none }) (v := ?_) rfl (by kernel_rfl) (by kernel_rfl) (by kernel_rfl) (fun _ _ _ h => h) (Or.inl ⟨by rfl, ?_⟩) (by assumption) ?_
        rotate_left
        · intro V9 hSw
          try dsimp only at hSw
          go_simp <;> with_reducible rfl
        try simp only [Act.put, List.setIfInBounds_toArray, List.set_cons_zero, List.set_cons_succ]
        refine wpAnyH_take (i := 1) (oi := { dst := some 18, op := Op.binOp BinOp.add 9 (Operand.tmp 17) (Operand.const (Value.string { data := #[32] })) 9, type := 9, pos := "ref.go:105", after := #[{ on := 0, ground := Ground.data }], guard := none }) (v := ?_) rfl (by kernel_rfl) (by kernel_rfl) (by kernel_rfl) (fun _ _ _ h => h) (Or.inl ⟨by rfl, ?_⟩) (by assumption) ?_
        rotate_left
        · intro V9 hSw
          try dsimp only at hSw
          go_simp <;> with_reducible rfl
        try simp only [Act.put, List.setIfInBounds_toArray, List.set_cons_zero, List.set_cons_succ]
        refine wpAnyH_take (i := 2) (oi := { dst := some 19, op := Op.fieldAddr 26 (Operand.tmp 1) 0, type := 0, pos := "ref.go:105", after := #[], guard := none }) (v := ?_) rfl (by kernel_rfl) (by kernel_rfl) (by kernel_rfl) (fun _ _ _ h => h) (Or.inl ⟨by rfl, ?_⟩) (by assumption) ?_
        rotate_left
        · intro V9 hSw
          try dsimp only at hSw
          go_simp <;> with_reducible rfl
        try simp only [Act.put, List.setIfInBounds_toArray, List.set_cons_zero, List.set_cons_succ]
        refine wpAnyH_take (i := 3) (oi := { dst := some 20, op := Op.load 23 (Operand.tmp 19), type := 23, pos := "ref.go:105", after := #[{ on := 2, ground := Ground.data }], guard := none }) (v := ?_) rfl (by kernel_rfl) (by kernel_rfl) (by kernel_rfl) (fun _ _ _ h => h) (Or.inl ⟨by rfl, ?_⟩) (by assumption) ?_
        rotate_left
        · intro V9 hSw
          try dsimp only at hSw
          have f0 := (HX.out.2.below hSw).1 0 _ rfl
          go_simp <;> with_reducible rfl
        try simp only [Act.put, List.setIfInBounds_toArray, List.set_cons_zero, List.set_cons_succ]
        refine wpAnyH_take (i := 4) (oi := { dst := some 21, op := Op.move (Operand.tmp 4), type := 3, pos := "ref.go:105", after := #[], guard := none }) (v := ?_) rfl (by kernel_rfl) (by kernel_rfl) (by kernel_rfl) (fun _ _ _ h => h) (Or.inl ⟨by rfl, ?_⟩) (by assumption) ?_
        rotate_left
        · intro V9 hSw
          try dsimp only at hSw
          go_simp <;> with_reducible rfl
        try simp only [Act.put, List.setIfInBounds_toArray, List.set_cons_zero, List.set_cons_succ]
        refine wpAnyH_take (i := 5) (oi := { dst := some 22, op := Op.indexAddr 23 (Operand.tmp 20) (Operand.tmp 21), type := 0, pos := "ref.go:105", after := #[{ on := 3, ground := Ground.data }, { on := 4, ground := Ground.data }], guard := none }) (v := ?_) rfl (by kernel_rfl) (by kernel_rfl) (by kernel_rfl) (fun _ _ _ h => h) (Or.inl ⟨by rfl, ?_⟩) (by assumption) ?_
        rotate_left
        · intro V9 hSw
          try dsimp only at hSw
          go_simp <;> with_reducible rfl
        try simp only [Act.put, List.setIfInBounds_toArray, List.set_cons_zero, List.set_cons_succ]
        refine wpAnyH_take (i := 6) (oi := { dst := some 23, op := Op.fieldAddr 69 (Operand.tmp 22) 0, type := 0, pos := "ref.go:105", after := #[{ on := 5, ground := Ground.data }], guard := none }) (v := ?_) rfl (by kernel_rfl) (by kernel_rfl) (by kernel_rfl) (fun _ _ _ h => h) (Or.inl ⟨by rfl, ?_⟩) (by assumption) ?_
        rotate_left
        · intro V9 hSw
          try dsimp only at hSw
          go_simp <;> with_reducible rfl
        try simp only [Act.put, List.setIfInBounds_toArray, List.set_cons_zero, List.set_cons_succ]
        refine wpAnyH_take (i := 7) (oi := { dst := some 24, op := Op.load 9 (Operand.tmp 23), type := 9, pos := "ref.go:105", after := #[{ on := 6, ground := Ground.data }], guard := none }) (v := ?_) rfl (by kernel_rfl) (by kernel_rfl) (by kernel_rfl) (fun _ _ _ h => h) (Or.inl ⟨by rfl, ?_⟩) (by assumption) ?_
        rotate_left
        · intro V9 hSw
          try dsimp only at hSw
          have f1 := HP0.out V9 hSw
          go_simp <;> with_reducible rfl
        try simp only [Act.put, List.setIfInBounds_toArray, List.set_cons_zero, List.set_cons_succ]
        refine wpAnyH_take (i := 8) (oi := { dst := some 25, op := Op.binOp BinOp.add 9 (Operand.tmp 18) (Operand.tmp 24) 9, type := 9, pos := "ref.go:105", after := #[{ on := 1, ground := Ground.data }, { on := 7, ground := Ground.data }], guard := none }) (v := ?_) rfl (by kernel_rfl) (by kernel_rfl) (by kernel_rfl) (fun _ _ _ h => h) (Or.inl ⟨by rfl, ?_⟩) (by assumption) ?_
        rotate_left
        · intro V9 hSw
          try dsimp only at hSw
          go_simp <;> with_reducible rfl
        try simp only [Act.put, List.setIfInBounds_toArray, List.set_cons_zero, List.set_cons_succ]
        refine wpAnyH_take (i := 9) (oi := { dst := some 26, op := Op.binOp BinOp.add 9 (Operand.tmp 25) (Operand.const (Value.string { data := #[32] })) 9, type := 9, pos := "ref.go:105", after := #[{ on := 8, ground := Ground.data }], guard := none }) (v := ?_) rfl (by kernel_rfl) (by kernel_rfl) (by kernel_rfl) (fun _ _ _ h => h) (Or.inl ⟨by rfl, ?_⟩) (by assumption) ?_
        rotate_left
        · intro V9 hSw
          try dsimp only at hSw
          go_simp <;> with_reducible rfl
        try simp only [Act.put, List.setIfInBounds_toArray, List.set_cons_zero, List.set_cons_succ]
        refine wpAnyH_take (i := 10) (oi := { dst := some 27, op := Op.fieldAddr 26 (Operand.tmp 1) 0, type := 0, pos := "ref.go:105", after := #[], guard := none }) (v := ?_) rfl (by kernel_rfl) (by kernel_rfl) (by kernel_rfl) (fun _ _ _ h => h) (Or.inl ⟨by rfl, ?_⟩) (by assumption) ?_
        rotate_left
        · intro V9 hSw
          try dsimp only at hSw
          go_simp <;> with_reducible rfl
        try simp only [Act.put, List.setIfInBounds_toArray, List.set_cons_zero, List.set_cons_succ]
        refine wpAnyH_take (i := 11) (oi := { dst := some 28, op := Op.load 23 (Operand.tmp 27), type := 23, pos := "ref.go:105", after := #[{ on := 10, ground := Ground.data }], guard := none }) (v := ?_) rfl (by kernel_rfl) (by kernel_rfl) (by kernel_rfl) (fun _ _ _ h => h) (Or.inl ⟨by rfl, ?_⟩) (by assumption) ?_
        rotate_left
        · intro V9 hSw
          try dsimp only at hSw
          have f0 := (HX.out.2.below hSw).1 0 _ rfl
          go_simp <;> with_reducible rfl
        try simp only [Act.put, List.setIfInBounds_toArray, List.set_cons_zero, List.set_cons_succ]
        refine wpAnyH_take (i := 12) (oi := { dst := some 29, op := Op.move (Operand.tmp 4), type := 3, pos := "ref.go:105", after := #[], guard := none }) (v := ?_) rfl (by kernel_rfl) (by kernel_rfl) (by kernel_rfl) (fun _ _ _ h => h) (Or.inl ⟨by rfl, ?_⟩) (by assumption) ?_
        rotate_left
        · intro V9 hSw
          try dsimp only at hSw
          go_simp <;> with_reducible rfl
        try simp only [Act.put, List.setIfInBounds_toArray, List.set_cons_zero, List.set_cons_succ]
        refine wpAnyH_take (i := 13) (oi := { dst := some 30, op := Op.indexAddr 23 (Operand.tmp 28) (Operand.tmp 29), type := 0, pos := "ref.go:105", after := #[{ on := 11, ground := Ground.data }, { on := 12, ground := Ground.data }], guard := none }) (v := ?_) rfl (by kernel_rfl) (by kernel_rfl) (by kernel_rfl) (fun _ _ _ h => h) (Or.inl ⟨by rfl, ?_⟩) (by assumption) ?_
        rotate_left
        · intro V9 hSw
          try dsimp only at hSw
          go_simp <;> with_reducible rfl
        try simp only [Act.put, List.setIfInBounds_toArray, List.set_cons_zero, List.set_cons_succ]
        refine wpAnyH_take (i := 14) (oi := { dst := some 31, op := Op.fieldAddr 69 (Operand.tmp 30) 1, type := 0, pos := "ref.go:105", after := #[{ on := 13, ground := Ground.data }], guard := none }) (v := ?_) rfl (by kernel_rfl) (by kernel_rfl) (by kernel_rfl) (fun _ _ _ h => h) (Or.inl ⟨by rfl, ?_⟩) (by assumption) ?_
        rotate_left
        · intro V9 hSw
          try dsimp only at hSw
          go_simp <;> with_reducible rfl
        try simp only [Act.put, List.setIfInBounds_toArray, List.set_cons_zero, List.set_cons_succ]
        refine wpAnyH_take (i := 15) (oi := { dst := some 32, op := Op.load 3 (Operand.tmp 31), type := 3, pos := "ref.go:105", after := #[{ on := 14, ground := Ground.data }], guard := none }) (v := ?_) rfl (by kernel_rfl) (by kernel_rfl) (by kernel_rfl) (fun _ _ _ h => h) (Or.inl ⟨by rfl, ?_⟩) (by assumption) ?_
        rotate_left
        · intro V9 hSw
          try dsimp only at hSw
          have f1 := HP1.out V9 hSw
          go_simp <;> with_reducible rfl
        try simp only [Act.put, List.setIfInBounds_toArray, List.set_cons_zero, List.set_cons_succ]
        refine wpAnyH_take (i := 16) (oi := { dst := some 33, op := Op.convert 3 31 (Operand.tmp 32), type := 31, pos := "ref.go:105", after := #[{ on := 15, ground := Ground.data }], guard := none }) (v := ?_) rfl (by kernel_rfl) (by kernel_rfl) (by kernel_rfl) (fun _ _ _ h => h) (Or.inl ⟨by rfl, ?_⟩) (by assumption) ?_
        rotate_left
        · intro V9 hSw
          try dsimp only at hSw
          go_simp <;> with_reducible rfl
        try simp only [Act.put, List.setIfInBounds_toArray, List.set_cons_zero, List.set_cons_succ]
        refine wpAnyH_ready (rs := [17]) (by kernel_rfl) (by simp) ?_
        refine AllReadyH.cons (o := { dst := some 34, op := Op.call { callee := Callee.value (Operand.func 29), args := #[Operand.tmp 33, Operand.const (Value.int IntKind.u64 10)], argTypes := #[31, 31] }, type := 9, pos := "ref.go:105", after := #[{ on := 16, ground := Ground.data }], guard := none }) rfl (fun K hK => ?_) AllReadyH.nil
        go_simp
        refine (HD.out _).mono ?_
        rintro e w4 ⟨rfl, hbw4⟩
        have HB := Hd (onB' hHeld hbw4)
        clear hbw4
        go_wp2_with fail
        refine hK.out _ _ (HB.out) (fun hHeld => ?_)
        clear hK K
        try simp only [Act.put, List.setIfInBounds_toArray, List.set_cons_zero, List.set_cons_succ]
        refine wpAnyH_take (i := 18) (oi := { dst := some 35, op := Op.binOp BinOp.add 9 (Operand.tmp 26) (Operand.tmp 34) 9, type := 9, pos := "ref.go:105", after := #[{ on := 9, ground := Ground.data }, { on := 17, ground := Ground.data }], guard := none }) (v := ?_) rfl (by kernel_rfl) (by kernel_rfl) (by kernel_rfl) (fun _ _ _ h => h) (Or.inl ⟨by rfl, ?_⟩) (by assumption) ?_
        rotate_left
        · intro V9 hSw
          try dsimp only at hSw
          go_simp <;> with_reducible rfl
        try simp only [Act.put, List.setIfInBounds_toArray, List.set_cons_zero, List.set_cons_succ]
        refine wpAnyH_take (i := 19) (oi := { dst := some 3, op := Op.assign (Operand.tmp 35), type := 9, pos := "ref.go:105", after := #[{ on := 18, ground := Ground.data }, { on := 17, ground := Ground.chain }, { on := 0, ground := Ground.phase }, { on := 1, ground := Ground.phase }, { on := 2, ground := Ground.phase }, { on := 3, ground := Ground.phase }, { on := 4, ground := Ground.phase }, { on := 5, ground := Ground.phase }, { on := 6, ground := Ground.phase }, { on := 7, ground := Ground.phase }, { on := 8, ground := Ground.phase }, { on := 9, ground := Ground.phase }, { on := 10, ground := Ground.phase }, { on := 11, ground := Ground.phase }, { on := 12, ground := Ground.phase }, { on := 13, ground := Ground.phase }, { on := 14, ground := Ground.phase }, { on := 15, ground := Ground.phase }, { on := 16, ground := Ground.phase }, { on := 17, ground := Ground.phase }, { on := 18, ground := Ground.phase }], guard := none }) (v := ?_) rfl (by kernel_rfl) (by kernel_rfl) (by kernel_rfl) (fun _ _ _ h => h) (Or.inl ⟨by rfl, ?_⟩) (by assumption) ?_
        rotate_left
        · intro V9 hSw
          try dsimp only at hSw
          go_simp <;> with_reducible rfl
        try simp only [Act.put, List.setIfInBounds_toArray, List.set_cons_zero, List.set_cons_succ]
        refine wpAnyH_done (by kernel_rfl) ?_ _
        go_wp2_with fail
        exact ⟨⟨j + 1, by omega, by rw [HE.out], by go_num, HB.out⟩, by simp [RowKit.intOf]; omega⟩
      · obtain rfl : j = m.1.length := by omega
        have htk : (m.1.map declT).take m.1.length = m.1.map declT := by rw [← List.length_map (f := declT), List.take_length]
        rw [htk]
        have HE := Hd (show tx (dataL ++ blk (m.1.map declT)) ++ ⟨#[59, 10]⟩ = tx (headT m.1) by rw [HLA.out, show (⟨#[59, 10]⟩ : ByteArray) = tx [59, 10] from rfl, tx_app])
        have z1 : (tx (dataL ++ blk (m.1.map declT))).size ≤ 20000000000 := by have := HH.out; rw [HLA.out, List.length_append] at this; rw [tx_size]; omega
        have HR0 := HR
        clear htk
        generalize tx (dataL ++ blk (m.1.map declT)) = tj at *
        have hs1 : ¬ 9223372036854775807 < tj.size + 2 := by omega
        go_wp2_with fail
        rw [HE.out]
        clear hs1 z1 HE HR
        generalize wr = wq at HR0 d0 d1 ⊢
        go_loopw [3, 5] (fun s3 s5 wr => ∃ j : Nat, j ≤ m.2.length ∧ s3 = .string (tx (headT m.1 ++ linesT (m.2.take j))) ∧ s5 = .int .i64 j ∧ Below W.heap.size W wr) (fun _ s5 _ => m.2.length - (RowKit.intOf s5).toNat)
        case atStart => exact ⟨0, Nat.zero_le _, by rw [List.take_zero]; show _ = Value.string (tx (headT m.1 ++ [])); rw [List.append_nil], rfl, HR0.out⟩
        case round =>
          obtain ⟨j, hj, rfl, rfl, hbr⟩ := hrel
          have HR := Hd hbr
          clear hbr
          have d0 : wr.cell? ⟨w.heap.size, 0, none⟩ = some (.slice ad m.1.length cd) := (HX.out.2.below HR.out).1 0 _ rfl
          have d1 : wr.cell? ⟨w.heap.size, 1, none⟩ = some (.slice ab m.2.length cb) := (HX.out.2.below HR.out).1 1 _ rfl
          by_cases gj : j < m.2.length
          · have gj' : (j : Int) < (m.2.length : Int) := by omega
            obtain ⟨xb, hB, tB⟩ := HO.out.br
            obtain ⟨aq, cq, k, nm, f, u, ap, np, cp, ak, nk, ck, ab2, nb, cb2, aa, na, ca, hQ, hE, hc⟩ := tB.cells j gj
            obtain ⟨g1, o1, ea1, k1, m1', -, ht1⟩ := hB.at (by omega)
            subst ea1
            have HP := Hd (fun i v h => later' (onB' HX.out.1 HR.out) (ht1 _ _ (hc i v h)))
            have HA := Hd (ddbind_any m.2[j] (HT.out _ (List.getElem_mem gj)).1 (HT.out _ (List.getElem_mem gj)).2 aq cq K wr k nm f u ap np cp ak nk ck ab2 nb cb2 aa na ca (hQ.blw (onB' HX.out.1 HR.out)) (hE.blw (onB' HX.out.1 HR.out)))
            have hl1 := HL.out (j + 1)
            have hl0 := HL.out j
            rw [lines_step m.2 gj, List.length_append] at hl1
            unfold lineL at hl1
            rw [List.length_append] at hl1
            have hh := HH.out
            have z3 : (tx (headT m.1 ++ linesT (m.2.take j))).size ≤ 60000000000 := by rw [tx_size, List.length_append]; omega
            have z4 : (tx (bindT m.2[j])).size ≤ 20000000000 := by rw [tx_size]; omega
            have p0 : wr.cell? ⟨g1, o1 + j * 10, none⟩ = some (.string (tx m.2[j].1)) := HP.out 0 _ rfl
            have p1 : wr.cell? ⟨g1, o1 + j * 10 + 1, none⟩ = some (.slice aq m.2[j].2.1.length cq) := by rw [Nat.add_assoc]; exact HP.out 1 _ rfl
            have p2 : wr.cell? ⟨g1, o1 + j * 10 + 2, none⟩ = some (.int .i64 k) := by rw [Nat.add_assoc]; exact HP.out 2 _ rfl
            have p3 : wr.cell? ⟨g1, o1 + j * 10 + 3, none⟩ = some (.string (tx nm)) := by rw [Nat.add_assoc]; exact HP.out 3 _ rfl
            have p4 : wr.cell? ⟨g1, o1 + j * 10 + 4, none⟩ = some (.bool f) := by rw [Nat.add_assoc]; exact HP.out 4 _ rfl
            have p5 : wr.cell? ⟨g1, o1 + j * 10 + 5, none⟩ = some (.int .u64 u) := by rw [Nat.add_assoc]; exact HP.out 5 _ rfl
            have p6 : wr.cell? ⟨g1, o1 + j * 10 + 6, none⟩ = some (.slice ap np cp) := by rw [Nat.add_assoc]; exact HP.out 6 _ rfl
            have p7 : wr.cell? ⟨g1, o1 + j * 10 + 7, none⟩ = some (.slice ak nk ck) := by rw [Nat.add_assoc]; exact HP.out 7 _ rfl
            have p8 : wr.cell? ⟨g1, o1 + j * 10 + 8, none⟩ = some (.slice ab2 nb cb2) := by rw [Nat.add_assoc]; exact HP.out 8 _ rfl
            have p9 : wr.cell? ⟨g1, o1 + j * 10 + 9, none⟩ = some (.slice aa na ca) := by rw [Nat.add_assoc]; exact HP.out 9 _ rfl
            have HE := Hd (show tx (headT m.1 ++ linesT (m.2.take j)) ++ tx (bindT m.2[j]) ++ ⟨#[59, 10]⟩ = tx (headT m.1 ++ linesT (m.2.take (j + 1))) by rw [lines_step m.2 gj, show (⟨#[59, 10]⟩ : ByteArray) = tx [59, 10] from rfl, tx_app, tx_app]; unfold lineL; simp only [List.append_assoc])
            clear ht1 hl1 hl0 hc hE hQ hh hB tB
            generalize tx (headT m.1 ++ linesT (m.2.take j)) = tj at *
            generalize tx (bindT m.2[j]) = tl at *
            generalize tx m.2[j].1 = e0 at *
            generalize m.2[j].2.1.length = e1 at *
            have hs1 : ¬ 9223372036854775807 < tj.size + tl.size := by omega
            have hs2 : ¬ 9223372036854775807 < tj.size + tl.size + 2 := by omega
            have ej : IntKind.i64.wrap ((j : Int) + 1) = (j : Int) + 1 := by rw [IntKind.wrap_i64]; omega
            have b0 : (0 : Int) ≤ (j : Int) := by omega
            go_wp2_with fail
            refine HA.out.mono ?_
            rintro e w2 ⟨rfl, hb⟩
            have HB := Hd (onB' HR.out hb)
            clear hb HA
            go_wp2_with fail
            exact ⟨⟨j + 1, by omega, by rw [HE.out], by go_num, HB.out⟩, by simp [RowKit.intOf]; omega⟩
          · obtain rfl : j = m.2.length := by omega
            rw [List.take_length]
            go_wp2_with fail
            go_ret
            exact ⟨rfl, onB' HX.out.1 HR.out⟩
def Told2 (lo : Nat) (o : Out Md) (e : Ending) (w' : World) : Prop :=
  match o with
  | .ok md _ _ => ∃ ad cd ab cb, e = .returned (.tuple #[.agg #[.slice ad md.1.length cd, .slice ab md.2.length cb], .int .i64 0, .int .i64 0]) ∧ ModAt w' (fun g => lo ≤ g) md ad cd ab cb
  | .bad er ln => er ≠ 0 ∧ e = .returned (.tuple #[.agg #[.slice none 0 0, .slice none 0 0], .int .i64 er, .int .i64 ln])
theorem told2_any (s : ByteArray) (hs : s.size ≤ 100000) (w : World) : Calls Tryz.prog 13 #[.string s] w fun e w' => Told2 w.heap.size (modL s.data.toList) e w' ∧ Below w.heap.size w w' := by
  refine (dparse_any s hs w).mono fun e w' hh => ⟨?_, hh.1⟩
  have h := doc_shape hh.2
  cases ho : modL s.data.toList with
  | bad er ln => rw [ho] at h; exact h
  | ok md a b =>
    rw [ho] at h
    obtain ⟨vd, vb, B, cs, rfl, hB, h1, h2, h3⟩ := h
    obtain ⟨ad, cd, rfl, -⟩ := own_shape h1
    obtain ⟨ab, cb, rfl, -⟩ := own_shape h2
    exact ⟨ad, cd, ab, cb, rfl, RowAt.of h1 (fun _ h => Nt hB h), cs, RowAt.of h2 (fun _ h => Nt hB h), h3.move fun g hk _ => ⟨Nt hB hk.1, rfl⟩⟩
def Told9 (o : Out Md) (e : Ending) (w' : World) : Prop :=
  match o with
  | .ok md _ _ => ∃ ad cd ab cb, e = .returned (.tuple #[.agg #[.slice ad md.1.length cd, .slice ab md.2.length cb], .bool true]) ∧ ModAt w' (fun _ => True) md ad cd ab cb
  | .bad _ _ => e = .returned (.tuple #[.agg #[.slice none 0 0, .slice none 0 0], .bool false])
theorem below_set {w W : World} {i : Nat} {v : Value} (h : Below w.heap.size w W) : Below w.heap.size w (W.setCell ⟨w.heap.size, i, none⟩ v) := h.setCell (by simp) v
theorem told9_any (s : ByteArray) (hs : s.size ≤ 100000) (w : World) : Calls Tryz.prog 7 #[.string s] w fun e w' => Told9 (modL s.data.toList) e w' ∧ Below w.heap.size w w' := by
  have hx := (Below.refl w.heap.size w).alloc Nr (.cells #[.slice none 0 0, .slice none 0 0] 26)
  have HX := Hd (Ai hx (BoxW.alloc w #[.slice none 0 0, .slice none 0 0] 26))
  have HT := Hd (told2_any s hs (w.alloc (.cells #[.slice none 0 0, .slice none 0 0] 26)))
  have hz : (w.alloc (.cells #[.slice none 0 0, .slice none 0 0] 26)).heap.size = w.heap.size + 1 := by simp
  have HZ := Hd hz
  clear hx hz
  go_enter Tryz.func7, Tryz.ntmps7
  go_wp2_with fail
  refine HT.out.mono ?_
  rintro e w2 ⟨ht, hb⟩
  have HB := Hd (Ai (onB' HX.out.1 hb) (Ai (HX.out.2.below hb) hb.size))
  clear hb HT HX
  have c0 : w2.cell? ⟨w.heap.size, 0, none⟩ = some (.slice none 0 0) := HB.out.2.1.1 0 _ rfl
  have c1 : w2.cell? ⟨w.heap.size, 1, none⟩ = some (.slice none 0 0) := HB.out.2.1.1 1 _ rfl
  have f0 := HB.out.2.1.2 0
  have f1 := HB.out.2.1.2 1
  have lt : w.heap.size < w2.heap.size := by have := HB.out.2.2; have := HZ.out; omega
  have ne : ¬ w2.heap.size = w.heap.size := by omega
  cases ho : modL s.data.toList with
  | bad er ln =>
    rw [ho] at ht
    obtain ⟨he, rfl⟩ := ht
    have HX := Hd ((Below.refl w2.heap.size w2).alloc Nr (.cells #[.slice none 0 0, .slice none 0 0] 26))
    have he2 : (er == 0) = false := by simpa using he
    have HM := Hd ho
    clear ho
    go_wp2_with fail
    refine bodyPost_ret (v := .tuple #[.agg #[.slice none 0 0, .slice none 0 0], .bool false]) (by rw [results_cell_tmp rfl]; go_simp) rfl ?_
    rw [HM.out]
    exact ⟨rfl, (below_set (below_set HB.out.1)).alloc (below_set (below_set HB.out.1)).size _⟩
  | ok md a b =>
    rw [ho] at ht
    obtain ⟨ad, cd, ab, cb, rfl, hm⟩ := ht
    have hx := (Below.refl w2.heap.size w2).alloc Nr (.cells #[.slice ad md.1.length cd, .slice ab md.2.length cb] 26)
    have HX := Hd (Ai hx hm)
    have HM := Hd ho
    clear ho hx hm
    go_wp2_with fail
    refine bodyPost_ret (v := .tuple #[.agg #[.slice ad md.1.length cd, .slice ab md.2.length cb], .bool true]) (by rw [results_cell_tmp rfl]; go_simp) rfl ?_
    rw [HM.out]
    have hb9 := below_set (i := 1) (v := .slice ab md.2.length cb) (below_set (i := 0) (v := .slice ad md.1.length cd) HB.out.1)
    have hmv : ∀ g, (w.alloc (.cells #[.slice none 0 0, .slice none 0 0] 26)).heap.size ≤ g → g < w2.heap.size → True ∧ (((w2.setCell ⟨w.heap.size, 0, none⟩ (.slice ad md.1.length cd)).setCell ⟨w.heap.size, 1, none⟩ (.slice ab md.2.length cb)).alloc (.cells #[.slice ad md.1.length cd, .slice ab md.2.length cb] 26)).heap[g]? = w2.heap[g]? := fun g h1 h2 => by
      rw [HZ.out] at h1
      exact ⟨trivial, ((Br.alloc Nr (.cells #[.slice ad md.1.length cd, .slice ab md.2.length cb] 26)).block g (by simpa using h2)).trans ((heap_setCell_other _ _ _ _ (by show g ≠ w.heap.size; omega)).trans (heap_setCell_other _ _ _ _ (by show g ≠ w.heap.size; omega)))⟩
    obtain ⟨h1, cs, h2, h3⟩ := HX.out.2
    exact ⟨⟨ad, cd, ab, cb, rfl, h1.move hmv, cs, h2.move hmv, h3.move hmv⟩, hb9.alloc hb9.size _⟩
def ex9B : ByteArray := ⟨#[102, 32, 120, 61, 99, 97, 115, 101, 32, 120, 32, 111, 102, 123, 48, 45, 62, 40, 49, 41, 59, 121, 45, 62, 102, 40, 121, 45, 49, 41, 125, 59]⟩
def ex9M : Md := ([], [([102], [[120]], .mk 7 [] false 0 [] [.leaf 1 [120]] [] [(1, [], false, 0, [], .num false 1), (2, [121], false, 0, [], .mk 4 [] false 0 [] [.leaf 1 [102], .mk 5 [45] false 0 [] [.leaf 1 [121], .num false 1] [] []] [] [])])])
theorem ex9_mod : modL ex9B.data.toList = .ok ex9M 1 [] := by kernel_rfl
def ex9T : ByteArray := ⟨"f x = case x of {0 -> 1; y -> f (y - 1)};\n".toUTF8.data⟩
theorem smod_any (m : Md) (hs : ShOk m) (K : Nat → Prop) (ad : Option Addr) (cd : Nat) (ab : Option Addr) (cb : Nat) (w : World) (hp : PE w) (hm : ModAt w K m ad cd ab cb) :
    Calls Tryz.prog 10 #[.agg #[.slice ad m.1.length cd, .slice ab m.2.length cb]] w fun e w' => e = .returned (.string (tx (modT m))) ∧ Below w.heap.size w w' := by
  obtain ⟨h1, xb, h2, h3⟩ := hm
  have hx := hs.wx
  have hsum : ∀ (l : List (Nm × Int)), (∀ d, d ∈ l → (declT d).length ≤ 200000) → sumN (fun x : List UInt8 => x.length + 1) (l.map declT) ≤ 200001 * l.length := by
    intro l
    induction l with
    | nil => intro _; exact Nat.le_refl _
    | cons d r ih =>
      intro h
      have h4 := ih fun x hx => h x (List.mem_cons_of_mem _ hx)
      have h5 := h d (List.mem_cons_self ..)
      show ((declT d).length + 1) + sumN (fun x : List UInt8 => x.length + 1) (r.map declT) ≤ _
      simp only [List.length_cons]
      omega
  have h4 := hsum m.1 fun d hd => (hs.ar d hd).2
  exact smodule_any m hs.kb hs.wb (by omega) (fun d hd => ⟨(hs.ar d hd).1, Nt (hs.ar d hd).2 (by omega)⟩) (by omega) (by rw [words_len]; show 4 + _ ≤ _; omega) K ad cd ab cb xb w hp h1 h2 h3
theorem ex9_sh : ShOk ex9M := modL_sh (l := ex9B.data.toList) (by decide) ex9_mod
theorem ex9_text : tx (modT ex9M) = ⟨#[102, 32, 120, 32, 61, 32, 99, 97, 115, 101, 32, 120, 32, 111, 102, 32, 123, 48, 32, 45, 62, 32, 49, 59, 32, 121, 32, 45, 62, 32, 102, 32, 40, 121, 32, 45, 32, 49, 41, 125, 59, 10]⟩ := by kernel_rfl
theorem awake9_any (w : World) (hp : PE w) : Calls Tryz.prog 6 #[] w fun e w' => e = .returned (.bool true) ∧ Below w.heap.size w w' := by
  have HT := Hd (told9_any ex9B (by decide) w)
  have HP := Hd hp
  clear hp
  unfold ex9B at HT
  go_enter Tryz.func6, Tryz.ntmps6
  go_wp2_with fail
  refine HT.out.mono ?_
  rintro e w2 ⟨ht, hb⟩
  rw [show modL (⟨#[102, 32, 120, 61, 99, 97, 115, 101, 32, 120, 32, 111, 102, 123, 48, 45, 62, 40, 49, 41, 59, 121, 45, 62, 102, 40, 121, 45, 49, 41, 125, 59]⟩ : ByteArray).data.toList = .ok ex9M 1 [] from ex9_mod] at ht
  obtain ⟨ad, cd, ab, cb, rfl, hm⟩ := ht
  have hx := (Below.refl w2.heap.size w2).alloc Nr (.cells #[.slice ad ex9M.1.length cd, .slice ab ex9M.2.length cb] 26)
  have HM := Hd (smod_any ex9M ex9_sh _ ad cd ab cb _ ((HP.out.below hb).below hx) (hm.below hx))
  rw [ex9_text] at HM
  have HB := Hd (onB' hb hx)
  clear hx hm hb HT
  generalize ex9M.1.length = l1 at *
  generalize ex9M.2.length = l2 at *
  go_wp2_with fail
  refine HM.out.mono ?_
  rintro e w3 ⟨rfl, hb⟩
  have HB3 := Hd (onB' HB.out hb)
  clear hb HM
  go_wp2_with fail
  go_ret
  exact ⟨rfl, HB3.out⟩
theorem headT_len {m : Md} (hs : ShOk m) : (headT m.1).length ≤ 20000000000 := by
  have hx := hs.wx
  have hsum : ∀ (l : List (Nm × Int)), (∀ d, d ∈ l → (declT d).length ≤ 200000) → sumN (fun x : List UInt8 => x.length + 1) (l.map declT) ≤ 200001 * l.length := by
    intro l
    induction l with
    | nil => intro _; exact Nat.le_refl _
    | cons d r ih =>
      intro h
      have h4 := ih fun x hx => h x (List.mem_cons_of_mem _ hx)
      have h5 := h d (List.mem_cons_self ..)
      show ((declT d).length + 1) + sumN (fun x : List UInt8 => x.length + 1) (r.map declT) ≤ _
      simp only [List.length_cons]
      omega
  have h4 := hsum m.1 fun d hd => (hs.ar d hd).2
  unfold headT
  split
  · exact Nat.zero_le _
  · unfold lineL
    rw [List.length_append, words_len]
    show 4 + _ + 2 ≤ _
    omega
theorem shtells_walk (s : ByteArray) (w : World) (hp : PE w) : Calls Tryz.prog 3 #[.string s] w fun e w' => e = .returned (.bool true) ∧ Below w.heap.size w w' := by
  have HA := Hd (awake9_any w hp)
  have HP := Hd hp
  clear hp
  by_cases h : s.size ≤ 5000
  · have h' : ¬ (5000 : Int) < (s.size : Int) := by omega
    have HT := Hd (fun V => told9_any s (by omega) V)
    have HM : Hid (∀ md a b, modL s.data.toList = .ok md a b → ShOk md ∧ ∀ d, d ∈ md.1 → ∃ x : Nat, d.2 = (x : Int) ∧ x < 9223372036854775808) := fun md a b hm => ⟨modL_sh (by rw [← Go.Lib.size_eq]; omega) hm, fun d hd => by
      have h1 := modL_ar hm d hd
      have h2 : 0 ≤ d.2 ∧ d.2 ≤ 24 := h1
      exact ⟨d.2.toNat, by omega, by omega⟩⟩
    clear h
    go_enter Tryz.func3, Tryz.ntmps3
    go_wp2_with fail
    refine HA.out.mono ?_
    rintro e w2 ⟨rfl, hb2⟩
    have H2 := Hd hb2
    have HTw := Hd (HT.out w2)
    clear hb2 HA HT
    go_wp2_with fail
    refine HTw.out.mono ?_
    rintro e w3 ⟨ht, hb3⟩
    have HB := Hd (onB' H2.out hb3)
    clear hb3 HTw
    cases ho : modL s.data.toList with
    | bad er ln =>
      rw [ho] at ht
      have he : e = _ := ht
      subst he
      have HX := Hd (onB' HB.out ((Below.refl w3.heap.size w3).alloc Nr (.cells #[.slice none 0 0, .slice none 0 0] 26)))
      clear ho HM ht
      go_wp2_with fail
      go_ret
      exact ⟨rfl, HX.out⟩
    | ok m a b =>
      rw [ho] at ht
      obtain ⟨hsh, har⟩ := HM.out m a b ho
      obtain ⟨ad, cd, ab, cb, rfl, hm⟩ := ht
      have hx := (Below.refl w3.heap.size w3).alloc Nr (.cells #[.slice ad m.1.length cd, .slice ab m.2.length cb] 26)
      have HX := Hd (Ai hx (BoxW.alloc w3 #[.slice ad m.1.length cd, .slice ab m.2.length cb] 26))
      have HO := Hd (Ai (hm.below hx) (Ai hsh (Ai har ((HP.out.below HB.out).below hx))))
      have hcapB := (hm.br.choose_spec.1).cap
      unfold maxLen at hcapB
      have c0 : (w3.alloc (.cells #[.slice ad m.1.length cd, .slice ab m.2.length cb] 26)).cell? ⟨w3.heap.size, 0, none⟩ = some (.slice ad m.1.length cd) := HX.out.2.1 0 _ rfl
      have c1 : (w3.alloc (.cells #[.slice ad m.1.length cd, .slice ab m.2.length cb] 26)).cell? ⟨w3.heap.size, 1, none⟩ = some (.slice ab m.2.length cb) := HX.out.2.1 1 _ rfl
      clear ho HM hx hm hsh har
      go_upto_region 8 with fail
      generalize (w3.alloc (.cells #[.slice ad m.1.length cd, .slice ab m.2.length cb] 26)) = W at *
      go_wp2_with fail
      clear c0 c1
      go_loopw [5] (fun s5 wr => ∃ j : Nat, j ≤ m.2.length ∧ s5 = .int .i64 j ∧ Below W.heap.size W wr) (fun s5 _ => m.2.length - (RowKit.intOf s5).toNat)
      case atStart => exact ⟨0, Nat.zero_le _, rfl, Below.refl _ _⟩
      case round =>
        obtain ⟨j, hj, rfl, hbr⟩ := hrel
        have HR := Hd hbr
        have d1 : wr.cell? ⟨w3.heap.size, 1, none⟩ = some (.slice ab m.2.length cb) := (HX.out.2.below hbr).1 1 _ rfl
        clear hbr
        by_cases gj : j < m.2.length
        · have gj' : (j : Int) < (m.2.length : Int) := by omega
          obtain ⟨xb, hBr, tBr⟩ := HO.out.1.br
          obtain ⟨aq, cq, k, nm, f, u, ap, np, cp, ak, nk, ck, ab2, nb, cb2, aa, na, ca, hQ, hE, hc⟩ := tBr.cells j gj
          obtain ⟨g1, o1, ea1, k1, m1', -, ht1⟩ := hBr.at (by omega)
          subst ea1
          have hw2 : 2 + m.2[j].2.1.length + wxE m.2[j].2.2 ≤ sumN xB2 m.2 := sumN_mem xB2 (List.getElem_mem gj)
          have hwx := HO.out.2.1.wx
          have hk := kfBs_mem HO.out.2.1.kb _ (List.getElem_mem gj)
          have hw := wfBs_mem HO.out.2.1.wb _ (List.getElem_mem gj)
          have HA := Hd (fun (V : World) (hV : Below W.heap.size W V) => sexpr_any m.2[j].2.2 hk hw.2.2 (by omega) (fun _ => True) V k nm f u ap np cp ak nk ck ab2 nb cb2 aa na ca (HO.out.2.2.2.below hV) (hE.blw hV))
          have HD := Hd (fun (V : World) (hV : Below W.heap.size W V) => dtext_all (SizeOf.sizeOf m.2[j].2.2) m.2[j].2.2 Nr hk hw.2.2 (by omega) (fun _ => True) V k nm f u ap np cp ak nk ck ab2 nb cb2 aa na ca (hE.blw hV))
          have HSx : Hid (∀ V, Below W.heap.size W V → V.cell? ⟨g1, o1 + j * 10 + 2, none⟩ = some (.int .i64 k) ∧ V.cell? ⟨g1, o1 + j * 10 + 3, none⟩ = some (.string (tx nm)) ∧ V.cell? ⟨g1, o1 + j * 10 + 4, none⟩ = some (.bool f) ∧ V.cell? ⟨g1, o1 + j * 10 + 5, none⟩ = some (.int .u64 u) ∧ V.cell? ⟨g1, o1 + j * 10 + 6, none⟩ = some (.slice ap np cp) ∧ V.cell? ⟨g1, o1 + j * 10 + 7, none⟩ = some (.slice ak nk ck) ∧ V.cell? ⟨g1, o1 + j * 10 + 8, none⟩ = some (.slice ab2 nb cb2) ∧ V.cell? ⟨g1, o1 + j * 10 + 9, none⟩ = some (.slice aa na ca)) := fun V hb => ⟨by have := later' hb (ht1 _ _ (hc 2 _ rfl)); rwa [← Nat.add_assoc] at this, by have := later' hb (ht1 _ _ (hc 3 _ rfl)); rwa [← Nat.add_assoc] at this, by have := later' hb (ht1 _ _ (hc 4 _ rfl)); rwa [← Nat.add_assoc] at this, by have := later' hb (ht1 _ _ (hc 5 _ rfl)); rwa [← Nat.add_assoc] at this, by have := later' hb (ht1 _ _ (hc 6 _ rfl)); rwa [← Nat.add_assoc] at this, by have := later' hb (ht1 _ _ (hc 7 _ rfl)); rwa [← Nat.add_assoc] at this, by have := later' hb (ht1 _ _ (hc 8 _ rfl)); rwa [← Nat.add_assoc] at this, by have := later' hb (ht1 _ _ (hc 9 _ rfl)); rwa [← Nat.add_assoc] at this⟩
          clear hE hQ hc ht1 hw2 hwx hk hw hBr tBr
          generalize tx (shE m.2[j].2.2) = T at *
          have ej : IntKind.i64.wrap ((j : Int) + 1) = (j : Int) + 1 := by rw [IntKind.wrap_i64]; omega
          have b0 : (0 : Int) ≤ (j : Int) := by omega
          go_upto_region 11 with fail
          refine wp_region_held_drew (S := fun V => Below W.heap.size W V) (by kernel_rfl) (HR.out.drew) (fun hHeld => ?_)
          refine wpAnyH_take (i := 0) (oi := { dst := some 25, op := Op.fieldAddr 26 (Operand.tmp 3) 1, type := 0, pos := "law.go:37", after := #[], guard := none }) (v := ?_) rfl (by kernel_rfl) (by kernel_rfl) (by kernel_rfl) (fun _ _ _ h => h) (Or.inl ⟨by rfl, ?_⟩) (by assumption) ?_
          rotate_left
          · intro V9 hSw
            try dsimp only at hSw
            go_simp <;> with_reducible rfl
          try simp only [Act.put, List.setIfInBounds_toArray, List.set_cons_zero, List.set_cons_succ]
          refine wpAnyH_take (i := 1) (oi := { dst := some 26, op := Op.load 24 (Operand.tmp 25), type := 24, pos := "law.go:37", after := #[{ on := 0, ground := Ground.data }], guard := none }) (v := ?_) rfl (by kernel_rfl) (by kernel_rfl) (by kernel_rfl) (fun _ _ _ h => h) (Or.inl ⟨by rfl, ?_⟩) (by assumption) ?_
          rotate_left
          · intro V9 hSw
            try dsimp only at hSw
            have f1 := (HX.out.2.below hSw).1 1 _ rfl
            go_simp <;> with_reducible rfl
          try simp only [Act.put, List.setIfInBounds_toArray, List.set_cons_zero, List.set_cons_succ]
          refine wpAnyH_take (i := 2) (oi := { dst := some 27, op := Op.move (Operand.tmp 5), type := 3, pos := "law.go:37", after := #[], guard := none }) (v := ?_) rfl (by kernel_rfl) (by kernel_rfl) (by kernel_rfl) (fun _ _ _ h => h) (Or.inl ⟨by rfl, ?_⟩) (by assumption) ?_
          rotate_left
          · intro V9 hSw
            try dsimp only at hSw
            go_simp <;> with_reducible rfl
          try simp only [Act.put, List.setIfInBounds_toArray, List.set_cons_zero, List.set_cons_succ]
          refine wpAnyH_take (i := 3) (oi := { dst := some 28, op := Op.indexAddr 24 (Operand.tmp 26) (Operand.tmp 27), type := 0, pos := "law.go:37", after := #[{ on := 1, ground := Ground.data }, { on := 2, ground := Ground.data }], guard := none }) (v := ?_) rfl (by kernel_rfl) (by kernel_rfl) (by kernel_rfl) (fun _ _ _ h => h) (Or.inl ⟨by rfl, ?_⟩) (by assumption) ?_
          rotate_left
          · intro V9 hSw
            try dsimp only at hSw
            go_simp <;> with_reducible rfl
          try simp only [Act.put, List.setIfInBounds_toArray, List.set_cons_zero, List.set_cons_succ]
          refine wpAnyH_take (i := 4) (oi := { dst := some 29, op := Op.fieldAddr 39 (Operand.tmp 28) 2, type := 0, pos := "law.go:37", after := #[{ on := 3, ground := Ground.data }], guard := none }) (v := ?_) rfl (by kernel_rfl) (by kernel_rfl) (by kernel_rfl) (fun _ _ _ h => h) (Or.inl ⟨by rfl, ?_⟩) (by assumption) ?_
          rotate_left
          · intro V9 hSw
            try dsimp only at hSw
            go_simp <;> with_reducible rfl
          try simp only [Act.put, List.setIfInBounds_toArray, List.set_cons_zero, List.set_cons_succ]
          refine wpAnyH_take (i := 5) (oi := { dst := some 30, op := Op.load 37 (Operand.tmp 29), type := 37, pos := "law.go:37", after := #[{ on := 4, ground := Ground.data }], guard := none }) (v := ?_) rfl (by kernel_rfl) (by kernel_rfl) (by kernel_rfl) (fun _ _ _ h => h) (Or.inl ⟨by rfl, ?_⟩) (by assumption) ?_
          rotate_left
          · intro V9 hSw
            try dsimp only at hSw
            obtain ⟨p0, p1, p2, p3, p4, p5, p6, p7⟩ := HSx.out _ hSw
            go_simp <;> with_reducible rfl
          try simp only [Act.put, List.setIfInBounds_toArray, List.set_cons_zero, List.set_cons_succ]
          refine wpAnyH_take (i := 7) (oi := { dst := some 32, op := Op.fieldAddr 26 (Operand.tmp 3) 1, type := 0, pos := "law.go:37", after := #[], guard := none }) (v := ?_) rfl (by kernel_rfl) (by kernel_rfl) (by kernel_rfl) (fun _ _ _ h => h) (Or.inl ⟨by rfl, ?_⟩) (by assumption) ?_
          rotate_left
          · intro V9 hSw
            try dsimp only at hSw
            go_simp <;> with_reducible rfl
          try simp only [Act.put, List.setIfInBounds_toArray, List.set_cons_zero, List.set_cons_succ]
          refine wpAnyH_take (i := 8) (oi := { dst := some 33, op := Op.load 24 (Operand.tmp 32), type := 24, pos := "law.go:37", after := #[{ on := 7, ground := Ground.data }], guard := none }) (v := ?_) rfl (by kernel_rfl) (by kernel_rfl) (by kernel_rfl) (fun _ _ _ h => h) (Or.inl ⟨by rfl, ?_⟩) (by assumption) ?_
          rotate_left
          · intro V9 hSw
            try dsimp only at hSw
            have f1 := (HX.out.2.below hSw).1 1 _ rfl
            go_simp <;> with_reducible rfl
          try simp only [Act.put, List.setIfInBounds_toArray, List.set_cons_zero, List.set_cons_succ]
          refine wpAnyH_take (i := 9) (oi := { dst := some 34, op := Op.move (Operand.tmp 5), type := 3, pos := "law.go:37", after := #[], guard := none }) (v := ?_) rfl (by kernel_rfl) (by kernel_rfl) (by kernel_rfl) (fun _ _ _ h => h) (Or.inl ⟨by rfl, ?_⟩) (by assumption) ?_
          rotate_left
          · intro V9 hSw
            try dsimp only at hSw
            go_simp <;> with_reducible rfl
          try simp only [Act.put, List.setIfInBounds_toArray, List.set_cons_zero, List.set_cons_succ]
          refine wpAnyH_take (i := 10) (oi := { dst := some 35, op := Op.indexAddr 24 (Operand.tmp 33) (Operand.tmp 34), type := 0, pos := "law.go:37", after := #[{ on := 8, ground := Ground.data }, { on := 9, ground := Ground.data }], guard := none }) (v := ?_) rfl (by kernel_rfl) (by kernel_rfl) (by kernel_rfl) (fun _ _ _ h => h) (Or.inl ⟨by rfl, ?_⟩) (by assumption) ?_
          rotate_left
          · intro V9 hSw
            try dsimp only at hSw
            go_simp <;> with_reducible rfl
          try simp only [Act.put, List.setIfInBounds_toArray, List.set_cons_zero, List.set_cons_succ]
          refine wpAnyH_take (i := 11) (oi := { dst := some 36, op := Op.fieldAddr 39 (Operand.tmp 35) 2, type := 0, pos := "law.go:37", after := #[{ on := 10, ground := Ground.data }], guard := none }) (v := ?_) rfl (by kernel_rfl) (by kernel_rfl) (by kernel_rfl) (fun _ _ _ h => h) (Or.inl ⟨by rfl, ?_⟩) (by assumption) ?_
          rotate_left
          · intro V9 hSw
            try dsimp only at hSw
            go_simp <;> with_reducible rfl
          try simp only [Act.put, List.setIfInBounds_toArray, List.set_cons_zero, List.set_cons_succ]
          refine wpAnyH_take (i := 12) (oi := { dst := some 37, op := Op.load 37 (Operand.tmp 36), type := 37, pos := "law.go:37", after := #[{ on := 11, ground := Ground.data }], guard := none }) (v := ?_) rfl (by kernel_rfl) (by kernel_rfl) (by kernel_rfl) (fun _ _ _ h => h) (Or.inl ⟨by rfl, ?_⟩) (by assumption) ?_
          rotate_left
          · intro V9 hSw
            try dsimp only at hSw
            obtain ⟨p0, p1, p2, p3, p4, p5, p6, p7⟩ := HSx.out _ hSw
            go_simp <;> with_reducible rfl
          try simp only [Act.put, List.setIfInBounds_toArray, List.set_cons_zero, List.set_cons_succ]
          refine wpAnyH_ready (rs := [6]) (by kernel_rfl) (by simp) ?_
          refine AllReadyH.cons (o := { dst := some 31, op := Op.call { callee := Callee.value (Operand.func 8), args := #[Operand.tmp 30], argTypes := #[37] }, type := 9, pos := "law.go:37", after := #[{ on := 5, ground := Ground.data }], guard := none }) rfl (fun K hK => ?_) AllReadyH.nil
          go_simp
          refine (HA.out _ hHeld).mono ?_
          rintro e w4 ⟨rfl, hbw4⟩
          have HB4 := Hd (onB' hHeld hbw4)
          clear hbw4
          go_wp2_with fail
          refine hK.out _ _ (HB4.out) (fun hHeld => ?_)
          clear hK K
          try simp only [Act.put, List.setIfInBounds_toArray, List.set_cons_zero, List.set_cons_succ]
          refine wpAnyH_ready (rs := [13]) (by kernel_rfl) (by simp) ?_
          refine AllReadyH.cons (o := { dst := some 38, op := Op.call { callee := Callee.value (Operand.func 9), args := #[Operand.tmp 37], argTypes := #[37] }, type := 9, pos := "law.go:37", after := #[{ on := 12, ground := Ground.data }, { on := 6, ground := Ground.chain }], guard := none }) rfl (fun K hK => ?_) AllReadyH.nil
          go_simp
          refine (HD.out _ HB4.out).mono ?_
          rintro e w5 ⟨rfl, hbw5⟩
          have HB5 := Hd (onB' HB4.out hbw5)
          clear hbw5
          go_wp2_with fail
          refine hK.out _ _ (HB5.out) (fun hHeld => ?_)
          clear hK K
          try simp only [Act.put, List.setIfInBounds_toArray, List.set_cons_zero, List.set_cons_succ]
          refine wpAnyH_take (i := 14) (oi := { dst := some 39, op := Op.binOp BinOp.neq 9 (Operand.tmp 31) (Operand.tmp 38) 9, type := 4, pos := "law.go:37", after := #[{ on := 6, ground := Ground.data }, { on := 13, ground := Ground.data }], guard := none }) (v := ?_) rfl (by kernel_rfl) (by kernel_rfl) (by kernel_rfl) (fun _ _ _ h => h) (Or.inl ⟨by rfl, ?_⟩) (by assumption) ?_
          rotate_left
          · intro V9 hSw
            try dsimp only at hSw
            go_simp <;> with_reducible rfl
          try simp only [Act.put, List.setIfInBounds_toArray, List.set_cons_zero, List.set_cons_succ]
          refine wpAnyH_done (by kernel_rfl) ?_ _
          go_wp2_with fail
          exact ⟨⟨j + 1, by omega, by go_num, HB5.out⟩, by simp [RowKit.intOf]; omega⟩
        · obtain rfl : j = m.2.length := by omega
          have HMa := Hd (fun (V : World) (hV : Below W.heap.size W V) => smod_any m HO.out.2.1 (fun _ => True) ad cd ab cb V (HO.out.2.2.2.below hV) (HO.out.1.below hV))
          have HMd := Hd (fun (V : World) (hV : Below W.heap.size W V) => dmodule_any m HO.out.2.1.kb HO.out.2.1.wb (by have := HO.out.2.1.wx; omega) HO.out.2.2.1 (headT_len HO.out.2.1) (fun _ => True) ad cd ab cb V (HO.out.1.below hV))
          generalize tx (modT m) = T at *
          go_upto_region 13 with fail
          refine wp_region_held_drew (S := fun V => Below W.heap.size W V) (by kernel_rfl) (HR.out.drew) (fun hHeld => ?_)
          refine wpAnyH_take (i := 0) (oi := { dst := some 40, op := Op.load 26 (Operand.tmp 3), type := 26, pos := "law.go:41", after := #[], guard := none }) (v := ?_) rfl (by kernel_rfl) (by kernel_rfl) (by kernel_rfl) (fun _ _ _ h => h) (Or.inl ⟨by rfl, ?_⟩) (by assumption) ?_
          rotate_left
          · intro V9 hSw
            try dsimp only at hSw
            have f0 := (HX.out.2.below hSw).1 0 _ rfl
            have f1 := (HX.out.2.below hSw).1 1 _ rfl
            go_simp <;> with_reducible rfl
          try simp only [Act.put, List.setIfInBounds_toArray, List.set_cons_zero, List.set_cons_succ]
          refine wpAnyH_take (i := 2) (oi := { dst := some 42, op := Op.load 26 (Operand.tmp 3), type := 26, pos := "law.go:41", after := #[], guard := none }) (v := ?_) rfl (by kernel_rfl) (by kernel_rfl) (by kernel_rfl) (fun _ _ _ h => h) (Or.inl ⟨by rfl, ?_⟩) (by assumption) ?_
          rotate_left
          · intro V9 hSw
            try dsimp only at hSw
            have f0 := (HX.out.2.below hSw).1 0 _ rfl
            have f1 := (HX.out.2.below hSw).1 1 _ rfl
            go_simp <;> with_reducible rfl
          try simp only [Act.put, List.setIfInBounds_toArray, List.set_cons_zero, List.set_cons_succ]
          refine wpAnyH_ready (rs := [1]) (by kernel_rfl) (by simp) ?_
          refine AllReadyH.cons (o := { dst := some 41, op := Op.call { callee := Callee.value (Operand.func 10), args := #[Operand.tmp 40], argTypes := #[26] }, type := 9, pos := "law.go:41", after := #[{ on := 0, ground := Ground.data }], guard := none }) rfl (fun K hK => ?_) AllReadyH.nil
          go_simp
          refine (HMa.out _ hHeld).mono ?_
          rintro e w4 ⟨rfl, hbw4⟩
          have HB4 := Hd (onB' hHeld hbw4)
          clear hbw4
          go_wp2_with fail
          refine hK.out _ _ (HB4.out) (fun hHeld => ?_)
          clear hK K
          try simp only [Act.put, List.setIfInBounds_toArray, List.set_cons_zero, List.set_cons_succ]
          refine wpAnyH_ready (rs := [3]) (by kernel_rfl) (by simp) ?_
          refine AllReadyH.cons (o := { dst := some 43, op := Op.call { callee := Callee.value (Operand.func 11), args := #[Operand.tmp 42], argTypes := #[26] }, type := 9, pos := "law.go:41", after := #[{ on := 2, ground := Ground.data }, { on := 1, ground := Ground.chain }], guard := none }) rfl (fun K hK => ?_) AllReadyH.nil
          go_simp
          refine (HMd.out _ HB4.out).mono ?_
          rintro e w5 ⟨rfl, hbw5⟩
          have HB5 := Hd (onB' HB4.out hbw5)
          clear hbw5
          go_wp2_with fail
          refine hK.out _ _ (HB5.out) (fun hHeld => ?_)
          clear hK K
          try simp only [Act.put, List.setIfInBounds_toArray, List.set_cons_zero, List.set_cons_succ]
          refine wpAnyH_take (i := 4) (oi := { dst := some 44, op := Op.binOp BinOp.eql 9 (Operand.tmp 41) (Operand.tmp 43) 9, type := 4, pos := "law.go:41", after := #[{ on := 1, ground := Ground.data }, { on := 3, ground := Ground.data }], guard := none }) (v := ?_) rfl (by kernel_rfl) (by kernel_rfl) (by kernel_rfl) (fun _ _ _ h => h) (Or.inl ⟨by rfl, ?_⟩) (by assumption) ?_
          rotate_left
          · intro V9 hSw
            try dsimp only at hSw
            go_simp <;> with_reducible rfl
          try simp only [Act.put, List.setIfInBounds_toArray, List.set_cons_zero, List.set_cons_succ]
          refine wpAnyH_take (i := 5) (oi := { dst := some 2, op := Op.assign (Operand.tmp 44), type := 4, pos := "law.go:41", after := #[{ on := 4, ground := Ground.data }, { on := 3, ground := Ground.chain }, { on := 0, ground := Ground.phase }, { on := 1, ground := Ground.phase }, { on := 2, ground := Ground.phase }, { on := 3, ground := Ground.phase }, { on := 4, ground := Ground.phase }], guard := none }) (v := ?_) rfl (by kernel_rfl) (by kernel_rfl) (by kernel_rfl) (fun _ _ _ h => h) (Or.inl ⟨by rfl, ?_⟩) (by assumption) ?_
          rotate_left
          · intro V9 hSw
            try dsimp only at hSw
            go_simp <;> with_reducible rfl
          try simp only [Act.put, List.setIfInBounds_toArray, List.set_cons_zero, List.set_cons_succ]
          refine wpAnyH_done (by kernel_rfl) ?_ _
          go_wp2_with fail
          go_ret
          exact ⟨rfl, onB' HB.out (onB' HX.out.1 HB5.out)⟩
  · have h' : (5000 : Int) < (s.size : Int) := by omega
    go_enter Tryz.func3, Tryz.ntmps3
    go_wp2_with fail
    refine HA.out.mono ?_
    rintro e w2 ⟨rfl, hb2⟩
    have H2 := Hd hb2
    clear hb2 HA
    go_wp2_with fail
    go_ret
    exact ⟨rfl, H2.out⟩
end Go.Proofs.YthehgcmhcioffaaGreatDoor
namespace Go.Proofs.YthehgcmhcioffaaGreatDoor
open Go.ChangeShapes Go.WideShapes Go.ChangeAt Go.RowKit
theorem own : ownKnob Tryz.prog.godebug = none := by kernel_rfl
def tab64 : List Int := [0, 1, 56, 2, 57, 49, 28, 3, 61, 58, 42, 50, 38, 29, 17, 4, 62, 47, 59, 36, 45, 43, 51, 22, 53, 39, 33, 30, 24, 18, 12, 5, 63, 55, 48, 27, 60, 41, 37, 16, 46, 35, 44, 21, 52, 32, 23, 11, 54, 26, 40, 15, 34, 20, 31, 10, 25, 14, 19, 9, 13, 8, 7, 6]
theorem pe_of_laid {W : World} (h0 : laidMetH Tryz.prog Rows.showPartsRow.laid W) : PE W := by
  have h' : laidMet Tryz.prog Rows.showPartsRow.laid W := by
    have h := h0
    rw [MakeChecks.laidMetH_plain _ _ _ (by kernel_rfl)] at h
    exact h
  have h2 := laidMet.tail h'
  have h3 := laidMet.tail h2
  have g1 : Tryz.prog.globalNamed "internal/strconv.uint64pow10" = some 20 := by kernel_rfl
  have g6 : Tryz.prog.globalNamed "math/bits.deBruijn64tab" = some 22 := by kernel_rfl
  have t1 : Lib.TabIs Tryz.prog W "internal/strconv.uint64pow10" .u64 Lib.pow10Tab :=
    Lib.tabIs_of_head g1 (show (Tryz.prog.globals[20]?).map (·.type) = some 178 by kernel_rfl) Tryz.underlying178 Tryz.underlying31 (by kernel_rfl) (by kernel_rfl) h3
  have t6 : Lib.TabIs Tryz.prog W "math/bits.deBruijn64tab" .u8 tab64 :=
    Lib.tabIs_of_head g6 (show (Tryz.prog.globals[22]?).map (·.type) = some 203 by kernel_rfl) Tryz.underlying203 Tryz.underlying5 (by kernel_rfl) (by kernel_rfl) h2
  exact ⟨t1, t6.cell g6 15 (by decide)⟩
end Go.Proofs.YthehgcmhcioffaaGreatDoor
