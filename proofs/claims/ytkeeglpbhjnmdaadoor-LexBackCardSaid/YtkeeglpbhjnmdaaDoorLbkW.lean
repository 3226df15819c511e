/- LexBack: its walk. -/
import Derived.Test.YtkeeglpbhjnmdaaDoorLinV
import Derived.Test.YtkeeglpbhjnmdaaDoorLxR
namespace Go.Proofs.YtkeeglpbhjnmdaaDoor
open Go.RowKit Go.Lib

theorem bytes_app (A B : List (Tk × Int)) : bytesT (A ++ B) = bytesT A + bytesT B := by simp [bytesT]

set_option maxHeartbeats 16000000 in
set_option maxRecDepth 100000 in
theorem back_walk (s : ByteArray) (w : World) (hS : SG w) (hE : EE w) :
    Calls Tryd.prog 4 #[.string s] w fun e w' => e = .returned (.bool true) ∧ Below w.heap.size w w' := by
  have HSE := Lib.hid (And.intro hS hE)
  clear hS hE
  go_enter Tryd.func4, Tryd.ntmps4
  go_wp2_with fail
  refine (lawake_any w HSE.out.1 HSE.out.2).mono ?_
  rintro e w1 ⟨rfl, hb⟩
  have H1 := Lib.hid (And.intro hb (And.intro (HSE.out.1.below hb) (HSE.out.2.below hb)))
  clear hb HSE
  by_cases g3 : 5000 < s.size
  · have f3 : decide ((5000 : Int) < (s.size : Int)) = true := decide_eq_true (by omega)
    go_wp2_with fail
    go_ret
    exact ⟨rfl, H1.out.1⟩
  have f3 : decide ((5000 : Int) < (s.size : Int)) = false := decide_eq_false (by omega)
  have HL1 := Lib.hid (lex_any s (by omega) w1 H1.out.2.1 H1.out.2.2)
  go_wp2_with fail
  clear f3
  refine HL1.out.mono ?_
  intro e w2 h2
  obtain ⟨T, a1, c1, er, line, rfl, hown, hb2, hv⟩ := h2.view
  have H2 := Lib.hid (And.intro (onB' H1.out.1 hb2) (And.intro hown (And.intro (H1.out.2.1.below hb2) (H1.out.2.2.below hb2))))
  clear h2 hown hb2 HL1
  rcases hv with ⟨hR, rfl, rfl⟩ | ⟨hR, rfl⟩
  · obtain ⟨ho, hn, hb⟩ := lexL_own hR
    have hlb := len_bytes T ho
    rw [← size_eq s] at hb
    have HO := Lib.hid (And.intro ho (And.intro hn (And.intro hb hlb)))
    clear ho hn hb hlb hR
    go_wp2_with fail
    go_loopw [6, 7] (fun s6 s7 wr => ∃ (k : Nat) (B : ByteArray), k ≤ T.length ∧ s6 = .string B ∧ s7 = .int .i64 k ∧ B.data.toList = spaced (T.take k) ∧ Below w2.heap.size w2 wr) (fun _ s7 _ => T.length - (RowKit.intOf s7).toNat)
    case atStart => exact ⟨0, ⟨#[]⟩, Nat.zero_le _, rfl, rfl, rfl, Below.refl _ _⟩
    case round =>
      obtain ⟨k, B, hk, rfl, rfl, hB, hbr⟩ := hrel
      have HB := Lib.hid (And.intro hB hbr)
      clear hB hbr
      have hBz : B.size ≤ 10000 := by
        have h1 : (spaced (T.take k)).length = bytesT (T.take k) + (T.take k).length := spaced_len _
        have h2 : bytesT T = bytesT (T.take k) + bytesT (T.drop k) := by rw [← bytes_app, List.take_append_drop]
        have h3 := HO.out.2.2.1
        have h4 := HO.out.2.2.2
        rw [size_eq B, HB.out.1, h1, List.length_take]
        omega
      by_cases hlt : k < T.length
      · have hlt' : (k : Int) < (T.length : Int) := by omega
        obtain ⟨g1, ea1, ht1⟩ := own_tok H2.out.2.1 hlt
        have hox := HO.out.1 _ (List.getElem_mem hlt)
        have hbx : (T[k]).1.t.length ≤ s.size := Nat.le_trans (bytes_mem (List.getElem_mem hlt)) HO.out.2.2.1
        have hts : spaced (T.take (k + 1)) = spaced (T.take k) ++ (T[k]).1.t ++ [32] := by rw [← spaced_snoc, List.take_succ_eq_append_getElem hlt]
        subst ea1
        replace ht1 := ht1.later HB.out.2
        generalize T[k] = tk at *
        obtain ⟨⟨kd, tx, ff, xx⟩, ln⟩ := tk
        simp only at hox hbx hts
        obtain ⟨c, t, htx, -⟩ := hox
        simp only at htx
        obtain ⟨p0, p1, p2, p3, p4⟩ := ht1
        simp only at p0 p1 p2 p3 p4
        have hbt : (⟨tx.toArray⟩ : ByteArray).data.toList = tx := back_list tx
        generalize (⟨tx.toArray⟩ : ByteArray) = bt at *
        have hbz : bt.size = tx.length := by rw [size_eq, hbt]
        have q1 : ((bt.size : Int) == 0) = false := by rw [hbz, htx, List.length_cons]; simp; omega
        have q2 : decide (s.size < bt.size) = false := decide_eq_false (by omega)
        have hm1 : B.size + bt.size + 1 ≤ 20000 := by omega
        have HT := Lib.hid (And.intro hts hbt)
        clear hts hbt hbz htx hbx p0 p2 p3 p4
        have HXD := Lib.hid (onB' HB.out.2 (show Below wr.heap.size wr wr.drew from ⟨rfl, rfl, rfl, Nat.le_refl _, fun _ _ => rfl⟩))
        have b0 : (0 : Int) ≤ (k : Int) := by omega
        have ek : IntKind.i64.wrap ((k : Int) + 1) = (k : Int) + 1 := by rw [IntKind.wrap_i64]; have := HO.out.2.1; omega
        go_wp2_with fail
        exact ⟨⟨k + 1, B ++ bt ++ ⟨#[32]⟩, by omega, rfl, by go_num, by rw [cat_list, cat_list, HB.out.1, HT.out.2, HT.out.1], HB.out.2⟩, by simp [RowKit.intOf]; omega⟩
      · obtain rfl : k = T.length := by omega
        have hBT : B.data.toList = spaced T := by rw [HB.out.1, List.take_length]
        have hsp := lexL_spaced HO.out.1 HO.out.2.1
        rw [← hBT] at hsp
        have HL2 := Lib.hid (lex_any B (by omega) wr (H2.out.2.2.1.below HB.out.2) (H2.out.2.2.2.below HB.out.2))
        have HSP := Lib.hid hsp
        clear hBT hsp
        go_wp2_with fail
        refine HL2.out.mono ?_
        intro e w3 h3
        obtain ⟨T2, a2, c2, er2, line2, rfl, hown2, hb3, hv2⟩ := h3.view
        rw [HSP.out] at hv2
        rcases hv2 with ⟨e2, rfl, rfl⟩ | ⟨e2, -⟩
        · simp only [Res.good.injEq] at e2
          subst e2
          have hlen : (T.map fun x => (x.1, (1 : Int))).length = T.length := List.length_map _
          have hb32 := HB.out.2.trans (hb3.mono HB.out.2.size)
          have H3 := Lib.hid (And.intro (onB' H2.out.1 hb32) (And.intro (own_below H2.out.2.1 hb32) hown2))
          rw [hlen]
          clear h3 hown2 hb3 HL2 hlen hb32
          have u1 : ((T.length : Int) != (T.length : Int)) = false := by simp
          go_wp2_with fail
          clear u1
          generalize wr = wA at *
          go_loopw [11] (fun s11 wr => ∃ j : Nat, j ≤ T.length ∧ s11 = .int .i64 j ∧ Below w3.heap.size w3 wr) (fun s11 _ => T.length - (RowKit.intOf s11).toNat)
          case atStart => exact ⟨0, Nat.zero_le _, rfl, Below.refl _ _⟩
          case round =>
            obtain ⟨j, hj, rfl, hbr⟩ := hrel
            have HBR := Lib.hid hbr
            clear hbr
            by_cases gj : j < T.length
            · have gj' : (j : Int) < (T.length : Int) := by omega
              obtain ⟨g1, ea1, ht1⟩ := own_tok H3.out.2.1 gj
              have gjm : j < (T.map fun x => (x.1, (1 : Int))).length := by rw [List.length_map]; exact gj
              obtain ⟨g2, ea2, ht2⟩ := own_tok H3.out.2.2 gjm
              rw [List.getElem_map] at ht2
              subst ea1
              subst ea2
              replace ht1 := ht1.later HBR.out
              replace ht2 := ht2.later HBR.out
              generalize T[j] = tk at *
              obtain ⟨⟨kd, tx, ff, xx⟩, ln⟩ := tk
              obtain ⟨p0, p1, p2, p3, p4⟩ := ht1
              obtain ⟨q0, q1, q2, q3, q4⟩ := ht2
              simp only at p0 p1 p2 p3 p4 q0 q1 q2 q3 q4
              generalize (⟨tx.toArray⟩ : ByteArray) = bt at *
              have he := fun W => tok_neq kd bt ff xx 1 W
              have hmx := own_max H3.out.2.1
              unfold maxLen at hmx
              have ej : IntKind.i64.wrap ((j : Int) + 1) = (j : Int) + 1 := by rw [IntKind.wrap_i64]; omega
              have hx := (Below.refl wr.heap.size wr).alloc (Nat.le_refl _) (.cells #[.int .i64 kd, .string bt, .bool ff, .int .u64 xx, .int .i64 1] 35)
              have x0 : (wr.alloc (.cells #[.int .i64 kd, .string bt, .bool ff, .int .u64 xx, .int .i64 1] 35)).cell? ⟨wr.heap.size, 0, none⟩ = some (.int .i64 kd) := by simp [go_sem]
              have x1 : (wr.alloc (.cells #[.int .i64 kd, .string bt, .bool ff, .int .u64 xx, .int .i64 1] 35)).cell? ⟨wr.heap.size, 1, none⟩ = some (.string bt) := by simp [go_sem]
              have x2 : (wr.alloc (.cells #[.int .i64 kd, .string bt, .bool ff, .int .u64 xx, .int .i64 1] 35)).cell? ⟨wr.heap.size, 2, none⟩ = some (.bool ff) := by simp [go_sem]
              have x3 : (wr.alloc (.cells #[.int .i64 kd, .string bt, .bool ff, .int .u64 xx, .int .i64 1] 35)).cell? ⟨wr.heap.size, 3, none⟩ = some (.int .u64 xx) := by simp [go_sem]
              have x4 : (wr.alloc (.cells #[.int .i64 kd, .string bt, .bool ff, .int .u64 xx, .int .i64 1] 35)).cell? ⟨wr.heap.size, 4, none⟩ = some (.int .i64 1) := by simp [go_sem]
              have y0 := later' hx q0
              have y1 := later' hx q1
              have y2 := later' hx q2
              have y3 := later' hx q3
              have y4 := later' hx q4
              have HX := Lib.hid (onB' HBR.out hx)
              clear hx q0 q1 q2 q3 q4
              go_upto_region 23 with fail
              generalize (wr.alloc (.cells #[.int .i64 kd, .string bt, .bool ff, .int .u64 xx, .int .i64 1] 35)) = W4 at *
              have b0 : (0 : Int) ≤ (j : Int) := by omega
              have hd : Below W4.heap.size W4 W4.drew := ⟨rfl, rfl, rfl, Nat.le_refl _, fun _ _ => rfl⟩
              have HXD := Lib.hid (onB' HX.out hd)
              clear hd
              go_region
              all_goals go_wp2_with fail
              all_goals exact ⟨⟨j + 1, by omega, by go_num, HXD.out⟩, by simp [RowKit.intOf]; omega⟩
            · obtain rfl : j = T.length := by omega
              go_wp2_with fail
              go_ret
              exact ⟨rfl, onB' H3.out.1 HBR.out⟩
        · cases e2
  · have h0 := lexL_bad hR
    have g0 : (er != 0) = true := by simpa using h0
    clear hR h0
    go_wp2_with fail
    go_ret
    exact ⟨rfl, H2.out.1⟩

end Go.Proofs.YtkeeglpbhjnmdaaDoor
