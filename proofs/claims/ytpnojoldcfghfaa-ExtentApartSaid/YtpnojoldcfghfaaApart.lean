/- ExtentApart: for all arguments that can be read the statement's function returns true; each argument reads behind the call as before. -/
import Derived.Test.YtpnojoldcfghfaaRows
import Derived.Test.YtpnojoldcfghfaaExS
import Derived.IntWalk
namespace Go.Proofs.Ytpnojoldcfghfaa.extentApart
open Go.ChangeShapes Go.WideShapes Go.ChangeAt Go.RowKit Go.Sort

theorem laidOut : laidOutB Try.prog = true := by kernel_rfl
theorem own : ownKnob Try.prog.godebug = none := by kernel_rfl

set_option maxHeartbeats 16000000 in
set_option maxRecDepth 100000 in
theorem walk_narrow (F N : Int) (a0 : Option Addr) (len cap : Nat) (turned : Bool) (w : World) (hints : Ints w a0 len) (f0 : 0 ≤ F) (f1 : F ≤ 65536) (n0 : 0 ≤ N) (n1 : N ≤ 300) (hl : len ≤ 60) :
    Calls Try.prog 4 #[.int .i64 F, .int .i64 N, .slice a0 len cap, .bool turned] w fun e w' => e = .returned (.bool true) ∧ Below w.heap.size w w' := by
  have HACT := Lib.hid hints
  clear hints
  go_enter Try.func4, Try.ntmps4
  go_wp2_with fail
  refine (awake_any _).mono ?_
  rintro e w1 ⟨rfl, hB⟩
  have s1 := hB.size
  have HB := Lib.hid hB
  clear hB
  go_wp2_with fail
  refine (room_new F N w1 ⟨f0, f1⟩ ⟨n0, by omega⟩).mono ?_
  rintro e w2 ⟨p, g, rfl, hR, hb, lp, lg⟩
  have HM : Hid (Mid w p g F N (whole F N) w2) := ⟨hR, onB HB.out hb, by omega, by omega⟩
  have hB0 : w.heap.size ≤ w2.heap.size := HM.out.below.size
  have HTW : Hid (total (whole F N) = N) := by
    show _ = _
    unfold whole
    split
    · simp [total]; omega
    · simp [total]
  clear hR hb
  go_wp2_with fail
  go_loopw [11, 12, 13, 14, 15, 16] (fun s11 s12 s13 _ _ _ wr => ∃ (k g m : Nat) (L G : List (Int × Int)), k ≤ len ∧ m ≤ k ∧ s13 = .int .i64 k ∧ s12 = .int .i64 (N - total L) ∧ Mid w p g F N L wr ∧ Got w.heap.size p g s11 m G wr ∧ Inv F N L G) (fun _ _ s13 _ _ _ _ => len - (intOf s13).toNat)
  case atStart => exact ⟨0, g, 0, whole F N, [], Nat.zero_le _, Nat.zero_le _, rfl, by rw [HTW.out, Int.sub_self], HM.out, Got.start _ _ _ _, inv_start⟩
  case round =>
    clear HM lg HTW hB0
    obtain ⟨k, g, m, L, G, hk, hmk, rfl, rfl, hM, hG, hI⟩ := hrel
    obtain ⟨ao, c, rfl, hL⟩ := hG.listed
    have HM := Lib.hid hM
    have HG := Lib.hid hG
    have HI := Lib.hid hI
    have HL := Lib.hid hL
    have hs := hM.room.sum
    clear hM hG hI hL
    by_cases hlt : k < len
    · obtain ⟨b, off, rfl, hbl, Z, hcell⟩ := HACT.out (by omega)
      have c00 := hcell k hlt
      have HC := Lib.hid c00
      have c0 := (HM.out.below.cell (p := ⟨b, off + k, none⟩) hbl).trans c00
      clear hcell c00
      generalize Z k = z at c0 HC
      generalize hT : total L = T at hs ⊢
      have HT := Lib.hid hT
      clear hT
      go_wp2_with fail
      refine (room_take p g F N z L wr HM.out.room).mono ?_
      rintro e w4 ⟨rfl, g', M, hR, hTk, hq, hg⟩
      have HM4 := Lib.hid (HM.out.step hR hq hg)
      have HG4 := Lib.hid (HG.out.step hq hg)
      have HL4 := Lib.hid (show Listed w4 ao G by
        obtain ⟨ao', c', e1, e2⟩ := (HG.out.step hq hg).listed
        simp only [Value.slice.injEq, true_and] at e1
        obtain ⟨rfl, rfl⟩ := e1
        exact e2)
      have HTK := Lib.hid hTk
      clear hR hTk hq hg c0 HG HL
      by_cases he : tErr z L = 0
      · obtain ⟨z1, a1, a2, _⟩ := take_lies HM.out.room.good he
        obtain ⟨hI2, hTM, hno⟩ := HI.out.take HM.out.room.good HTK.out he
        rw [he]
        generalize tAt z L = a at a1 a2 hI2 hno ⊢
        have HI2 := Lib.hid hI2
        have HTM := Lib.hid hTM
        have HNO := Lib.hid hno
        have c0 := (HM4.out.below.cell (p := ⟨b, off + k, none⟩) hbl).trans HC.out
        have b1 : decide (a < F) = false := by simp; omega
        have b2 : decide (N - z < a - F) = false := by simp; omega
        clear hI2 hTM hno he
        go_wp2_with fail
        go_loopw [16] (fun s wr => ∃ q : Nat, q ≤ m ∧ s = .int .i64 q ∧ Below w4.heap.size w4 wr) (fun s _ => m - (intOf s).toNat)
        case atStart => exact ⟨0, Nat.zero_le _, rfl, Below.refl _ _⟩
        case round =>
          clear c0
          obtain ⟨q, hq, rfl, hB⟩ := hrel
          have HB4 := Lib.hid hB
          clear hB
          have HM6 := Lib.hid (HM4.out.later HB4.out)
          have c0 := (HM6.out.below.cell (p := ⟨b, off + k, none⟩) hbl).trans HC.out
          by_cases hqm : q < m
          · have hqm' : (q : Int) < (m : Int) := by omega
            have hk' : (k : Int) < (len : Int) := by omega
            obtain ⟨d, rfl, hdl, hdc⟩ := HL4.out (by have := HG4.out.len; omega)
            obtain ⟨y, hy⟩ : ∃ y, G[q]? = some y := ⟨_, List.getElem?_eq_getElem (by have := HG4.out.len; omega)⟩
            obtain ⟨d0, d1⟩ := hdc q _ hy
            replace d0 := (HB4.out.cell (p := ⟨d, q * 2, none⟩) hdl).trans d0
            replace d1 := (HB4.out.cell (p := ⟨d, q * 2 + 1, none⟩) hdl).trans d1
            have fy := HI.out.fit y (List.mem_of_getElem? hy)
            have ny := HNO.out y (List.mem_of_getElem? hy)
            clear hy hdc
            obtain ⟨ya, yk⟩ := y
            simp only at d0 d1 fy ny
            have x1 : IntKind.i64.wrap (a + z) = a + z := IntWalk.i64_in _ (by omega)
            have x2 : IntKind.i64.wrap (ya + yk) = ya + yk := IntWalk.i64_in _ (by omega)
            by_cases hy1 : ya < a + z
            · have b3 : decide (ya < a + z) = true := by simpa using hy1
              have b4 : decide (a < ya + yk) = false := by simp; omega
              clear ny hy1
              go_wp2_with fail
              go_quiet (fail)
              go_wp2_with fail
              exact ⟨⟨q + 1, by omega, by go_num, onB HB4.out ⟨rfl, rfl, rfl, Nat.le_refl _, fun _ _ => rfl⟩⟩, by simp [intOf]; omega⟩
            · have b3 : decide (ya < a + z) = false := by simpa using hy1
              clear ny hy1
              go_wp2_with fail
              go_quiet (fail)
              go_wp2_with fail
              exact ⟨⟨q + 1, by omega, by go_num, onB HB4.out ⟨rfl, rfl, rfl, Nat.le_refl _, fun _ _ => rfl⟩⟩, by simp [intOf]; omega⟩
          · obtain rfl : q = m := by omega
            have HG6 := Lib.hid (HG4.out.later HB4.out)
            have hsz := HM6.out.below.size
            have st := HM4.out.room.sum
            have HLT := Lib.hid hk
            go_wp2_with (at_builtin; refine append_pair2 _ rfl _ _ rfl w.heap.size q _ G (a, z) wr.heap.size rfl (HG6.out.own.alloc _) rfl (blk1 _ _) (by omega) (by simp; omega) (wr.heap.size + 1) (by simp) ?_; intro g9 cap9 w9 hown hgr hat; have hM9 := (HM6.out.later ((Below.refl _ _).alloc (Nat.le_refl _) (.cells #[.int .i64 a, .int .i64 z] 45))).row (HG6.out.later ((Below.refl _ _).alloc (Nat.le_refl _) _)) (Nat.le_refl _) hgr; have c9 := (hM9.below.cell (p := ⟨b, off + k, none⟩) hbl).trans HC.out)
            have hG9 := Got.more (y := (a, z)) (HM6.out.later ((Below.refl _ _).alloc (Nat.le_refl _) (.cells #[.int .i64 a, .int .i64 z] 45))) (HG6.out.later ((Below.refl _ _).alloc (Nat.le_refl _) _)) hown (show (Value.slice ao q c).ownBlock = some g9 ∨ g9 = (wr.alloc (.cells #[.int .i64 a, .int .i64 z] 45)).heap.size from hat.elim (fun h => Or.inl h) fun h => Or.inr (by simpa using h))
            have HG9 := Lib.hid (hG9.row2 hgr)
            have HM9 := Lib.hid hM9
            clear hG9 hM9 hown hgr hat
            go_roundw
            case rel => exact ⟨k + 1, g', q + 1, _, G ++ [(a, z)], by omega, by omega, by go_num, by rw [HTM.out, HT.out]; congr 1; omega, HM9.out, HG9.out, HI2.out⟩
            case measure => simp [intOf]; omega
      · obtain ⟨hI2, hTM⟩ := HI.out.stays HTK.out he
        have HI2 := Lib.hid hI2
        have HTM := Lib.hid hTM
        generalize tErr z L = ev at he ⊢
        generalize tAt z L = a
        have he2 : (ev == 0) = false := by simpa using he
        clear hI2 hTM
        go_wp2_with fail
        go_roundw
        case rel => exact ⟨k + 1, g', m, _, G, by omega, by omega, by go_num, by rw [HTM.out, HT.out], HM4.out, HG4.out, HI2.out⟩
        case measure => simp [intOf]; omega
    · obtain rfl : k = len := by omega
      generalize hT : total L = T at hs ⊢
      have HT := Lib.hid hT
      clear hT
      go_wp2_with fail
      refine (room_free p g F N L wr HM.out.room).mono ?_
      rintro e w4 ⟨rfl, hb⟩
      rw [HT.out]
      have HM4 := Lib.hid (HM.out.later hb)
      have HG4 := Lib.hid (HG.out.later hb)
      have HI4 := Lib.hid (show Inv F N L (left turned G 0) by rw [left_start]; exact HI.out)
      have HLEN := Lib.hid HG.out.len
      have hsub : N - (N - T) = T := by omega
      clear hb HM HG HI HT
      cases turned with
      | true =>
        go_wp2_with fail
        go_loopw [17, 18] (fun s17 _ wr => ∃ (i g : Nat) (L : List (Int × Int)), i ≤ m ∧ s17 = .int .i64 i ∧ Mid w p g F N L wr ∧ Got w.heap.size p g (.slice ao m c) m G wr ∧ Inv F N L (left true G i)) (fun s17 _ _ => m - (intOf s17).toNat)
        case atStart => exact ⟨0, g, L, Nat.zero_le _, rfl, HM4.out, HG4.out, HI4.out⟩
        case round =>
          clear HM4 HG4 HI4 HL
          obtain ⟨i, g, L, hi, rfl, hM, hG, hI⟩ := hrel
          have hL : Listed wr ao G := by
            obtain ⟨ao', c', e1, e2⟩ := hG.listed
            simp only [Value.slice.injEq, true_and] at e1
            obtain ⟨rfl, rfl⟩ := e1
            exact e2
          have HM := Lib.hid hM
          have HG := Lib.hid hG
          have HI := Lib.hid hI
          have HL := Lib.hid hL
          have lp := hM.room.lp
          have lg := hM.room.lg
          clear hM hG hI hL
          by_cases him : i < m
          · have him' : (i : Int) < (m : Int) := by omega
            obtain ⟨d, rfl, hdl, hdc⟩ := HL.out (by have := HLEN.out; omega)
            obtain ⟨y, hy⟩ : ∃ y, G[i]? = some y := ⟨_, List.getElem?_eq_getElem (by have := HLEN.out; omega)⟩
            obtain ⟨d0, d1⟩ := hdc i _ hy
            have j0 : (0 : Int) ≤ (m : Int) - 1 - (i : Int) := by omega
            have j1 : (m : Int) - 1 - (i : Int) < (m : Int) := by omega
            have j2 : ((m : Int) - 1 - (i : Int)).toNat = m - 1 - i := by omega
            have j3 : IntKind.i64.wrap ((m : Int) - 1 - (i : Int)) = (m : Int) - 1 - (i : Int) := IntWalk.i64_in _ (by omega)
            obtain ⟨x, hx⟩ : ∃ x, G[m - 1 - i]? = some x := ⟨_, List.getElem?_eq_getElem (by have := HLEN.out; omega)⟩
            obtain ⟨x0, x1⟩ := hdc _ _ hx
            obtain ⟨P, Q, hP, hQ⟩ := left_step true G (i := i) (by have := HLEN.out; omega) (x := x) (by unfold which; rw [HLEN.out]; exact hx)
            have hI := HI.out
            rw [hP] at hI
            obtain ⟨hg0, hgM⟩ := hI.give HM.out.room.good
            have fx := hI.fit x (by simp)
            have HGM := Lib.hid hgM
            have HG0 := Lib.hid hg0
            have HQ := Lib.hid hQ
            clear hI hP hQ hg0 hgM hdc hx hy
            obtain ⟨xa, xk⟩ := x
            obtain ⟨ya, yk⟩ := y
            simp only at fx d0 d1 x0 x1
            go_wp2_with fail
            refine (room_give p g F N xa xk L _ (HM.out.later ((Below.refl _ _).alloc (Nat.le_refl _) _)).room (by omega)).mono ?_
            rintro e w5 ⟨rfl, g5, M, hR, hGv, hq, hg⟩
            rw [HG0.out]
            obtain ⟨h5, hend⟩ := HGM.out M hGv
            have H5 := Lib.hid h5
            have HEND := Lib.hid hend
            have HM5 := Lib.hid ((HM.out.later ((Below.refl _ _).alloc (Nat.le_refl _) (.cells #[.int .i64 xa, .int .i64 xk] 45))).step hR hq hg)
            have HG5 := Lib.hid ((HG.out.later ((Below.refl _ _).alloc (Nat.le_refl _) (.cells #[.int .i64 xa, .int .i64 xk] 45))).step hq hg)
            have e0 := hq.cell (a := ⟨wr.heap.size, 0, none⟩) (v := .int .i64 xa) (by simp [go_sem]) (by simp; omega) (by simp; omega)
            have e1 := hq.cell (a := ⟨wr.heap.size, 1, none⟩) (v := .int .i64 xk) (by simp [go_sem]) (by simp; omega) (by simp; omega)
            have hsz : wr.heap.size + 1 ≤ w5.heap.size := by have := hq.size; simpa using this
            clear hR hGv hq hg h5 hend d0 d1 x0 x1
            go_wp2_with fail
            refine (room_give p g5 F N xa xk M w5 HM5.out.room (by omega)).mono ?_
            rintro e w6 ⟨rfl, g6, M', hR, hGv, hq, hg⟩
            rw [H5.out]
            have hI6 := HEND.out M' hGv
            rw [← HQ.out] at hI6
            have HI6 := Lib.hid hI6
            have HM6 := Lib.hid (HM5.out.step hR hq hg)
            have HG6 := Lib.hid (HG5.out.step hq hg)
            clear hR hGv hq hg hI6 e0 e1
            go_wp2_with fail
            go_roundw
            case rel => exact ⟨i + 1, g6, M', him, by go_num, HM6.out, HG6.out, HI6.out⟩
            case measure => simp [intOf]; omega
          · obtain rfl : i = m := by omega
            have hI := HI.out
            rw [← HLEN.out, left_end] at hI
            have hLw := hI.done HM.out.room.good n0
            have HIM := Lib.hid HM.out.below
            have HLS := Lib.hid HLEN.out
            clear hI HI
            subst hLw
            by_cases hN : N = 0
            · subst hN
              go_wp2_with fail
              refine (room_list p g F 0 _ wr HM.out.room).mono ?_
              rintro e w5 ⟨ao5, c5, rfl, hL5, hb⟩
              have HE := Lib.hid (onB HIM.out hb)
              have hz : (wholeQ F 0).length = 0 := rfl
              rw [hz]
              clear hb hL5 hz
              go_wp2_with fail
              go_ret
              exact ⟨rfl, HE.out⟩
            · have hN' : (N == 0) = false := by simpa using hN
              have hwq : wholeQ F N = [(F, N)] := by unfold wholeQ; rw [if_neg hN]
              have HR5 := Lib.hid HM.out.room
              rw [hwq] at HR5
              clear HM hwq hN
              go_wp2_with fail
              refine (room_list p g F N _ wr HR5.out).mono ?_
              rintro e w5 ⟨ao5, c5, rfl, hL5, hb⟩
              have HE := Lib.hid (onB HIM.out hb)
              have HL5 := Lib.hid hL5
              have hz : [(F, N)].length = 1 := rfl
              rw [hz]
              clear hb hL5 hz
              go_wp2_with fail
              refine (same_any ao5 (some ⟨w5.heap.size, 0, none⟩) 1 c5 1 [(F, N)] _ rfl (HL5.out.later ((Below.refl _ _).alloc (Nat.le_refl _) _)) (listed_lit w5 [(F, N)]) (by decide)).mono ?_
              rintro e w6 ⟨rfl, hb⟩
              have HE6 := Lib.hid (onB (HE.out.alloc HE.out.size _) hb)
              clear hb
              go_wp2_with fail
              go_ret
              exact ⟨rfl, HE6.out⟩
      | false =>
        go_wp2_with fail
        go_loopw [17, 18] (fun s17 _ wr => ∃ (i g : Nat) (L : List (Int × Int)), i ≤ m ∧ s17 = .int .i64 i ∧ Mid w p g F N L wr ∧ Got w.heap.size p g (.slice ao m c) m G wr ∧ Inv F N L (left false G i)) (fun s17 _ _ => m - (intOf s17).toNat)
        case atStart => exact ⟨0, g, L, Nat.zero_le _, rfl, HM4.out, HG4.out, HI4.out⟩
        case round =>
          clear HM4 HG4 HI4 HL
          obtain ⟨i, g, L, hi, rfl, hM, hG, hI⟩ := hrel
          have hL : Listed wr ao G := by
            obtain ⟨ao', c', e1, e2⟩ := hG.listed
            simp only [Value.slice.injEq, true_and] at e1
            obtain ⟨rfl, rfl⟩ := e1
            exact e2
          have HM := Lib.hid hM
          have HG := Lib.hid hG
          have HI := Lib.hid hI
          have HL := Lib.hid hL
          have lp := hM.room.lp
          have lg := hM.room.lg
          clear hM hG hI hL
          by_cases him : i < m
          · have him' : (i : Int) < (m : Int) := by omega
            obtain ⟨d, rfl, hdl, hdc⟩ := HL.out (by have := HLEN.out; omega)
            obtain ⟨y, hy⟩ : ∃ y, G[i]? = some y := ⟨_, List.getElem?_eq_getElem (by have := HLEN.out; omega)⟩
            obtain ⟨d0, d1⟩ := hdc i _ hy
            have hx := hy
            obtain ⟨P, Q, hP, hQ⟩ := left_step false G (i := i) (by have := HLEN.out; omega) (x := y) (by unfold which; rw [HLEN.out]; exact hx)
            have hI := HI.out
            rw [hP] at hI
            obtain ⟨hg0, hgM⟩ := hI.give HM.out.room.good
            have fx := hI.fit y (by simp)
            have HGM := Lib.hid hgM
            have HG0 := Lib.hid hg0
            have HQ := Lib.hid hQ
            clear hI hP hQ hg0 hgM hdc hx hy
            obtain ⟨xa, xk⟩ := y
            simp only at fx d0 d1
            go_wp2_with fail
            refine (room_give p g F N xa xk L _ (HM.out.later ((Below.refl _ _).alloc (Nat.le_refl _) _)).room (by omega)).mono ?_
            rintro e w5 ⟨rfl, g5, M, hR, hGv, hq, hg⟩
            rw [HG0.out]
            obtain ⟨h5, hend⟩ := HGM.out M hGv
            have H5 := Lib.hid h5
            have HEND := Lib.hid hend
            have HM5 := Lib.hid ((HM.out.later ((Below.refl _ _).alloc (Nat.le_refl _) (.cells #[.int .i64 xa, .int .i64 xk] 45))).step hR hq hg)
            have HG5 := Lib.hid ((HG.out.later ((Below.refl _ _).alloc (Nat.le_refl _) (.cells #[.int .i64 xa, .int .i64 xk] 45))).step hq hg)
            have e0 := hq.cell (a := ⟨wr.heap.size, 0, none⟩) (v := .int .i64 xa) (by simp [go_sem]) (by simp; omega) (by simp; omega)
            have e1 := hq.cell (a := ⟨wr.heap.size, 1, none⟩) (v := .int .i64 xk) (by simp [go_sem]) (by simp; omega) (by simp; omega)
            have hsz : wr.heap.size + 1 ≤ w5.heap.size := by have := hq.size; simpa using this
            clear hR hGv hq hg h5 hend d0 d1 
            go_wp2_with fail
            refine (room_give p g5 F N xa xk M w5 HM5.out.room (by omega)).mono ?_
            rintro e w6 ⟨rfl, g6, M', hR, hGv, hq, hg⟩
            rw [H5.out]
            have hI6 := HEND.out M' hGv
            rw [← HQ.out] at hI6
            have HI6 := Lib.hid hI6
            have HM6 := Lib.hid (HM5.out.step hR hq hg)
            have HG6 := Lib.hid (HG5.out.step hq hg)
            clear hR hGv hq hg hI6 e0 e1
            go_wp2_with fail
            go_roundw
            case rel => exact ⟨i + 1, g6, M', him, by go_num, HM6.out, HG6.out, HI6.out⟩
            case measure => simp [intOf]; omega
          · obtain rfl : i = m := by omega
            have hI := HI.out
            rw [← HLEN.out, left_end] at hI
            have hLw := hI.done HM.out.room.good n0
            have HIM := Lib.hid HM.out.below
            have HLS := Lib.hid HLEN.out
            clear hI HI
            subst hLw
            by_cases hN : N = 0
            · subst hN
              go_wp2_with fail
              refine (room_list p g F 0 _ wr HM.out.room).mono ?_
              rintro e w5 ⟨ao5, c5, rfl, hL5, hb⟩
              have HE := Lib.hid (onB HIM.out hb)
              have hz : (wholeQ F 0).length = 0 := rfl
              rw [hz]
              clear hb hL5 hz
              go_wp2_with fail
              go_ret
              exact ⟨rfl, HE.out⟩
            · have hN' : (N == 0) = false := by simpa using hN
              have hwq : wholeQ F N = [(F, N)] := by unfold wholeQ; rw [if_neg hN]
              have HR5 := Lib.hid HM.out.room
              rw [hwq] at HR5
              clear HM hwq hN
              go_wp2_with fail
              refine (room_list p g F N _ wr HR5.out).mono ?_
              rintro e w5 ⟨ao5, c5, rfl, hL5, hb⟩
              have HE := Lib.hid (onB HIM.out hb)
              have HL5 := Lib.hid hL5
              have hz : [(F, N)].length = 1 := rfl
              rw [hz]
              clear hb hL5 hz
              go_wp2_with fail
              refine (same_any ao5 (some ⟨w5.heap.size, 0, none⟩) 1 c5 1 [(F, N)] _ rfl (HL5.out.later ((Below.refl _ _).alloc (Nat.le_refl _) _)) (listed_lit w5 [(F, N)]) (by decide)).mono ?_
              rintro e w6 ⟨rfl, hb⟩
              have HE6 := Lib.hid (onB (HE.out.alloc HE.out.size _) hb)
              clear hb
              go_wp2_with fail
              go_ret
              exact ⟨rfl, HE6.out⟩

set_option maxRecDepth 100000 in
theorem walk (F N : Int) (a0 : Option Addr) (len cap : Nat) (turned : Bool) (w : World) (hacts : Ints w a0 len) (hlen : len ≤ 9223372036854775807) (bF : -9223372036854775808 ≤ F ∧ F ≤ 9223372036854775807) (bN : -9223372036854775808 ≤ N ∧ N ≤ 9223372036854775807) :
    Calls Try.prog 4 #[.int .i64 F, .int .i64 N, .slice a0 len cap, .bool turned] w fun e w' => e = .returned (.bool true) ∧ Below w.heap.size w w' := by
  by_cases g0 : F < 0
  · clear hacts
    go_enter Try.func4, Try.ntmps4
    go_wp2_with fail
    refine (awake_any _).mono ?_
    rintro e w1 ⟨rfl, hB⟩
    go_wp2_with fail
    go_ret
    exact ⟨rfl, hB⟩
  by_cases g1 : 65536 < F
  · clear hacts
    go_enter Try.func4, Try.ntmps4
    go_wp2_with fail
    refine (awake_any _).mono ?_
    rintro e w1 ⟨rfl, hB⟩
    go_wp2_with fail
    go_ret
    exact ⟨rfl, hB⟩
  by_cases g2 : N < 0
  · clear hacts
    go_enter Try.func4, Try.ntmps4
    go_wp2_with fail
    refine (awake_any _).mono ?_
    rintro e w1 ⟨rfl, hB⟩
    go_wp2_with fail
    go_ret
    exact ⟨rfl, hB⟩
  by_cases g3 : 300 < N
  · clear hacts
    go_enter Try.func4, Try.ntmps4
    go_wp2_with fail
    refine (awake_any _).mono ?_
    rintro e w1 ⟨rfl, hB⟩
    go_wp2_with fail
    go_ret
    exact ⟨rfl, hB⟩
  by_cases g4 : 60 < (len : Int)
  · clear hacts
    go_enter Try.func4, Try.ntmps4
    go_wp2_with fail
    refine (awake_any _).mono ?_
    rintro e w1 ⟨rfl, hB⟩
    go_wp2_with fail
    go_ret
    exact ⟨rfl, hB⟩
  exact walk_narrow F N a0 len cap turned w hacts (by omega) (by omega) (by omega) (by omega) (by omega)

set_option maxRecDepth 100000 in
theorem lifted (os : Os) (started : os.Started) (H : Type) (enc : TypeId × Value → H) :
    ReturnsInHanded {} Try.checked os 4 .any (Rows.extentApartSpec.pre6 enc Try.prog Try.f4 Rows.extentApartRow.domain false) (Rows.extentApartSpec.post enc Try.prog Try.f4 false true false false) := by
  refine returnsInHanded_of_change (C := Try.checked) own started (by kernel_rfl) Try.func4
    (ChangeSpec.witness6 (enc := enc) (C := Try.checked) false ⟨#[], #[.int .i64 0, .int .i64 0, .slice none 0 0, .bool false], []⟩ 8 (by kernel_rfl) (by kernel_rfl) (by kernel_rfl) (by kernel_rfl)) ?_
  intro W base args ds gs before hval0 hW hcnd _
  have hval : ∀ (j : Nat) t v, Try.f4.params[j]? = some t → args[j]? = some v → Value.okWide Try.prog W .any base t v := hval0
  have hW' := hW
  obtain ⟨p, q, hA0, hV, rfl, hfz, hnd⟩ := hW
  have hA : DataW.TrodAll enc Try.prog W 0 (fun _ => true) true Try.f4.params.toList args.toList ds p := hA0
  rw [Try.params4] at hA hval
  obtain ⟨v0, vs0, d0, ds0, p0, q0, hargs, rfl, rfl, h0, r0⟩ := trodAll_cons hA
  obtain ⟨v1, vs1, d1, ds1, p1, q1, rfl, rfl, rfl, h1, r1⟩ := trodAll_cons r0
  obtain ⟨v2, vs2, d2, ds2, p2, q2, rfl, rfl, rfl, h2, r2⟩ := trodAll_cons r1
  obtain ⟨v3, vs3, d3, ds3, p3, q3, rfl, rfl, rfl, h3, r3⟩ := trodAll_cons r2
  obtain ⟨rfl, rfl, rfl⟩ := trodAll_nil r3
  obtain rfl : args = #[v0, v1, v2, v3] := by cases args; simp_all
  obtain ⟨rfl, rfl⟩ := trodVars_none hV
  obtain ⟨F, rfl, rfl, rfl, wF⟩ := open_int Try.underlying3 (hval 0 3 v0 rfl rfl) h0
  obtain ⟨N, rfl, rfl, rfl, wN⟩ := open_int Try.underlying3 (hval 1 3 v1 rfl rfl) h1
  have h2k := h2
  obtain ⟨a0, len, cap, rfl⟩ := okWide_slice Try.underlying42 (hval 2 42 v2 rfl rfl)
  obtain ⟨fuel, hf⟩ := h2
  obtain ⟨turned, rfl, rfl, rfl⟩ := open_bool Try.underlying4 (hval 3 4 v3 rfl rfl) h3
  clear hA0 hval0
  simp only [List.append_nil] at hW'
  obtain ⟨hacts, hlen⟩ := ints_of (by simpa [Value.cells] using hf)
  refine (walk F N a0 len cap turned W hacts hlen (bounds_i64 wF) (bounds_i64 wN)).mono fun e W' ⟨he, hb⟩ => ?_
  subst he
  exact ⟨_, rfl, _, _, _, [], _, [], hW', trodAll_cons_mk (shut_bool Try.underlying4 _) trodAll_mk0, trodAll_cons_mk (shut_int Try.underlying3 wF) (trodAll_cons_mk (shut_int Try.underlying3 wN) (trodAll_cons_mk (Below.trod laidOut (by kernel_rfl) (of_decide_eq_true (by kernel_rfl)) h2k hb (fun x hx => by simpa using hW'.lt x (by simp [hx]))) (trodAll_cons_mk (shut_bool Try.underlying4 _) trodAll_mk0))), rfl, hb.frame _, fun h => by cases h⟩

theorem said : Rows.ExtentApartSaid :=
  OpenClaim.holds_of_wide 4 Try.f4 rfl rfl rfl rfl rfl rfl rfl ⟨rfl, rfl, rfl, rfl, rfl⟩ rfl rfl rfl rfl rfl (by kernel_rfl) Try.func4 (by kernel_rfl)
    (of_decide_eq_true (by kernel_rfl)) (by unfold Func.isWrapper; first | (rw [if_pos (by decide +kernel)]; kernel_rfl) | (rw [if_neg (by decide +kernel)]; exact ⟨rfl, rfl⟩))
    (fun os started H enc _ => lifted os started H enc)
end Go.Proofs.Ytpnojoldcfghfaa.extentApart
namespace Go.Proofs.Ytpnojoldcfghfaa
theorem extentApart_said : Rows.ExtentApartSaid := extentApart.said
end Go.Proofs.Ytpnojoldcfghfaa
