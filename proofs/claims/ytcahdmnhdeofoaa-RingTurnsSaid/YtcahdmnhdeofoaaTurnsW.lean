/- RingTurns: its walk. -/
import Derived.Test.YtcahdmnhdeofoaaRiN
namespace Go.Proofs.Ytcahdmnhdeofoaa
open Go.RowKit Go.Shelf

set_option maxHeartbeats 16000000 in
set_option maxRecDepth 100000 in
theorem turns_walk (a : Nat) (all : Bool) (w : World) (ha : a ≤ 255) :
    Calls Try.prog 6 #[.int .u8 a, .bool all] w fun e w' => e = .returned (.bool true) ∧ Below w.heap.size w w' := by
  go_enter Try.func6, Try.ntmps6
  go_wp2_with fail
  refine (awake_any _).mono ?_
  rintro e w1 ⟨rfl, hB⟩
  have HB1 := Lib.hid hB
  clear hB
  go_wp2_with fail
  obtain ⟨N, hN⟩ : ∃ N : Nat, (a : Int) % 30 + 1 = N := ⟨((a : Int) % 30 + 1).toNat, by omega⟩
  have n0 : 1 ≤ N := by omega
  have n1 : N ≤ 30 := by omega
  have e1 : 3 * ((a : Int) % 30 + 1) + 1 = ((3 * N + 1 : Nat) : Int) := by omega
  rw [e1, hN]
  generalize (a : Int) % 30 = a' at *
  refine (made_in (3 * N + 1) w1 (by omega) (by omega)).mono ?_
  rintro e w2 ⟨s, q, rfl, hn, hR, _, _, _, _, l1, l2, l3, hb⟩
  have HB2 := Lib.hid (onB' HB1.out hb)
  have hL : w.heap.size ≤ s.r ∧ w.heap.size ≤ s.p ∧ w.heap.size ≤ s.d := by
    have := HB1.out.size
    exact ⟨by omega, by omega, by omega⟩
  have HL := Lib.hid hL
  have HR2 := Lib.hid hR
  clear hb hR HB1 hL l1 l2 l3 e1
  go_wp2_with fail
  go_loopw [10] (fun s10 wr => ∃ k : Nat, k ≤ N ∧ s10 = .int .i64 k ∧ Ring s ⟨steps k, [], [], []⟩ wr ∧ Below w.heap.size w wr) (fun s10 _ => N - (intOf s10).toNat)
  case atStart => exact ⟨0, Nat.zero_le _, rfl, HR2.out, HB2.out⟩
  case round =>
    obtain ⟨k, hk, rfl, hR, hB⟩ := hrel
    by_cases hlt : k < N
    · have hlt' : (k : Int) < (N : Int) := by omega
      have HB := Lib.hid hB
      have HR := Lib.hid hR
      clear hR hB HR2 HB2
      go_wp2_with fail
      refine (ring_grow s _ wr HR.out (3 * (k : Int) + 1) (by rw [hn]; simpa [Rows.all, steps] using steps_fit (n := 3 * N + 1) (k + 1) (by omega)) (by simp [Rows.all, steps_length]; omega)).mono ?_
      rintro e w3 ⟨rfl, hR, ht⟩
      have HB3 := Lib.hid (HB.out.trans (ht.below HL.out.1 HL.out.2.1 HL.out.2.2 HB.out.size))
      have HR3 := Lib.hid (show Ring s ⟨steps (k + 1), [], [], []⟩ w3 from hR)
      clear hR ht HB HR
      go_wp2_with fail
      exact ⟨⟨k + 1, by omega, by go_num, HR3.out, HB3.out⟩, by simp [intOf]; omega⟩
    · obtain rfl : k = N := by omega
      have HB := Lib.hid hB
      have HR := Lib.hid hR
      clear hR hB HR2 HB2 hk hlt
      go_wp2_with fail
      refine (ring_list s _ wr HR.out).mono ?_
      rintro e w3 ⟨v0, v1, v2, v3, rfl, r0, _, _, _, hR, ht⟩
      have hbt := ht.below HL.out.1 HL.out.2.1 HL.out.2.2 HB.out.size
      have hsz : w.heap.size ≤ wr.heap.size := HB.out.size
      have hl2 : s.r < wr.heap.size ∧ s.p < wr.heap.size ∧ s.d < wr.heap.size := by
        obtain ⟨_, _, _, hl, _⟩ := HR.out
        exact ⟨hl.lr, hl.lp, hl.ld⟩
      have HB3 := Lib.hid (HB.out.trans hbt)
      have HR3 := Lib.hid hR
      simp only at r0
      obtain ⟨M, hM⟩ : ∃ M, wr.heap.size = M := ⟨_, rfl⟩
      rw [hM] at hl2 r0
      obtain ⟨ao, ac, rfl, hao⟩ := r0
      have hlen := steps_length k
      have hsl := steps_fit (n := 3 * k + 1) k (Nat.le_refl _)
      generalize steps k = L at HR3 hao hlen hsl ⊢
      have HROW := Lib.hid (show Row w3 M w3.heap.size (.slice ao L.length ac) L from ⟨ao, ac, rfl, hao⟩)
      clear hR ht hbt hao HB HR hM
      rw [hlen] at HROW ⊢
      have sf0 := seg_field0
      have sf3 := seg_field3
      go_wp2_with fail
      go_loopw [12] (fun s12 wr => ∃ i : Nat, i ≤ k ∧ s12 = .int .i64 i ∧ Ring s ⟨L.drop i, [], [], L.take i⟩ wr ∧ Below w.heap.size w wr ∧ Row wr M w3.heap.size (.slice ao k ac) L) (fun s12 _ => k - (intOf s12).toNat)
      case atStart =>
        refine ⟨0, Nat.zero_le _, rfl, ?_, HB3.out, HROW.out⟩
        simpa using HR3.out
      case round =>
        obtain ⟨i, hi, rfl, hR, hB, hrow⟩ := hrel
        by_cases hlt : i < k
        · have hlt' : (i : Int) < (k : Int) := by omega
          have hLi : L[i]? = some (L[i]'(by omega)) := List.getElem?_eq_getElem (by omega)
          have hd : L.drop i = L[i]'(by omega) :: L.drop (i + 1) := List.drop_eq_getElem_cons (by omega)
          have htk : L.take (i + 1) = L.take i ++ [L[i]'(by omega)] := List.take_succ_eq_append_getElem (by omega)
          obtain ⟨ao', ac', e, hao⟩ := id hrow
          cases e
          obtain ⟨g, rfl, hg1, hg2, hgc⟩ := hao (by omega)
          have cx := hgc i _ hLi
          generalize L[i]'(by omega) = c at hLi hd htk cx
          have HB := Lib.hid hB
          have HR := Lib.hid hR
          have HW := Lib.hid hrow
          clear hR hB HR3 hao hgc hrow
          go_wp2_with fail
          refine (ring_alloc s _ wr HR.out c (L.drop (i + 1)) hd).mono ?_
          rintro e w4 ⟨rfl, hR, ht⟩
          have HB4 := Lib.hid (HB.out.trans (ht.below HL.out.1 HL.out.2.1 HL.out.2.2 HB.out.size))
          have HR4 : Hid (Ring s ⟨L.drop (i + 1), [], [], L.take (i + 1)⟩ w4) := Lib.hid (by
            have he : Rows.alloc ⟨L.drop i, [], [], L.take i⟩ = ⟨L.drop (i + 1), [], [], L.take (i + 1)⟩ := by
              simp [Rows.alloc, hd, htk]
            rw [← he]
            exact hR)
          have c4 := ht.cell cx (by simp only; omega) (by simp only; omega) (by simp only; omega)
          have HW4 := Lib.hid (HW.out.same (W' := w4) fun b o h1 _ h3 _ => (ht.block b (Array.getElem?_eq_some_iff.1 h3).1 (by omega) (by omega) (by omega)).trans h3)
          clear hR ht HB HR HW cx hd htk
          go_wp2_with fail
          exact ⟨⟨i + 1, by omega, by go_num, HR4.out, HB4.out, HW4.out⟩, by simp [intOf]; omega⟩
        · obtain rfl : i = k := by omega
          have e1 : L.drop i = [] := List.drop_eq_nil_of_le (by omega)
          have e2 : L.take i = L := List.take_of_length_le (by omega)
          rw [e1, e2] at hR
          have HB := Lib.hid hB
          have HR := Lib.hid hR
          have HW := Lib.hid hrow
          clear hR hB HR3 hrow e1 e2 hi hlt HB3 HROW
          go_wp2_with fail
          refine (ring_list s _ wr HR.out).mono ?_
          rintro e w4 ⟨y0, y1, y2, y3, rfl, _, _, _, r3, hR, ht⟩
          have HB4 := Lib.hid (HB.out.trans (ht.below HL.out.1 HL.out.2.1 HL.out.2.2 HB.out.size))
          have HR4 := Lib.hid hR
          have hw4 := HW.out.same (W' := w4) fun b o h1 _ h3 _ => (ht.block b (Array.getElem?_eq_some_iff.1 h3).1 (by omega) (by omega) (by omega)).trans h3
          have HW4 := Lib.hid hw4
          have hin := ints_any y3 (.slice ao i ac) L L _ _ _ _ w4 r3 hw4 (by omega) (by omega)
          rw [decide_eq_true rfl] at hin
          have HIN := Lib.hid hin
          clear hR ht HB HR HW r3 hw4 hin
          go_wp2_with fail
          refine HIN.out.mono ?_
          rintro e w5 ⟨rfl, hb5⟩
          have HB5 := Lib.hid (onB' HB4.out hb5)
          have HR5 := Lib.hid (HR4.out.later hb5)
          have HW5 := Lib.hid (HW4.out.same (W' := w5) fun b o h1 _ h3 _ => (hb5.block b (Array.getElem?_eq_some_iff.1 h3).1).trans h3)
          clear hb5 HIN HB4 HR4 HW4
          go_wp2_with fail
          refine (ring_begin s _ w5 HR5.out rfl rfl).mono ?_
          rintro e w6 ⟨rfl, hR, ht⟩
          have HB6 := Lib.hid (HB5.out.trans (ht.below HL.out.1 HL.out.2.1 HL.out.2.2 HB5.out.size))
          have HR6 := Lib.hid (show Ring s ⟨[], L, [], []⟩ w6 from hR)
          have HW6 := Lib.hid (HW5.out.same (W' := w6) fun b o h1 _ h3 _ => (ht.block b (Array.getElem?_eq_some_iff.1 h3).1 (by omega) (by omega) (by omega)).trans h3)
          clear hR ht HB5 HR5 HW5
          have hq := eqIn_four
          cases all with
          | false =>
            go_wp2_with fail
            go_loopw [15] (fun s15 wr => s15 = .int .i64 0 ∧ w6 = wr) (fun _ _ => 0)
            case atStart => exact ⟨rfl, rfl⟩
            case round =>
              obtain ⟨rfl, rfl⟩ := hrel
              have hlt' : (0 : Int) < (i : Int) := by omega
              go_wp2_with fail
              refine (ring_end s _ w6 HR6.out rfl).mono ?_
              rintro e w7 ⟨rfl, hR, ht⟩
              have HB7 := Lib.hid (HB6.out.trans (ht.below HL.out.1 HL.out.2.1 HL.out.2.2 HB6.out.size))
              have HR7 := Lib.hid (show Ring s ⟨L, [], [], []⟩ w7 from hR)
              have HW7 := Lib.hid (HW6.out.same (W' := w7) fun b o h1 _ h3 _ => (ht.block b (Array.getElem?_eq_some_iff.1 h3).1 (by omega) (by omega) (by omega)).trans h3)
              clear hR ht HB6 HR6 HW6
              go_wp2_with fail
              refine (ring_counts s _ w7 HR7.out).mono ?_
              rintro e w8 ⟨rfl, hb⟩
              have HB8 := Lib.hid (onB' HB7.out hb)
              have HR8 := Lib.hid (HR7.out.later hb)
              have HW8 := Lib.hid (HW7.out.same (W' := w8) fun b o h1 _ h3 _ => (hb.block b (Array.getElem?_eq_some_iff.1 h3).1).trans h3)
              clear hb HB7 HR7 HW7
              simp only [List.length_nil, Int.natCast_zero, hlen]
              go_wp2_with fail
              have hb9 : Below w8.heap.size w8 (w8.alloc (.cells #[.int .i64 i, .int .i64 0, .int .i64 0, .int .i64 0] 43)) := (Below.refl _ _).alloc (Nat.le_refl _) _
              have HB9 := Lib.hid (onB' HB8.out hb9)
              have HR9 := Lib.hid (HR8.out.later hb9)
              have HW9 := Lib.hid (HW8.out.same (W' := (w8.alloc (.cells #[.int .i64 i, .int .i64 0, .int .i64 0, .int .i64 0] 43))) fun b o h1 _ h3 _ => (hb9.block b (Array.getElem?_eq_some_iff.1 h3).1).trans h3)
              generalize (w8.alloc (.cells #[.int .i64 i, .int .i64 0, .int .i64 0, .int .i64 0] 43)) = w9 at *
              clear hb9 HB8 HR8 HW8
              refine (ring_list s _ w9 HR9.out).mono ?_
              rintro e x4 ⟨y0, y1, y2, y3, rfl, r0, _, _, _, hR, ht⟩
              have HBx := Lib.hid (HB9.out.trans (ht.below HL.out.1 HL.out.2.1 HL.out.2.2 HB9.out.size))
              have hw4 := HW9.out.same (W' := x4) fun b o h1 _ h3 _ => (ht.block b (Array.getElem?_eq_some_iff.1 h3).1 (by omega) (by omega) (by omega)).trans h3
              have hin := ints_any y0 (.slice ao i ac) L L _ _ _ _ x4 r0 hw4 (by omega) (by omega)
              rw [decide_eq_true rfl] at hin
              have HIN := Lib.hid hin
              clear hR ht HB9 HR9 HW9 r0 hw4 hin
              go_wp2_with fail
              refine HIN.out.mono ?_
              rintro e x5 ⟨rfl, hb5⟩
              have HBy := Lib.hid (onB' HBx.out hb5)
              clear hb5 HIN HBx
              go_wp2_with fail
              go_ret
              exact ⟨rfl, HBy.out⟩
          | true =>
            go_wp2_with fail
            go_loopw [15] (fun s15 wr => ∃ j : Nat, j ≤ i ∧ s15 = .int .i64 j ∧ Ring s ⟨[], L.drop j, [], (L.take j).reverse⟩ wr ∧ Below w.heap.size w wr ∧ Row wr M w3.heap.size (.slice ao i ac) L) (fun s15 _ => i - (intOf s15).toNat)
            case atStart =>
              refine ⟨0, Nat.zero_le _, rfl, ?_, HB6.out, HW6.out⟩
              simpa using HR6.out
            case round =>
              obtain ⟨j, hj, rfl, hR, hB, hrow⟩ := hrel
              by_cases hlt : j < i
              · have hlt' : (j : Int) < (i : Int) := by omega
                have hLi : L[j]? = some (L[j]'(by omega)) := List.getElem?_eq_getElem (by omega)
                have hd : L.drop j = L[j]'(by omega) :: L.drop (j + 1) := List.drop_eq_getElem_cons (by omega)
                have htk : L.take (j + 1) = L.take j ++ [L[j]'(by omega)] := List.take_succ_eq_append_getElem (by omega)
                obtain ⟨ao', ac', e, hao⟩ := id hrow
                cases e
                obtain ⟨g, rfl, hg1, hg2, hgc⟩ := hao (by omega)
                have cx := hgc j _ hLi
                generalize L[j]'(by omega) = c at hLi hd htk cx
                have HB := Lib.hid hB
                have HR := Lib.hid hR
                have HW := Lib.hid hrow
                clear hR hB HR6 HB6 HW6 hao hgc hrow
                go_wp2_with fail
                refine (ring_shade s _ wr HR.out c (by rw [hd]; simp)).mono ?_
                rintro e x4 ⟨rfl, hR, ht⟩
                have HB4 := Lib.hid (HB.out.trans (ht.below HL.out.1 HL.out.2.1 HL.out.2.2 HB.out.size))
                have HR4 : Hid (Ring s ⟨[], L.drop (j + 1), [c], (L.take j).reverse⟩ x4) := Lib.hid (by
                  have he : Rows.shade ⟨[], L.drop j, [], (L.take j).reverse⟩ c = ⟨[], L.drop (j + 1), [c], (L.take j).reverse⟩ := by
                    simp [Rows.shade, hd]
                  rw [← he]
                  exact hR)
                have HW4 := Lib.hid (HW.out.same (W' := x4) fun b o h1 _ h3 _ => (ht.block b (Array.getElem?_eq_some_iff.1 h3).1 (by omega) (by omega) (by omega)).trans h3)
                clear hR ht HB HR HW cx hd
                go_wp2_with fail
                refine (ring_done s _ x4 HR4.out c [] rfl).mono ?_
                rintro e x5 ⟨rfl, hR, ht⟩
                have HB5 := Lib.hid (HB4.out.trans (ht.below HL.out.1 HL.out.2.1 HL.out.2.2 HB4.out.size))
                have HR5 : Hid (Ring s ⟨[], L.drop (j + 1), [], (L.take (j + 1)).reverse⟩ x5) := Lib.hid (by
                  have he : Rows.done ⟨[], L.drop (j + 1), [c], (L.take j).reverse⟩ = ⟨[], L.drop (j + 1), [], (L.take (j + 1)).reverse⟩ := by
                    simp [Rows.done, htk]
                  rw [← he]
                  exact hR)
                have HW5 := Lib.hid (HW4.out.same (W' := x5) fun b o h1 _ h3 _ => (ht.block b (Array.getElem?_eq_some_iff.1 h3).1 (by omega) (by omega) (by omega)).trans h3)
                clear hR ht HB4 HR4 HW4 htk
                go_wp2_with fail
                exact ⟨⟨j + 1, by omega, by go_num, HR5.out, HB5.out, HW5.out⟩, by simp [intOf]; omega⟩
              · obtain rfl : j = i := by omega
                have e1 : L.drop j = [] := List.drop_eq_nil_of_le (by omega)
                have e2 : L.take j = L := List.take_of_length_le (by omega)
                rw [e1, e2] at hR
                have HB := Lib.hid hB
                have HR := Lib.hid hR
                clear hR hB HR6 HB6 HW6 hrow e1 e2 hj hlt
                go_wp2_with fail
                refine (ring_end s _ wr HR.out rfl).mono ?_
                rintro e x7 ⟨rfl, hR, ht⟩
                have HB7 := Lib.hid (HB.out.trans (ht.below HL.out.1 HL.out.2.1 HL.out.2.2 HB.out.size))
                have HR7 := Lib.hid (show Ring s ⟨[], [], [], L.reverse⟩ x7 from hR)
                clear hR ht HB HR
                go_wp2_with fail
                refine (ring_counts s _ x7 HR7.out).mono ?_
                rintro e x8 ⟨rfl, hb⟩
                have HB8 := Lib.hid (onB' HB7.out hb)
                clear hb HB7 HR7
                simp only [List.length_nil, Int.natCast_zero, List.length_reverse, hlen]
                go_wp2_with fail
                go_ret
                exact ⟨rfl, HB8.out.alloc HB8.out.size _⟩

end Go.Proofs.Ytcahdmnhdeofoaa
