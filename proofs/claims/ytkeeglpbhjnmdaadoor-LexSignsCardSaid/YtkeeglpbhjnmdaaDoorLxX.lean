/- What the document skips ahead of a token. -/
import Derived.Test.YtkeeglpbhjnmdaaDoorLxU
namespace Go.Proofs.YtkeeglpbhjnmdaaDoor
open Go.RowKit Go.Lib

theorem sdrewN {B : Nat} {w W : World} (h : Below B w W) (n : Nat) : Below B w (W.drewN n) := ⟨h.os, h.tape, h.output, h.size, h.block⟩
/-- Where the next token may begin, and on which line. -/
structure Skips (s : ByteArray) (at0 : Nat) (line0 : Int) (k : Nat) (ln : Int) : Prop where
  le : k ≤ s.size
  ge : at0 ≤ k
  l0 : line0 ≤ ln
  l1 : ln ≤ line0 + (k - at0)
  eq : ∀ acc, lexF (s.data.toList.drop at0) line0 acc = lexF (s.data.toList.drop k) ln acc
def SkipSaid (s : ByteArray) (at0 : Nat) (line0 : Int) (w : World) (e : Ending) (w' : World) : Prop := ∃ (k : Nat) (ln : Int), e = .returned (.tuple #[.int .i64 k, .int .i64 ln]) ∧ Skips s at0 line0 k ln ∧ Starts (s.data.toList.drop k) ∧ Below w.heap.size w w'
theorem SkipSaid.mk {s : ByteArray} {at0 : Nat} {line0 : Int} {w w' : World} {k : Nat} {ln : Int} (h : Skips s at0 line0 k ln) (hs : Starts (s.data.toList.drop k)) (hb : Below w.heap.size w w') : SkipSaid s at0 line0 w (.returned (.tuple #[.int .i64 k, .int .i64 ln])) w' := ⟨k, ln, rfl, h, hs, hb⟩
theorem Skips.line {s : ByteArray} {at0 : Nat} {line0 : Int} {k : Nat} {ln : Int} (h : Skips s at0 line0 k ln) {r : List UInt8} (hd : s.data.toList.drop k = 10 :: r) (hr : r = s.data.toList.drop (k + 1)) (hk : k < s.size) : Skips s at0 line0 (k + 1) (ln + 1) := by
  refine ⟨by omega, by have := h.ge; omega, by have := h.l0; omega, by have := h.l1; have := h.ge; omega, fun acc => ?_⟩
  rw [h.eq, hd, lexF_nl, hr]
theorem Skips.blank {s : ByteArray} {at0 : Nat} {line0 : Int} {k : Nat} {ln : Int} (h : Skips s at0 line0 k ln) {c : UInt8} {r : List UInt8} (hd : s.data.toList.drop k = c :: r) (hr : r = s.data.toList.drop (k + 1)) (hk : k < s.size) (h10 : c ≠ 10) (hb : c = 9 ∨ c = 13 ∨ c = 32) : Skips s at0 line0 (k + 1) ln := by
  refine ⟨by omega, by have := h.ge; omega, h.l0, by have := h.l1; have := h.ge; omega, fun acc => ?_⟩
  rw [h.eq, hd, lexF_blank r ln acc h10 hb, hr]
theorem Skips.rem {s : ByteArray} {at0 : Nat} {line0 : Int} {k m : Nat} {ln : Int} (h : Skips s at0 line0 k ln) {c : UInt8} {r : List UInt8} (hd : s.data.toList.drop k = c :: r) (hp : hasPrefix (c :: r) [45, 45] = true) (hm : (s.data.toList.drop k).dropWhile (fun c => c != 10) = s.data.toList.drop m) (hkm : k ≤ m) (hms : m ≤ s.size) : Skips s at0 line0 m ln := by
  refine ⟨hms, by have := h.ge; omega, h.l0, by have := h.l1; have := h.ge; omega, fun acc => ?_⟩
  rw [h.eq, ← hm, hd, lexF_rem ln acc hp]

/-- A byte's questions. -/
theorem byte_eq (c : UInt8) (z : Int) (n : Nat) (hz : z = (n : Int)) (hn : n < 256) : (((c.toNat : Int) == z) = true ∧ ((c.toNat : Int) != z) = false ∧ c = UInt8.ofNat n) ∨ (((c.toNat : Int) == z) = false ∧ ((c.toNat : Int) != z) = true ∧ c ≠ UInt8.ofNat n) := by
  subst hz
  by_cases g : c.toNat = n
  · refine Or.inl ⟨by simp [g], by simp [g], ?_⟩
    rw [← g]
    simp
  · refine Or.inr ⟨by simp; omega, by simp; omega, ?_⟩
    rintro rfl
    apply g
    simp
    omega

set_option maxHeartbeats 8000000 in
set_option maxRecDepth 100000 in
theorem skip_any (s : ByteArray) (hs : s.size ≤ 100000) (at0 : Nat) (h0 : at0 ≤ s.size) (line0 : Int) (hl0 : 0 ≤ line0) (hl1 : line0 ≤ 100001) (w : World) :
    Calls Tryd.prog 18 #[.string s, .int .i64 at0, .int .i64 line0] w (SkipSaid s at0 line0 w) := by
  have HL := Lib.hid (And.intro hl0 hl1)
  clear hl0 hl1
  go_enter Tryd.func18, Tryd.ntmps18
  go_wp2_with fail
  go_loopw [1, 2] (fun s4 s5 wr => ∃ (k : Nat) (ln : Int), s4 = .int .i64 k ∧ s5 = .int .i64 ln ∧ k ≤ s.size ∧ Skips s at0 line0 k ln ∧ Below w.heap.size w wr) (fun s4 _ _ => s.size - (RowKit.intOf s4).toNat)
  case atStart => exact ⟨at0, line0, rfl, rfl, h0, ⟨h0, Nat.le_refl _, Int.le_refl _, by omega, fun _ => rfl⟩, Below.refl _ _⟩
  case round =>
    obtain ⟨k, ln, rfl, rfl, hk, hsk, hb⟩ := hrel
    have hn0 := hsk.l0
    have hn1 := hsk.l1
    have hn2 := hsk.ge
    have hn3 := HL.out
    have HB := Lib.hid (And.intro hsk hb)
    clear hsk hb
    have ln0 : 0 ≤ ln := by omega
    have ln1 : ln ≤ 300000 := by omega
    clear hn0 hn1 hn2 hn3
    by_cases hlt : k < s.size
    · obtain ⟨c, hd, hsc⟩ := drop_cons_of hlt
      have hlt' : (k : Int) < (s.size : Int) := by omega
      have b0 : (0 : Int) ≤ (k : Int) := by omega
      have HD := Lib.hid hd
      clear hd
      have eln : IntKind.i64.wrap (ln + 1) = ln + 1 := by rw [IntKind.wrap_i64]; omega
      have ek : IntKind.i64.wrap ((k : Int) + 1) = (k : Int) + 1 := by rw [IntKind.wrap_i64]; omega
      have ek0 : (0 : Int) ≤ (k : Int) + 1 := by omega
      have mkS : ∀ (hne : c ≠ 10) (hbl : ¬ (c = 9 ∨ c = 13 ∨ c = 32)) (hp : hasPrefix (c :: s.data.toList.drop (k + 1)) [45, 45] = false), Starts (s.data.toList.drop k) := by
        intro hne hbl hp c' r' e
        rw [HD.out] at e
        obtain ⟨rfl, rfl⟩ := List.cons.inj e
        rw [HD.out]
        exact ⟨hne, hbl, hp⟩
      have HMK := Lib.hid mkS
      clear mkS
      rcases byte_eq c 45 45 rfl (by decide) with ⟨a1, a2, a3⟩ | ⟨a1, a2, a3⟩
      · have a0 : (c.toNat : Int) = 45 := by simpa using a1
        by_cases h2 : k + 1 < s.size
        · obtain ⟨d, hd2, hsd⟩ := drop_cons_of h2
          have h2' : (k : Int) + 1 < (s.size : Int) := by omega
          have HD2 := Lib.hid hd2
          clear hd2
          rcases byte_eq d 45 45 rfl (by decide) with ⟨d1, d2, d3⟩ | ⟨d1, d2, d3⟩
          · have d0 : (d.toNat : Int) = 45 := by simpa using d1
            have hp : hasPrefix (c :: s.data.toList.drop (k + 1)) [45, 45] = true := by
              rw [HD2.out, has_cons, has_cons, has_nil, a3, d3]
              decide
            have HP := Lib.hid (And.intro hp a3)
            clear hp a1 a2 a3 d1 d2 d3
            go_wp2_with fail
            go_loopw [1] (fun s1 wr => ∃ m : Nat, s1 = .int .i64 m ∧ k ≤ m ∧ m ≤ s.size ∧ Hid ((s.data.toList.drop k).dropWhile (fun c => c != 10) = (s.data.toList.drop m).dropWhile (fun c => c != 10)) ∧ Below w.heap.size w wr) (fun s1 _ => s.size - (RowKit.intOf s1).toNat)
            case atStart => exact ⟨k, rfl, Nat.le_refl _, hk, Lib.hid rfl, HB.out.2⟩
            case round =>
              obtain ⟨m, rfl, hm1, hm2, hm3, hbm⟩ := hrel
              have HM := Lib.hid (And.intro hm3.out hbm)
              clear hm3 hbm
              have em : IntKind.i64.wrap ((m : Int) + 1) = (m : Int) + 1 := by rw [IntKind.wrap_i64]; omega
              have em0 : (0 : Int) ≤ (m : Int) := by omega
              by_cases hml : m < s.size
              · obtain ⟨x, hdx, hsx⟩ := drop_cons_of hml
                have hml' : (m : Int) < (s.size : Int) := by omega
                have hmr := HM.out.1
                rw [hdx, List.dropWhile_cons] at hmr
                rcases byte_eq x 10 10 rfl (by decide) with ⟨x1, x2, x3⟩ | ⟨x1, x2, x3⟩
                · have hx10 : (x != 10) = false := by rw [x3]; decide
                  rw [hx10, if_neg (by decide), ← hdx] at hmr
                  have hkm : k ≠ m := by
                    intro e
                    subst e
                    rw [HD.out] at hdx
                    have := (List.cons.inj hdx).1
                    rw [HP.out.2, x3] at this
                    revert this
                    decide
                  have HS := Lib.hid (And.intro (HB.out.1.rem HD.out HP.out.1 hmr hm1 hm2) HM.out.2)
                  clear hdx hmr hx10 x3 a0 d0
                  go_wp2_with fail
                  exact ⟨⟨m, ln, rfl, rfl, hm2, HS.out.1, HS.out.2⟩, by simp [RowKit.intOf]; omega⟩
                · have hx10 : (x != 10) = true := by simpa using x3
                  rw [if_pos hx10] at hmr
                  have HS := Lib.hid (And.intro hmr HM.out.2)
                  clear hdx hmr hx10 x3 a0 d0
                  go_wp2_with fail
                  exact ⟨⟨m + 1, by go_num, by omega, by omega, Lib.hid HS.out.1, HS.out.2⟩, by simp [RowKit.intOf]; omega⟩
              · obtain rfl : m = s.size := by omega
                have hmr := HM.out.1
                have hnil : s.data.toList.drop s.size = [] := List.drop_eq_nil_of_le (by rw [← size_eq]; exact Nat.le_refl _)
                have hmr2 : (s.data.toList.drop k).dropWhile (fun c => c != 10) = s.data.toList.drop s.size := by rw [hmr, hnil]; rfl
                have HS := Lib.hid (And.intro (HB.out.1.rem HD.out HP.out.1 hmr2 hm1 hm2) HM.out.2)
                clear hmr hnil hmr2 a0 d0
                go_wp2_with fail
                exact ⟨⟨s.size, ln, rfl, rfl, Nat.le_refl _, HS.out.1, HS.out.2⟩, by simp [RowKit.intOf]; omega⟩
          · have HS := Lib.hid (HMK.out (by rw [a3]; decide) (by rw [a3]; decide) (by
              rw [HD2.out, has_cons, has_cons]
              have : (45 == d) = false := by simpa using Ne.symm d3
              rw [this]
              simp))
            clear a1 a2 a3 d3
            go_wp2_with fail
            go_ret2
            exact SkipSaid.mk HB.out.1 HS.out HB.out.2
        · have h2' : ¬ (k : Int) + 1 < (s.size : Int) := by omega
          have HS := Lib.hid (HMK.out (by rw [a3]; decide) (by rw [a3]; decide) (by
              rw [List.drop_eq_nil_of_le (by rw [← size_eq]; omega), has_cons]
              simp [has_nil']))
          clear a1 a2 a3
          go_wp2_with fail
          go_ret2
          exact SkipSaid.mk HB.out.1 HS.out HB.out.2
      · have hnp : hasPrefix (c :: s.data.toList.drop (k + 1)) [45, 45] = false := by
          rw [has_cons]
          have : (45 == c) = false := by simpa using Ne.symm a3
          rw [this, Bool.false_and]
        have HNP := Lib.hid hnp
        clear hnp a3
        rcases byte_eq c 9 9 rfl (by decide) with ⟨b1, b2, b3⟩ | ⟨b1, b2, b3⟩
        · have c0 : (c.toNat : Int) = 9 := by simpa using b1
          have HS := Lib.hid (HB.out.1.blank HD.out rfl hlt (by rw [b3]; decide) (Or.inl b3))
          clear a1 a2 b1 b2 b3
          go_wp2_with fail
          exact ⟨⟨k + 1, ln, by go_num, rfl, by omega, HS.out, HB.out.2⟩, by simp [RowKit.intOf]; omega⟩
        · have B3 := Lib.hid b3
          clear b3
          rcases byte_eq c 10 10 rfl (by decide) with ⟨c1, c2, c3⟩ | ⟨c1, c2, c3⟩
          · have c0 : (c.toNat : Int) = 10 := by simpa using c1
            have HS := Lib.hid (HB.out.1.line (r := s.data.toList.drop (k + 1)) (by rw [HD.out, c3]; rfl) rfl hlt)
            clear a1 a2 b1 b2 c1 c2 c3
            go_wp2_with fail
            exact ⟨⟨k + 1, ln + 1, by go_num, by go_num, by omega, HS.out, HB.out.2⟩, by simp [RowKit.intOf]; omega⟩
          · have C3 := Lib.hid c3
            clear c3
            rcases byte_eq c 13 13 rfl (by decide) with ⟨e1, e2, e3⟩ | ⟨e1, e2, e3⟩
            · have c0 : (c.toNat : Int) = 13 := by simpa using e1
              have HS := Lib.hid (HB.out.1.blank HD.out rfl hlt C3.out (Or.inr (Or.inl e3)))
              clear a1 a2 b1 b2 c1 c2 e1 e2 e3
              go_wp2_with fail
              exact ⟨⟨k + 1, ln, by go_num, rfl, by omega, HS.out, HB.out.2⟩, by simp [RowKit.intOf]; omega⟩
            · have E3 := Lib.hid e3
              clear e3
              rcases byte_eq c 32 32 rfl (by decide) with ⟨g1, g2, g3⟩ | ⟨g1, g2, g3⟩
              · have c0 : (c.toNat : Int) = 32 := by simpa using g1
                have HS := Lib.hid (HB.out.1.blank HD.out rfl hlt C3.out (Or.inr (Or.inr g3)))
                clear a1 a2 b1 b2 c1 c2 e1 e2 g1 g2 g3
                go_wp2_with fail
                exact ⟨⟨k + 1, ln, by go_num, rfl, by omega, HS.out, HB.out.2⟩, by simp [RowKit.intOf]; omega⟩
              · have HS := Lib.hid (HMK.out C3.out (by rintro (h | h | h); exact B3.out h; exact E3.out h; exact g3 h) HNP.out)
                clear g3
                go_wp2_with fail
                go_ret2
                exact SkipSaid.mk HB.out.1 HS.out HB.out.2
    · obtain rfl : k = s.size := by omega
      have hst : Starts (s.data.toList.drop s.size) := by
        intro c r e
        rw [List.drop_eq_nil_of_le (by rw [← size_eq]; exact Nat.le_refl _)] at e
        cases e
      have HST := Lib.hid hst
      clear hst
      go_wp2_with fail
      go_ret2
      exact SkipSaid.mk HB.out.1 HST.out HB.out.2

end Go.Proofs.YtkeeglpbhjnmdaaDoor
