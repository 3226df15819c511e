/- A give that is asked of the document's room; any call. -/
import Derived.Test.YtpnojoldcfghfaaExW
namespace Go.Proofs.Ytpnojoldcfghfaa
open Go.RowKit Go.Sort

/-- What a give leaves of it. -/
def Gives (w : World) (p d n : Nat) (ao : Option Addr) (cap : Nat) (F A N : Int) (L : List (Int × Int)) (e : Ending) (w' : World) : Prop :=
  ∃ B', Left w p d n ao cap F B' 0 (gErr F n A N L) e w' ∧ ∀ M, Given F (F + n) F n A N L M → Link F n B' M

set_option maxHeartbeats 8000000 in
set_option maxRecDepth 100000 in
theorem rgive_in (p d n cap : Nat) (ao : Option Addr) (F K A N : Int) (B : Nat → Bool) (w : World) (hR : Ref w p d n ao cap F B) (hk : ¬ K = 0) (hn : n ≤ 300) {L : List (Int × Int)} (hG : Good F (F + n) L) (hLk : Link F n B L) (g0 : 1 ≤ N) (g1 : F ≤ A) (g2 : A + N ≤ F + n) :
    Calls Try.prog 11 #[.pointer (some ⟨p, 0, none⟩), .agg #[.int .i64 K, .int .i64 A, .int .i64 N]] w (Gives w p d n ao cap F A N L) := by
  have HD := Lib.hid (dob_start (K := K) (A := A) (N := N) hR)
  have HW := Lib.hid (show within F n A N from ⟨g0, g1, g2⟩)
  have HG := Lib.hid hG
  have HLK := Lib.hid hLk
  clear hR hG hLk
  have a0 := HD.out.a0
  have a1 := HD.out.a1
  have a2 := HD.out.a2
  have t0 := HD.out.t0
  have t1 := HD.out.t1
  have z0 := HD.out.z0
  have z1 := HD.out.z1
  have q0 := HD.out.ref.first
  have q1 := HD.out.ref.free
  have b1 : decide (N < 1) = false := by simp; omega
  have b2 : decide ((n : Int) < N) = false := by simp; omega
  have b3 : decide (A < F) = false := by simp; omega
  have b4 : decide ((n : Int) - N < A - F) = false := by simp; omega
  have w1 : IntKind.i64.wrap (A - F) = A - F := IntWalk.i64_in _ (by omega)
  have w2 : IntKind.i64.wrap ((n : Int) - N) = (n : Int) - N := IntWalk.i64_in _ (by omega)
  go_enter Try.func11, Try.ntmps11
  go_wp2_with fail
  go_quiet (fail)
  replace HD : Hid (Dob w p d n ao cap F K A N B (((w.alloc (.cells #[.int .i64 K, .int .i64 A, .int .i64 N] 35)).alloc (.cells #[.int .i64 0, .int .i64 0] 32)).drewN nq)) := HD.out.later ⟨rfl, rfl, rfl, Nat.le_refl _, fun _ _ => rfl⟩
  clear a0 a1 a2 t0 t1 z0 z1 q0 q1 b1 b2 b3 b4 w1 w2
  generalize ((w.alloc (.cells #[.int .i64 K, .int .i64 A, .int .i64 N] 35)).alloc (.cells #[.int .i64 0, .int .i64 0] 32)).drewN nq = w2 at HD ⊢
  go_wp2_with fail
  go_loopw [8] (fun s8 wq => ∃ q : Nat, (q : Int) ≤ N ∧ s8 = .int .i64 q ∧ Dob w p d n ao cap F K A N B wq ∧ ∀ j : Nat, j < q → B ((A - F).toNat + j) = false) (fun s8 _ => N.toNat - (intOf s8).toNat)
  case atStart => exact ⟨0, by omega, rfl, HD.out, fun j hj => by omega⟩
  case round =>
    clear HD
    obtain ⟨q, hq, rfl, hD, hno⟩ := hrel
    have HD := Lib.hid hD
    have HNO := Lib.hid hno
    have a2 := hD.a2
    clear hD hno
    by_cases hqN : (q : Int) < N
    · have a1 := HD.out.a1
      have q0 := HD.out.ref.first
      have q1 := HD.out.ref.free
      obtain ⟨rfl, hpd⟩ := HD.out.ref.addr (by omega)
      obtain ⟨idx, hidx⟩ : ∃ idx : Nat, idx = (A - F).toNat + q := ⟨_, rfl⟩
      have hin : idx < n := by omega
      have e0 := HD.out.ref.data idx hin
      have w1 : IntKind.i64.wrap (A - F) = A - F := IntWalk.i64_in _ (by omega)
      have w2 : IntKind.i64.wrap (A - F + (q : Int)) = A - F + (q : Int) := IntWalk.i64_in _ (by omega)
      have j0 : (0 : Int) ≤ A - F + (q : Int) := by omega
      have j1 : A - F + (q : Int) < (n : Int) := by omega
      have j2 : (A - F + (q : Int)).toNat = idx := by omega
      cases hb : B idx with
      | true =>
        rw [hb] at e0
        have h5 : gErr F n A N L = 5 := link_hits HLK.out HW.out hqN (by rw [← hidx]; exact hb)
        have H5 := Lib.hid h5
        clear hb h5 hidx
        go_wp2_with fail
        go_quiet (fail)
        replace HD := Lib.hid (HD.out.later (W' := wr.drewN nq) ⟨rfl, rfl, rfl, Nat.le_refl _, fun _ _ => rfl⟩)
        clear a1 a2 q0 q1 e0
        generalize wr.drewN nq = w3 at HD ⊢
        have t0 := HD.out.t0
        have t1 := HD.out.t1
        have z0 := HD.out.z0
        have z1 := HD.out.z1
        go_wp2_with fail
        obtain ⟨r1, r2, r3, r4⟩ := HD.out.told (0) (5)
        generalize ((_ : World).setCell ⟨w.heap.size + 1, 0, none⟩ (.int .i64 (0))).setCell ⟨w.heap.size + 1, 1, none⟩ (.int .i64 (5)) = w9 at r1 r2 r3 r4 ⊢
        refine bodyPost_ret (v := .agg #[.int .i64 (0), .int .i64 (5)]) (by simp [results, Try.results11, go_sem, r3, r4]) rfl ⟨B, ⟨by rw [H5.out], r1, r2⟩, fun M hM => link_kept HLK.out hM (by rw [H5.out]; decide)⟩
      | false =>
        rw [hb] at e0
        have HB := Lib.hid hb
        have HI := Lib.hid hidx
        clear hb hidx
        go_wp2_with fail
        go_quiet (fail)
        go_wp2_with fail
        exact ⟨⟨q + 1, by omega, by go_num, HD.out.later ⟨rfl, rfl, rfl, Nat.le_refl _, fun _ _ => rfl⟩, fun j hj => by
          by_cases e : j = q
          · subst e; rw [← HI.out]; exact HB.out
          · exact HNO.out j (by omega)⟩, by simp [intOf]; omega⟩
    · have h0 : gErr F n A N L = 0 := link_free HLK.out HG.out HW.out fun j hj => HNO.out j (by omega)
      have H0 := Lib.hid h0
      clear h0 HNO
      have HD1 := Lib.hid (HD.out.cast (B' := reset F A 0 B) fun x _ => by unfold reset; rw [if_neg (by omega)])
      go_wp2_with fail
      go_loopw [9] (fun s9 wq => ∃ q : Nat, (q : Int) ≤ N ∧ s9 = .int .i64 q ∧ Dob w p d n ao cap F K A N (reset F A q B) wq) (fun s9 _ => N.toNat - (intOf s9).toNat)
      case atStart => exact ⟨0, by omega, rfl, HD1.out⟩
      case round =>
        clear HD HD1 a2
        obtain ⟨q, hq, rfl, hD⟩ := hrel
        have HD := Lib.hid hD
        have a2 := hD.a2
        clear hD
        by_cases hqN : (q : Int) < N
        · have a1 := HD.out.a1
          have q0 := HD.out.ref.first
          have q1 := HD.out.ref.free
          obtain ⟨rfl, hpd⟩ := HD.out.ref.addr (by omega)
          obtain ⟨idx, hidx⟩ : ∃ idx : Nat, idx = (A - F).toNat + q := ⟨_, rfl⟩
          have hin : idx < n := by omega
          have e0 := HD.out.ref.data idx hin
          have w1 : IntKind.i64.wrap (A - F) = A - F := IntWalk.i64_in _ (by omega)
          have w2 : IntKind.i64.wrap (A - F + (q : Int)) = A - F + (q : Int) := IntWalk.i64_in _ (by omega)
          have j0 : (0 : Int) ≤ A - F + (q : Int) := by omega
          have j1 : A - F + (q : Int) < (n : Int) := by omega
          have j2 : (A - F + (q : Int)).toNat = idx := by omega
          have ez := HD.out.ref.fd idx hin
          have hD9 := (HD.out.put idx true hin).cast (B' := reset F A ((q + 1 : Nat) : Int) B) (fun x _ => by
            unfold reset
            by_cases e : x = idx
            · rw [if_pos e, if_pos (by omega)]
            · rw [if_neg e]
              by_cases e2 : A ≤ F + (x : Int) ∧ F + (x : Int) < A + (q : Int)
              · rw [if_pos e2, if_pos (by omega)]
              · rw [if_neg e2, if_neg (by omega)])
          have HD9 := Lib.hid hD9
          have ld := HD.out.ld
          clear hD9 hidx
          go_wp2_with fail
          go_region
          all_goals go_wp2_with fail
          all_goals exact ⟨⟨q + 1, by omega, by go_num, HD9.out.later (Below.refl _ _).drew⟩, by simp [intOf]; omega⟩
        · have e : (q : Int) = N := by omega
          replace HD := Lib.hid (HD.out.cast (B' := reset F A N B) fun x _ => by rw [e])
          have t0 := HD.out.t0
          have t1 := HD.out.t1
          have z0 := HD.out.z0
          have z1 := HD.out.z1
          clear e
          go_wp2_with fail
          obtain ⟨r1, r2, r3, r4⟩ := HD.out.told (0) (0)
          generalize ((_ : World).setCell ⟨w.heap.size + 1, 0, none⟩ (.int .i64 (0))).setCell ⟨w.heap.size + 1, 1, none⟩ (.int .i64 (0)) = w9 at r1 r2 r3 r4 ⊢
          refine bodyPost_ret (v := .agg #[.int .i64 (0), .int .i64 (0)]) (by simp [results, Try.results11, go_sem, r3, r4]) rfl ⟨_, ⟨by rw [H0.out], r1, r2⟩, fun M hM => link_give HLK.out hM H0.out⟩

/-- ANY CALL. -/
theorem rdo_any (p d n cap : Nat) (ao : Option Addr) (F K A N : Int) (B : Nat → Bool) (w : World) (hR : Ref w p d n ao cap F B) (hn : n ≤ 300) (f0 : 0 ≤ F) (f1 : F ≤ 65536) {L : List (Int × Int)} (hG : Good F (F + n) L) (hLk : Link F n B L) (ha : A ≤ 9223372036854775807) :
    Calls Try.prog 11 #[.pointer (some ⟨p, 0, none⟩), .agg #[.int .i64 K, .int .i64 A, .int .i64 N]] w fun e w' => e = .returned (.agg #[.int .i64 (dAt K N L), .int .i64 (dErr F n K A N L)]) ∧ ∃ B', Ref w' p d n ao cap F B' ∧ Apart p d w w' ∧ ∀ M, Did F n K A N L M → Link F n B' M := by
  unfold dAt dErr Did
  by_cases hk : K = 0
  · simp only [if_pos hk]
    by_cases h1 : N < 1
    · obtain ⟨e1, e2⟩ := tErr_le (L := L) h1
      refine (rtake_low p d n cap ao F K A N B w hR hk h1).mono ?_
      rintro e w' ⟨rfl, h2, h3⟩
      exact ⟨by rw [e1, e2], B, h2, h3, fun M hM => link_same hLk hM (by omega)⟩
    · rcases spot_cases N L with h | ⟨P, a, k0, Q, rfl, hP, hk0⟩
      · have e1 : tErr N L = 2 := by rw [tErr, if_neg h1, spot_none h]; rfl
        have e2 : tAt N L = 0 := by rw [tAt, if_neg h1, spot_none h]; rfl
        refine (rtake_full p d n cap ao F K A N B w hR hk (by omega) hn f0 f1 hG hLk h).mono ?_
        rintro e w' ⟨rfl, h2, h3⟩
        exact ⟨by rw [e1, e2], B, h2, h3, fun M hM => link_same hLk hM (by omega)⟩
      · obtain ⟨e1, e2, _⟩ := took_cut hG (by omega) hP hk0
        refine (rtake_hit p d n cap ao F K A N B w hR hk (by omega) hn f0 f1 hG hLk hP hk0).mono ?_
        rintro e w' ⟨rfl, h2, h3⟩
        exact ⟨by rw [e1, e2], _, h2, h3, fun M hM => by have := link_take hLk hM e1; rwa [e2] at this⟩
  · simp only [if_neg hk]
    by_cases hw : within F n A N
    · refine (rgive_in p d n cap ao F K A N B w hR hk hn hG hLk hw.1 hw.2.1 hw.2.2).mono ?_
      rintro e w' ⟨B', ⟨rfl, h2, h3⟩, h4⟩
      exact ⟨rfl, B', h2, h3, h4⟩
    · have e1 : gErr F n A N L = 1 := by rw [gErr, if_neg hw]
      rw [e1]
      have hc : Calls Try.prog 11 #[.pointer (some ⟨p, 0, none⟩), .agg #[.int .i64 K, .int .i64 A, .int .i64 N]] w (Left w p d n ao cap F B 0 1) := by
        by_cases g0 : N < 1
        · exact rgive_1 p d n cap ao F K A N B w hR hk g0
        by_cases g1 : (n : Int) < N
        · exact rgive_2 p d n cap ao F K A N B w hR hk (by omega) g1
        by_cases g2 : A < F
        · exact rgive_3 p d n cap ao F K A N B w hR hk (by omega) (by omega) g2
        · exact rgive_4 p d n cap ao F K A N B w hR hk ha f0 (by omega) (by omega) (by omega) (by
            have : ¬ (A + N ≤ F + n) := fun h => hw ⟨by omega, by omega, h⟩
            omega)
      refine hc.mono ?_
      rintro e w' ⟨rfl, h2, h3⟩
      exact ⟨rfl, B, h2, h3, fun M hM => link_kept hLk hM (by omega)⟩

end Go.Proofs.Ytpnojoldcfghfaa
