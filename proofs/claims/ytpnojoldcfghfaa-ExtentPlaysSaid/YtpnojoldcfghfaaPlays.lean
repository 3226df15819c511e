/- ExtentPlays: for all arguments that can be read the statement's function returns true; each argument reads behind the call as before. -/
import Derived.Test.YtpnojoldcfghfaaRows
import Derived.Test.YtpnojoldcfghfaaExX
import Derived.Deep.RegionHeld3
namespace Go.Proofs.Ytpnojoldcfghfaa.extentPlays
open Go.ChangeShapes Go.WideShapes Go.ChangeAt Go.RowKit Go.Sort

theorem laidOut : laidOutB Try.prog = true := by kernel_rfl
theorem own : ownKnob Try.prog.godebug = none := by kernel_rfl

/-- Both rooms, in the midst of the law. -/
structure Both (w : World) (p g p2 d2 n : Nat) (ao : Option Addr) (cap : Nat) (F : Int) (B : Nat → Bool) (L : List (Int × Int)) (W : World) : Prop where
  mid : Mid w p g F n L W
  ref : Ref W p2 d2 n ao cap F B
  link : Link F n B L
  s1 : p ≠ p2
  s2 : p ≠ d2
  s3 : g ≠ p2
  s4 : g ≠ d2
  l2 : w.heap.size ≤ p2
  l3 : w.heap.size ≤ d2
section
variable {w W W' : World} {p g g' p2 d2 n cap : Nat} {ao : Option Addr} {F K A N : Int} {B B' : Nat → Bool} {L M : List (Int × Int)}
theorem Both.later (h : Both w p g p2 d2 n ao cap F B L W) (hb : Below W.heap.size W W') : Both w p g p2 d2 n ao cap F B L W' :=
  ⟨h.mid.later hb, h.ref.later hb, h.link, h.s1, h.s2, h.s3, h.s4, h.l2, h.l3⟩
/-- The program's room has been asked; the document's not yet. -/
structure Half (w : World) (p g p2 d2 n : Nat) (ao : Option Addr) (cap : Nat) (F K A N : Int) (B : Nat → Bool) (L M : List (Int × Int)) (W : World) : Prop where
  mid : Mid w p g F n M W
  ref : Ref W p2 d2 n ao cap F B
  link : Link F n B L
  good : Good F (F + n) L
  did : Did F n K A N L M
  s1 : p ≠ p2
  s2 : p ≠ d2
  s3 : g ≠ p2
  s4 : g ≠ d2
  l2 : w.heap.size ≤ p2
  l3 : w.heap.size ≤ d2
theorem Both.half (h : Both w p g p2 d2 n ao cap F B L W) (hR : Room W' p g' F n M) (hD : Did F n K A N L M) (hq : Apart p g W W') (hg : g' = g ∨ W.heap.size ≤ g') : Half w p g' p2 d2 n ao cap F K A N B L M W' := by
  have l4 := h.ref.lp
  have l5 := h.ref.ld
  have s3 := h.s3
  have s4 := h.s4
  exact ⟨h.mid.step hR hq hg, h.ref.apart hq (Ne.symm h.s1) (Ne.symm h.s3) (Ne.symm h.s2) (Ne.symm h.s4), h.link, h.mid.room.good, hD, h.s1, h.s2, by omega, by omega, h.l2, h.l3⟩
theorem Half.both (h : Half w p g p2 d2 n ao cap F K A N B L M W) (hR : Ref W' p2 d2 n ao cap F B') (hq : Apart p2 d2 W W') (hl : ∀ M, Did F n K A N L M → Link F n B' M) : Both w p g p2 d2 n ao cap F B' M W' := by
  have hb := h.mid.below.size
  refine ⟨⟨h.mid.room.move (hq.block p h.mid.room.lp h.s1 h.s2) (hq.block g h.mid.room.lg h.s3 h.s4) hq.size, h.mid.below.trans (hq.below h.l2 h.l3 hb), h.mid.lp, h.mid.lg⟩, hR, hl M h.did, h.s1, h.s2, h.s3, h.s4, h.l2, h.l3⟩
end

/-- One act of the argument, as it lies. -/
def ActAt (b o : Nat) (K A X : Int) (W : World) : Prop := W.cell? ⟨b, o, none⟩ = some (.int .i64 K) ∧ W.cell? ⟨b, o + 1, none⟩ = some (.int .i64 A) ∧ W.cell? ⟨b, o + 2, none⟩ = some (.int .i64 X)
theorem act_keep {b o S : Nat} {K A X : Int} {W W' : World} (hb : b < S) (h : W.cell? ⟨b, o, none⟩ = some (.int .i64 K) ∧ W.cell? ⟨b, o + 1, none⟩ = some (.int .i64 A) ∧ W.cell? ⟨b, o + 2, none⟩ = some (.int .i64 X)) (hk : Below S W W') : ActAt b o K A X W' :=
  ⟨(hk.cell (p := ⟨b, o, none⟩) hb).trans h.1, (hk.cell (p := ⟨b, o + 1, none⟩) hb).trans h.2.1, (hk.cell (p := ⟨b, o + 2, none⟩) hb).trans h.2.2⟩

set_option maxHeartbeats 16000000 in
set_option maxRecDepth 100000 in
theorem walk_narrow (F : Int) (n : Nat) (a0 : Option Addr) (len cap0 : Nat) (w : World) (hacts : Acts w a0 len) (f0 : 0 ≤ F) (f1 : F ≤ 65536) (n1 : n ≤ 300) (hl : len ≤ 60) :
    Calls Try.prog 3 #[.int .i64 F, .int .i64 n, .slice a0 len cap0] w fun e w' => e = .returned (.bool true) ∧ Below w.heap.size w w' := by
  have HACT := Lib.hid hacts
  clear hacts
  go_enter Try.func3, Try.ntmps3
  go_wp2_with fail
  refine (awake_any _).mono ?_
  rintro e w1 ⟨rfl, hB⟩
  have s1 := hB.size
  have HB := Lib.hid hB
  clear hB
  go_wp2_with fail
  refine (room_new F n w1 ⟨f0, f1⟩ ⟨by omega, by omega⟩).mono ?_
  rintro e w2 ⟨p, g, rfl, hR, hb, lp, lg⟩
  have HR := Lib.hid hR
  have HB2 := Lib.hid (onB HB.out hb)
  have lp2 := hR.lp
  have lg2 := hR.lg
  clear hR hb HB
  go_wp2_with fail
  refine (rnew_in F n w2 f0 f1 (by omega) (by omega)).mono ?_
  rintro e w3 ⟨p2, d2, ao, cap, rfl, hRf, hb, l3, l4⟩
  have s2 := HB2.out.size
  have HBO : Hid (Both w p g p2 d2 n ao cap F (fun _ => true) (whole F n) w3) := ⟨⟨HR.out.later hb, onB HB2.out hb, by omega, by omega⟩, hRf, link_start F n, by omega, by omega, by omega, by omega, by omega, by omega⟩
  clear hRf hb HR HB2 lp lg lp2 lg2 l3 l4
  go_wp2_with fail
  go_loopw [11] (fun s wr => ∃ (k g : Nat) (L : List (Int × Int)) (B : Nat → Bool), k ≤ len ∧ s = .int .i64 k ∧ Both w p g p2 d2 n ao cap F B L wr) (fun s _ => len - (intOf s).toNat)
  case atStart => exact ⟨0, g, _, _, Nat.zero_le _, rfl, HBO.out⟩
  case round =>
    clear HBO
    obtain ⟨k, g, L, B, hk, rfl, hBO⟩ := hrel
    have HBO := Lib.hid hBO
    clear hBO
    by_cases hlt : k < len
    · obtain ⟨b, off, rfl, hbl, K, A, X, hcell⟩ := HACT.out (by omega)
      obtain ⟨c0, c1, c2, c3⟩ := hcell k hlt
      replace c0 := (HBO.out.mid.below.cell (p := ⟨b, off + k * 3, none⟩) hbl).trans c0
      replace c1 := (HBO.out.mid.below.cell (p := ⟨b, off + k * 3 + 1, none⟩) hbl).trans c1
      replace c2 := (HBO.out.mid.below.cell (p := ⟨b, off + k * 3 + 2, none⟩) hbl).trans c2
      clear hcell
      generalize K k = K at c0
      generalize A k = A at c1 c3
      generalize X k = X at c2
      go_wp2_with fail
      go_region_held3 (fun W' => (W'.cell? ⟨b, off + k * 3, none⟩ = some (.int .i64 K) ∧ W'.cell? ⟨b, off + k * 3 + 1, none⟩ = some (.int .i64 A) ∧ W'.cell? ⟨b, off + k * 3 + 2, none⟩ = some (.int .i64 X)))
        (first
          | assumption
          | exact act_keep hbl (by assumption) hk9
          | exact act_keep (S := wr.heap.size) (Nat.lt_of_lt_of_le hbl HBO.out.mid.below.size) ⟨c0, c1, c2⟩ (Below.refl _ _).drew)
        (first
          | (go_at_call 10; refine (do_any p g F n K A X L _ (HBO.out.later (Below.refl _ _).drew).mid.room c3).mono ?_; rintro e w4 ⟨rfl, g', M, hR, hD, hq, hg⟩; have HH := Lib.hid ((HBO.out.later (Below.refl _ _).drew).half hR hD hq hg); have hk9 := hq.below HBO.out.mid.lp HBO.out.mid.lg HBO.out.mid.below.size; clear hR hD hq hg)
          | (go_at_call 11; refine (rdo_any p2 d2 n cap ao F K A X B _ HH.out.ref n1 f0 f1 HH.out.good HH.out.link c3).mono ?_; rintro e w5 ⟨rfl, B', hRf, hq, hlk⟩; have HBO5 := Lib.hid (HH.out.both hRf hq hlk); have hk9 := hq.below HH.out.l2 HH.out.l3 HH.out.mid.below.size; clear hRf hq hlk)
          | (go_at_call 13; refine (room_list p g' F n M _ HBO5.out.mid.room).mono ?_; rintro e w6 ⟨lo, lc, rfl, hL, hb⟩; have HL6 := Lib.hid hL; have HBO6 := Lib.hid (HBO5.out.later hb); have hk9 := hb.mono HBO5.out.mid.below.size; clear hL hb)
          | (go_at_call 14; refine (rlist p2 d2 n cap ao F B' _ HBO6.out.ref n1 f0 f1).mono ?_; rintro e w7 ⟨R, ro, rc, rfl, hL, hRd, hb, _⟩; have HL6 := Lib.hid (HL6.out.later hb); have hRM := reads_eq hRd HBO6.out.mid.room.good HBO6.out.link; have HSUM := Lib.hid (show cnt B' n = total M by rw [← hRM]; exact hRd.sum.symm); subst hRM; have HL7 := Lib.hid hL; have HBO7 := Lib.hid (HBO6.out.later hb); have hk9 := hb.mono HBO6.out.mid.below.size; clear hL hb hRd)
          | (go_at_call 12; refine (same_any lo ro R.length lc rc R _ rfl HL6.out HL7.out (by have := HBO7.out.mid.room.small; omega)).mono ?_; rintro e w8 ⟨rfl, hb⟩; have HBO8 := Lib.hid (HBO7.out.later hb); have hk9 := hb.mono HBO7.out.mid.below.size; clear hb)
          | (go_at_call 15; refine (room_free p g' F n R _ HBO8.out.mid.room).mono ?_; rintro e w9 ⟨rfl, hb⟩; have HBO9 := Lib.hid (HBO8.out.later hb); have hk9 := hb.mono HBO8.out.mid.below.size; clear hb)
          | (go_at_call 16; refine (rcount p2 d2 n cap ao F B' _ HBO9.out.ref n1).mono ?_; rintro e w10 ⟨rfl, rfl⟩; rw [HSUM.out]; have hk9 := Below.refl w.heap.size w10))
      go_wp2_with fail
      go_roundw
      case rel => exact ⟨k + 1, g', R, B', by omega, by go_num, HBO9.out⟩
      case measure => simp [intOf]; omega
    · obtain rfl : k = len := by omega
      go_wp2_with fail
      refine (room_list p g F n L _ HBO.out.mid.room).mono ?_
      rintro e w6 ⟨lo, lc, rfl, hL, hb⟩
      have HL6 := Lib.hid hL
      have HBO6 := Lib.hid (HBO.out.later hb)
      clear hL hb
      go_wp2_with fail
      refine (rlist p2 d2 n cap ao F B _ HBO6.out.ref n1 f0 f1).mono ?_
      rintro e w7 ⟨R, ro, rc, rfl, hL, hRd, hb, _⟩
      have HL6 := Lib.hid (HL6.out.later hb)
      have hRM := reads_eq hRd HBO6.out.mid.room.good HBO6.out.link
      subst hRM
      have HL7 := Lib.hid hL
      have HBO7 := Lib.hid (HBO6.out.later hb)
      clear hL hb hRd
      go_wp2_with fail
      refine (same_any lo ro R.length lc rc R _ rfl HL6.out HL7.out (by have := HBO7.out.mid.room.small; omega)).mono ?_
      rintro e w8 ⟨rfl, hb⟩
      have HE := Lib.hid (HBO7.out.later hb).mid.below
      clear hb
      go_wp2_with fail
      go_ret
      exact ⟨rfl, HE.out⟩

theorem new_out (F N : Int) (w : World) (h : ¬ (0 ≤ F ∧ F ≤ 65536 ∧ 0 ≤ N ∧ N ≤ 65536)) :
    Calls Try.prog 8 #[.int .i64 F, .int .i64 N] w fun e w' => e = .returned (.tuple #[.pointer none, .int .i64 1]) ∧ w' = w := by
  by_cases hF : 0 ≤ F ∧ F ≤ 65536
  · exact new_second F N w hF fun hN => h ⟨hF.1, hF.2, hN.1, hN.2⟩
  · exact new_first F N w hF

set_option maxRecDepth 100000 in
theorem walk (F N : Int) (a0 : Option Addr) (len cap : Nat) (w : World) (hacts : Acts w a0 len) (hlen : len ≤ 9223372036854775807) (bF : -9223372036854775808 ≤ F ∧ F ≤ 9223372036854775807) (bN : -9223372036854775808 ≤ N ∧ N ≤ 9223372036854775807) :
    Calls Try.prog 3 #[.int .i64 F, .int .i64 N, .slice a0 len cap] w fun e w' => e = .returned (.bool true) ∧ Below w.heap.size w w' := by
  by_cases g0 : 300 < N ∧ N ≤ 65536
  · obtain ⟨g0, g1⟩ := g0
    clear hacts
    go_enter Try.func3, Try.ntmps3
    go_wp2_with fail
    refine (awake_any _).mono ?_
    rintro e w1 ⟨rfl, hB⟩
    go_wp2_with fail
    go_ret
    exact ⟨rfl, hB⟩
  by_cases g2 : 60 < (len : Int)
  · clear hacts
    by_cases g3 : 300 < N
    · have g4 : 65536 < N := by omega
      clear g0
      go_enter Try.func3, Try.ntmps3
      go_wp2_with fail
      refine (awake_any _).mono ?_
      rintro e w1 ⟨rfl, hB⟩
      go_wp2_with fail
      go_ret
      exact ⟨rfl, hB⟩
    · clear g0
      go_enter Try.func3, Try.ntmps3
      go_wp2_with fail
      refine (awake_any _).mono ?_
      rintro e w1 ⟨rfl, hB⟩
      go_wp2_with fail
      go_ret
      exact ⟨rfl, hB⟩
  by_cases hv : 0 ≤ F ∧ F ≤ 65536 ∧ 0 ≤ N ∧ N ≤ 300
  · obtain ⟨n, rfl⟩ : ∃ n : Nat, N = n := ⟨N.toNat, by omega⟩
    exact walk_narrow F n a0 len cap w hacts hv.1 hv.2.1 (by omega) (by omega)
  · have HV : Hid (¬ (0 ≤ F ∧ F ≤ 65536 ∧ 0 ≤ N ∧ N ≤ 65536)) := by
      show ¬ _
      intro h
      omega
    clear hacts
    by_cases g3 : 300 < N
    · have g4 : 65536 < N := by omega
      clear g0 hv
      go_enter Try.func3, Try.ntmps3
      go_wp2_with fail
      refine (awake_any _).mono ?_
      rintro e w1 ⟨rfl, hB⟩
      have HB := Lib.hid hB
      clear hB
      go_wp2_with fail
      refine (new_out F N w1 HV.out).mono ?_
      rintro e w2 ⟨rfl, rfl⟩
      go_wp2_with fail
      refine (rnew_out F N _ HV.out).mono ?_
      rintro e w3 ⟨rfl, rfl⟩
      go_wp2_with fail
      go_ret
      exact ⟨rfl, HB.out⟩
    · clear g0 hv
      go_enter Try.func3, Try.ntmps3
      go_wp2_with fail
      refine (awake_any _).mono ?_
      rintro e w1 ⟨rfl, hB⟩
      have HB := Lib.hid hB
      clear hB
      go_wp2_with fail
      refine (new_out F N w1 HV.out).mono ?_
      rintro e w2 ⟨rfl, rfl⟩
      go_wp2_with fail
      refine (rnew_out F N _ HV.out).mono ?_
      rintro e w3 ⟨rfl, rfl⟩
      go_wp2_with fail
      go_ret
      exact ⟨rfl, HB.out⟩

set_option maxRecDepth 100000 in
theorem lifted (os : Os) (started : os.Started) (H : Type) (enc : TypeId × Value → H) :
    ReturnsInHanded {} Try.checked os 3 .any (Rows.extentPlaysSpec.pre6 enc Try.prog Try.f3 Rows.extentPlaysRow.domain false) (Rows.extentPlaysSpec.post enc Try.prog Try.f3 false true false false) := by
  refine returnsInHanded_of_change (C := Try.checked) own started (by kernel_rfl) Try.func3
    (ChangeSpec.witness6 (enc := enc) (C := Try.checked) false ⟨#[], #[.int .i64 0, .int .i64 0, .slice none 0 0], []⟩ 8 (by kernel_rfl) (by kernel_rfl) (by kernel_rfl) (by kernel_rfl)) ?_
  intro W base args ds gs before hval0 hW hcnd _
  have hval : ∀ (j : Nat) t v, Try.f3.params[j]? = some t → args[j]? = some v → Value.okWide Try.prog W .any base t v := hval0
  have hW' := hW
  obtain ⟨p, q, hA0, hV, rfl, hfz, hnd⟩ := hW
  have hA : DataW.TrodAll enc Try.prog W 0 (fun _ => true) true Try.f3.params.toList args.toList ds p := hA0
  rw [Try.params3] at hA hval
  obtain ⟨v0, vs0, d0, ds0, p0, q0, hargs, rfl, rfl, h0, r0⟩ := trodAll_cons hA
  obtain ⟨v1, vs1, d1, ds1, p1, q1, rfl, rfl, rfl, h1, r1⟩ := trodAll_cons r0
  obtain ⟨v2, vs2, d2, ds2, p2, q2, rfl, rfl, rfl, h2, r2⟩ := trodAll_cons r1
  obtain ⟨rfl, rfl, rfl⟩ := trodAll_nil r2
  obtain rfl : args = #[v0, v1, v2] := by cases args; simp_all
  obtain ⟨rfl, rfl⟩ := trodVars_none hV
  obtain ⟨F, rfl, rfl, rfl, wF⟩ := open_int Try.underlying3 (hval 0 3 v0 rfl rfl) h0
  obtain ⟨N, rfl, rfl, rfl, wN⟩ := open_int Try.underlying3 (hval 1 3 v1 rfl rfl) h1
  have h2k := h2
  obtain ⟨a0, len, cap, rfl⟩ := okWide_slice Try.underlying22 (hval 2 22 v2 rfl rfl)
  obtain ⟨fuel, hf⟩ := h2
  clear hA0 hval0
  simp only [List.append_nil] at hW'
  obtain ⟨hacts, hlen⟩ := acts_of (by simpa [Value.cells] using hf)
  refine (walk F N a0 len cap W hacts hlen (bounds_i64 wF) (bounds_i64 wN)).mono fun e W' ⟨he, hb⟩ => ?_
  subst he
  exact ⟨_, rfl, _, _, _, [], _, [], hW', trodAll_cons_mk (shut_bool Try.underlying4 _) trodAll_mk0, trodAll_cons_mk (shut_int Try.underlying3 wF) (trodAll_cons_mk (shut_int Try.underlying3 wN) (trodAll_cons_mk (Below.trod laidOut (by kernel_rfl) (of_decide_eq_true (by kernel_rfl)) h2k hb (fun x hx => by simpa using hW'.lt x (by simp [hx]))) trodAll_mk0)), rfl, hb.frame _, fun h => by cases h⟩

theorem said : Rows.ExtentPlaysSaid :=
  OpenClaim.holds_of_wide 3 Try.f3 rfl rfl rfl rfl rfl rfl rfl ⟨rfl, rfl, rfl, rfl, rfl⟩ rfl rfl rfl rfl rfl (by kernel_rfl) Try.func3 (by kernel_rfl)
    (of_decide_eq_true (by kernel_rfl)) (by unfold Func.isWrapper; first | (rw [if_pos (by decide +kernel)]; kernel_rfl) | (rw [if_neg (by decide +kernel)]; exact ⟨rfl, rfl⟩))
    (fun os started H enc _ => lifted os started H enc)
end Go.Proofs.Ytpnojoldcfghfaa.extentPlays
namespace Go.Proofs.Ytpnojoldcfghfaa
theorem extentPlays_said : Rows.ExtentPlaysSaid := extentPlays.said
end Go.Proofs.Ytpnojoldcfghfaa
