/- Alloc. -/
import Derived.Test.YtbjlpmjalidfkaaHpH
namespace Go.Proofs.Ytbjlpmjalidfkaa
open Go.RowKit

/-- An object's words have been written: what it is, and noughts. -/
structure Wrote (x : HSpot) (R' : Nat → Rows) (D D' : Nat → Int) (at' size word : Int) : Prop where
  hd : D' at'.toNat = word
  zero : ∀ k, 0 ≤ k → k < size → D' (at' + 3 + k).toNat = 0
  keep : ∀ m : Nat, ((m : Int) < at' ∨ at' + size + 3 ≤ m) → (∀ i, i ≤ x.k → ¬ Links (R' i) m) → D' m = D m

/-- What Alloc does, by what Pack tells. -/
def AllocsE (pe pw : Int) (x : HSpot) (T : Nat → Nat) (D : Nat → Int) (R : Nat → Rows) (top par : Int) (L : List (Int × Int)) (size : Int) (w : World) (e : Ending) (w' : World) : Prop :=
  (pe ≠ 0 ∧ e = .returned (.tuple #[.int .i64 0, .int .i64 pe]) ∧ HLies x T D R top par L w' ∧ HTurn T T w w') ∨
  (pe = 0 ∧ ∃ (at' : Int) (T' : Nat → Nat) (D' : Nat → Int) (R' : Nat → Rows) (top' : Int) (M : List (Int × Int)), e = .returned (.tuple #[.int .i64 at', .int .i64 0]) ∧ HLies x T' D' R' top' par M w' ∧ HTurn T T' w w' ∧
    AllocP x R top L size at' R' top' M ∧ Wrote x R' D D' at' size pw) ∨
  (pe = 0 ∧ ∃ T', e = .returned (.tuple #[.int .i64 0, .int .i64 2]) ∧ HLies x T' D R top par L w' ∧ HTurn T T' w w' ∧ FullP x R top L size)

theorem clear_link {k : Nat} {R : Nat → Rows} {at' size : Int} (hs : 0 ≤ size) (hc : ∀ i, i ≤ k → ∀ c, c ∈ (R i).all → c = at' ∨ c + 3 ≤ at' ∨ at' + size + 3 ≤ c) {i : Nat} (hi : i ≤ k) {m : Nat} (hl : Links (R i) m) : (m : Int) ≠ at' ∧ ∀ j, 0 ≤ j → j < size → (m : Int) ≠ at' + 3 + j := by
  obtain ⟨c, hm, h⟩ := hl
  have := hc i hi c hm
  exact ⟨by omega, fun j h1 h2 => by omega⟩

set_option maxHeartbeats 8000000 in
set_option maxRecDepth 100000 in
theorem alloc_any (x : HSpot) (T : Nat → Nat) (D : Nat → Int) (R : Nat → Rows) (top par : Int) (L : List (Int × Int)) (w : World) (h : HLies x T D R top par L w) (hI : HInv x D R top L) (kind aux size : Int) :
    Calls Try.prog 21 #[.pointer (some ⟨x.h, 0, none⟩), .int .i64 kind, .int .i64 aux, .int .i64 size] w (AllocsE (Ce.pe kind size aux par) (Ce.pw kind size aux par) x T D R top par L size w) := by
  have c6 := h.par
  have hG : Ex.Good x.lim (x.lim + (x.n - x.lim : Int)) L := by
    obtain ⟨cb, cap, g, -, -, -, hR⟩ := h.rest
    exact hR.good
  have hp := fun w => Ce.pack_any kind size aux par w
  have H := Lib.hid h
  have HI := Lib.hid hI
  have HG := Lib.hid hG
  have HP := Lib.hid hp
  have hfit : Ce.pe kind size aux par = 0 → 0 ≤ size ∧ size ≤ 31 := fun e => ((Ce.pe_fit _ _ _ _).1 e).2.1
  have HFT := Lib.hid hfit
  clear h hI hG hp hfit
  generalize Ce.pe kind size aux par = pe at *
  generalize Ce.pw kind size aux par = pw at *
  go_enter Try.func21, Try.ntmps21
  go_wp2_with fail
  refine (HP.out w).mono ?_
  rintro e w2 ⟨rfl, hb⟩
  have HB := Lib.hid (And.intro hb (H.out.later hb))
  clear hb c6
  by_cases g0 : pe = 0
  · subst g0
    obtain ⟨s0, s1⟩ := HFT.out rfl
    go_wp2_with fail
    refine (take_any x T D R top par L w2 HB.out.2 HI.out size ⟨s0, s1⟩).mono ?_
    intro e w3 h3
    rcases h3.gets s0 with ⟨at', T', D1, R', top', M, rfl, h4, t4, hA, hk⟩ | ⟨T', rfl, h4, t4, hF⟩
    · have hrm := hA.room HI.out HG.out s0
      have H4 := Lib.hid (And.intro h4 (And.intro ((HTurn.of_below HB.out.1).trans t4) (And.intro hA (And.intro hk hrm))))
      have a1 := hrm.1
      have a2 := hrm.2.1
      have hn := HI.out.n6
      clear h3 h4 t4 hA hk hrm
      obtain ⟨u, hu⟩ := H4.out.1.at
      have c0 := H4.out.1.arena
      have HU := Lib.hid hu
      clear hu
      go_wp2_with fail
      refine (store_in x.p x.d x.n D1 u at' pw w3 HU.out (by omega) (by omega)).mono ?_
      rintro e w5 ⟨rfl, hA5, hq⟩
      obtain ⟨h5, t5⟩ := H4.out.1.words hA5 hq (fun i hi m hm => if_neg (by have := (clear_link s0 H4.out.2.2.2.2.2.2 hi hm).1; omega))
      have HW : Hid (HLies x T' (fun k => if k = at'.toNat then pw else D1 k) R' top' par M w5 ∧ HTurn T T' w w5) := ⟨h5, H4.out.2.1.trans t5⟩
      clear hA5 hq h5 t5 c0 HU
      obtain ⟨s, rfl⟩ : ∃ s : Nat, size = s := ⟨size.toNat, by omega⟩
      go_wp2_with fail
      go_loopw [46] (fun s46 wr => ∃ (j : Nat) (Dj : Nat → Int), j ≤ s ∧ s46 = .int .i64 j ∧ HLies x T' Dj R' top' par M wr ∧ HTurn T T' w wr ∧ Dj at'.toNat = pw ∧ (∀ k : Int, 0 ≤ k → k < j → Dj (at' + 3 + k).toNat = 0) ∧ ∀ m : Nat, ((m : Int) < at' ∨ at' + s + 3 ≤ m) → Dj m = D1 m) (fun s46 _ => s - (intOf s46).toNat)
      case atStart => exact ⟨0, _, Nat.zero_le _, rfl, HW.out.1, HW.out.2, if_pos rfl, fun k h1 h2 => by omega, fun m hm => if_neg (by omega)⟩
      case round =>
        clear HW
        obtain ⟨j, Dj, hj, rfl, h6, t6, p1, p2, p3⟩ := hrel
        have H6 := Lib.hid (And.intro h6 (And.intro t6 (And.intro p1 (And.intro p2 p3))))
        have c0 := h6.arena
        clear h6 t6 p1 p2 p3
        by_cases hlt : j < s
        · have hlt' : (j : Int) < (s : Int) := by omega
          obtain ⟨u, hu⟩ := H6.out.1.at
          have HU := Lib.hid hu
          have e1 : IntKind.i64.wrap (at' + 3) = at' + 3 := by rw [IntKind.wrap_i64]; omega
          have e2 : IntKind.i64.wrap (at' + 3 + j) = at' + 3 + j := by rw [IntKind.wrap_i64]; omega
          clear hu
          go_wp2_with fail
          refine (store_in x.p x.d x.n Dj u (at' + 3 + j) 0 wr HU.out (by omega) (by omega)).mono ?_
          rintro e w7 ⟨rfl, hA7, hq⟩
          obtain ⟨h7, t7⟩ := H6.out.1.words hA7 hq (fun i hi m hm => if_neg (by have := (clear_link s0 H4.out.2.2.2.2.2.2 hi hm).2 j (by omega) (by omega); omega))
          have H7 := Lib.hid (And.intro h7 (H6.out.2.1.trans t7))
          clear hA7 hq h7 t7 c0 HU
          go_wp2_with fail
          go_roundw
          case rel =>
            refine ⟨j + 1, _, by omega, by go_num, H7.out.1, H7.out.2, ?_, fun k h1 h2 => ?_, fun m hm => ?_⟩
            · rw [if_neg (by omega)]; exact H6.out.2.2.1
            · by_cases e : k = j
              · subst e
                exact if_pos rfl
              · rw [if_neg (by omega)]
                exact H6.out.2.2.2.1 k h1 (by omega)
            · rw [if_neg (by omega)]
              exact H6.out.2.2.2.2 m hm
          case measure => simp [intOf]; omega
        · obtain rfl : j = s := by omega
          go_wp2_with fail
          refine bodyPost_ret (v := .tuple #[.int .i64 at', .int .i64 0]) (by simp [results, Try.results21, go_sem]) rfl ?_
          refine (Or.inr (Or.inl ⟨rfl, at', T', Dj, R', top', M, rfl, H6.out.1, H6.out.2.1, H4.out.2.2.1, ⟨H6.out.2.2.1, H6.out.2.2.2.1, fun m hm hl => ?_⟩⟩))
          exact (H6.out.2.2.2.2 m hm).trans (H4.out.2.2.2.1 m hl)
    · have H4 := Lib.hid (And.intro h4 (And.intro ((HTurn.of_below HB.out.1).trans t4) hF))
      clear h3 h4 t4 hF
      go_wp2_with fail
      refine bodyPost_ret (v := .tuple #[.int .i64 0, .int .i64 2]) (by simp [results, Try.results21, go_sem]) rfl ?_
      exact (Or.inr (Or.inr ⟨rfl, T', rfl, H4.out.1, H4.out.2.1, H4.out.2.2⟩))
  · have e1 : (pe != 0) = true := by simpa using g0
    go_wp2_with fail
    refine bodyPost_ret (v := .tuple #[.int .i64 0, .int .i64 pe]) (by simp [results, Try.results21, go_sem]) rfl ?_
    exact (Or.inl ⟨g0, rfl, HB.out.2, HTurn.of_below HB.out.1⟩)

end Go.Proofs.Ytbjlpmjalidfkaa
