/- The document's question whether a cell may be grown. -/
import Derived.Test.YtbjlpmjalidfkaaRjC
namespace Go.Proofs.Ytbjlpmjalidfkaa
open Go.RowKit Go.Shelf

def HasSaid (c : Int) (L : List Int) (w : World) (e : Ending) (w' : World) : Prop := ∃ b, e = .returned (.bool b) ∧ (b = false → ∀ x, x ∈ L → x + 3 ≤ c ∨ c + 3 ≤ x) ∧ Below w.heap.size w w'
def RightSaid (K N : Int) (L : List Int) (w : World) (e : Ending) (w' : World) : Prop := ∃ b, e = .returned (.bool b) ∧ (b = true → K = 0 → 0 ≤ N → N ≤ 100000 → ∀ x, x ∈ L → x + 3 ≤ N ∨ N + 3 ≤ x) ∧ Below w.heap.size w w'

set_option maxHeartbeats 2000000 in
theorem ref_has (w : World) (q n : Nat) (R : Rows) (hR : Ref w q n R) (hs : R.all.length ≤ 1000) (c : Int) (h0 : 0 ≤ c) (h1 : c ≤ 100000) (hp : ∀ x, x ∈ R.all → 1 ≤ x ∧ x ≤ 65536) :
    Calls Try.prog 41 #[.pointer (some ⟨q, 0, none⟩), .int .i64 c] w (HasSaid c R.all w) := by
  have HA := Lib.hid (ref_all w q n R hR hs)
  have HP := Lib.hid hp
  generalize R.all = L at *
  clear hR hp
  have k1 : IntKind.i64.wrap (c + 3) = c + 3 := by rw [IntKind.wrap_i64]; omega
  go_enter Try.func41, Try.ntmps41
  go_wp2_with fail
  refine HA.out.mono ?_
  rintro e w2 ⟨v, rfl, ⟨ao, ac, rfl, hao⟩, hb⟩
  have HB := Lib.hid hb
  have HX := Lib.hid hao
  clear hb hao HA
  go_wp2_with fail
  go_loopw [6] (fun s6 wr => ∃ i : Nat, i ≤ L.length ∧ s6 = .int .i64 i ∧ w2 = wr ∧ ∀ k x, k < i → L[k]? = some x → x + 3 ≤ c ∨ c + 3 ≤ x) (fun s6 _ => L.length - (intOf s6).toNat)
  case atStart => exact ⟨0, Nat.zero_le _, rfl, rfl, fun k x h => absurd h (Nat.not_lt_zero _)⟩
  case round =>
    obtain ⟨i, hi, rfl, rfl, hk⟩ := hrel
    by_cases hlt : i < L.length
    · have hlt' : (i : Int) < (L.length : Int) := by omega
      have hLi : L[i]? = some (L[i]'hlt) := List.getElem?_eq_getElem hlt
      obtain ⟨hx0, hx1⟩ := HP.out _ (List.getElem_mem hlt)
      generalize L[i]'hlt = x at hLi hx0 hx1
      obtain ⟨g, rfl, hg1, hg2, hgc⟩ := HX.out (by omega)
      have cx := hgc i x hLi
      have k2 : IntKind.i64.wrap (x + 3) = x + 3 := by rw [IntKind.wrap_i64]; omega
      have HK := Lib.hid hk
      clear hk hgc HX HP
      by_cases g1 : x < c + 3
      · have g1' : decide (x < c + 3) = true := decide_eq_true g1
        by_cases g2 : c < x + 3
        · have g2' : decide (c < x + 3) = true := decide_eq_true g2
          go_wp2_with fail
          go_ret
          exact ⟨true, rfl, (fun h => by cases h), HB.out⟩
        · have g2' : decide (c < x + 3) = false := decide_eq_false g2
          go_wp2_with fail
          refine ⟨⟨i + 1, by omega, by go_num, by first | rfl | trivial, fun k y h1 h2 => ?_⟩, by simp [intOf]; omega⟩
          rcases Nat.lt_or_eq_of_le (Nat.le_of_lt_succ h1) with h3 | rfl
          · exact HK.out k y h3 h2
          · rw [hLi] at h2
            cases h2
            omega
      · have g1' : decide (x < c + 3) = false := decide_eq_false g1
        go_wp2_with fail
        refine ⟨⟨i + 1, by omega, by go_num, by first | rfl | trivial, fun k y h1 h2 => ?_⟩, by simp [intOf]; omega⟩
        rcases Nat.lt_or_eq_of_le (Nat.le_of_lt_succ h1) with h3 | rfl
        · exact HK.out k y h3 h2
        · rw [hLi] at h2
          cases h2
          omega
    · obtain rfl : i = L.length := by omega
      have HK := Lib.hid hk
      clear hk HX HP
      go_wp2_with fail
      go_ret
      refine ⟨false, rfl, fun _ x hx => ?_, HB.out⟩
      obtain ⟨k, hk, rfl⟩ := List.getElem_of_mem hx
      exact HK.out k _ hk (List.getElem?_eq_getElem hk)

set_option maxHeartbeats 2000000 in
theorem law_right (w : World) (q n : Nat) (R : Rows) (hR : Ref w q n R) (hs : R.all.length ≤ 1000) (K N : Int) (hp : ∀ x, x ∈ R.all → 1 ≤ x ∧ x ≤ 65536) :
    Calls Try.prog 10 #[.pointer (some ⟨q, 0, none⟩), .agg #[.int .i64 K, .int .i64 N]] w (RightSaid K N R.all w) := by
  have hb := (Below.refl w.heap.size w).alloc (Nat.le_refl _) (.cells #[.int .i64 K, .int .i64 N] 32)
  have hh : ∀ h0 h1, _ := fun h0 h1 => ref_has _ q n R (hR.later hb) hs N h0 h1 hp
  have HH := Lib.hid hh
  have HB := Lib.hid hb
  clear hh hb hR hp
  by_cases k0 : K = 0
  · subst k0
    by_cases g1 : N < 0
    · have g1' : decide (N < 0) = true := decide_eq_true g1
      go_enter Try.func10, Try.ntmps10
      go_wp2_with fail
      go_ret
      exact ⟨true, rfl, (fun _ _ h => by omega), HB.out⟩
    have g1' : decide (N < 0) = false := decide_eq_false g1
    by_cases g2 : 100000 < N
    · have g2' : decide (100000 < N) = true := decide_eq_true g2
      go_enter Try.func10, Try.ntmps10
      go_wp2_with fail
      go_ret
      exact ⟨true, rfl, (fun _ _ _ h => by omega), HB.out⟩
    have g2' : decide (100000 < N) = false := decide_eq_false g2
    have hh := HH.out (by omega) (by omega)
    replace HH := Lib.hid hh
    clear hh
    go_enter Try.func10, Try.ntmps10
    go_wp2_with fail
    refine HH.out.mono ?_
    rintro e w2 ⟨b, rfl, hx, hb⟩
    have HX := Lib.hid hx
    have HB2 := Lib.hid (onB' HB.out hb)
    clear hx hb HH HB
    cases b with
    | true =>
      go_wp2_with fail
      go_ret
      exact ⟨false, rfl, (fun h => by cases h), HB2.out⟩
    | false =>
      go_wp2_with fail
      go_ret
      exact ⟨true, rfl, fun _ _ _ _ => HX.out trivial, HB2.out⟩
  · have k0' : (K == 0) = false := by simp [k0]
    go_enter Try.func10, Try.ntmps10
    go_wp2_with fail
    go_ret
    exact ⟨true, rfl, fun _ h => absurd h k0, HB.out⟩

end Go.Proofs.Ytbjlpmjalidfkaa
