/- The program's Unpack of a word that is one. (Out of stage 4's CeD.) -/
import Derived.Test.YtbjlpmjalidfkaaCeC
namespace Go.Proofs.Ytbjlpmjalidfkaa.Ce
open Go.RowKit

theorem pe_word {n : Int} (h : Word n) : pe (kb n) (sb n) (ab n) (mb n) = 0 := pe_ok (word_fit n h)
theorem pw_word {n : Int} (h : Word n) : pw (kb n) (sb n) (ab n) (mb n) = n := (pw_ok (word_fit n h)).trans (jn_word n h)

set_option maxHeartbeats 1000000 in
set_option maxRecDepth 100000 in
theorem unpack_word (n : Int) (w : World) (hn : InR n) (h : Word n) :
    Calls Try.prog 67 #[.int .i64 n] w fun e w' => e = .returned (.tuple #[.agg #[.int .i64 (kb n), .int .i64 (sb n), .int .i64 (ab n), .int .i64 (mb n)], .int .i64 0]) ∧ Below w.heap.size w w' := by
  have HN := Lib.hid hn
  have HP : Hid (∀ W : World, Calls Try.prog 57 #[.agg #[.int .i64 (kb n), .int .i64 (sb n), .int .i64 (ab n), .int .i64 (mb n)]] W fun e w' => e = .returned (.tuple #[.int .i64 n, .int .i64 0]) ∧ Below W.heap.size W w') := Lib.hid fun W => by
    have hp := pack_any (kb n) (sb n) (ab n) (mb n) W
    rw [pe_word h, pw_word h] at hp
    exact hp
  clear h
  clear hn
  have hB := (Below.refl w.heap.size w).alloc (Nat.le_refl _) (.cells #[.int .i64 0, .int .i64 0, .int .i64 0, .int .i64 0] 69)
  have hX := box_new w (.int .i64 0) (.int .i64 0) (.int .i64 0) (.int .i64 0) 69
  go_enter Try.func67, Try.ntmps67
  go_wp2_with fail
  generalize w.alloc (.cells #[.int .i64 0, .int .i64 0, .int .i64 0, .int .i64 0] 69) = W0 at hB hX ⊢
  refine (split_any n _ HN.out).mono ?_
  rintro e x1 ⟨rfl, hb⟩
  replace hB := onB hB hb
  replace hX := hX.later hb
  clear hb
  go_wp2_with fail
  have hY := box_new x1 (.int .i64 (kb n)) (.int .i64 (sb n)) (.int .i64 (ab n)) (.int .i64 (mb n)) 69
  have hbx := (Below.refl x1.heap.size x1).alloc (Nat.le_refl _) (.cells #[.int .i64 (kb n), .int .i64 (sb n), .int .i64 (ab n), .int .i64 (mb n)] 69)
  replace hB := onB hB hbx
  replace hX := hX.later hbx
  clear hbx
  refine (HP.out _).mono ?_
  rintro e x2 ⟨rfl, hb⟩
  replace hB := onB hB hb
  replace hX := hX.later hb
  replace hY := hY.later hb
  clear hb HP
  obtain ⟨c0, c1, c2, c3, f0, f1, f2, f3, hl⟩ := hX
  obtain ⟨d0, d1, d2, d3, -, -, -, -, dl⟩ := hY
  go_wp2
  exact bodyPost_ret (v := .tuple #[.agg #[.int .i64 (kb n), .int .i64 (sb n), .int .i64 (ab n), .int .i64 (mb n)], .int .i64 0]) (by simp [results, Try.results67, go_sem, c0, c1, c2, c3]) rfl ⟨rfl, ((((hB.setCell (Nat.le_refl _) _).setCell (Nat.le_refl _) _).setCell (Nat.le_refl _) _).setCell (Nat.le_refl _) _)⟩


end Go.Proofs.Ytbjlpmjalidfkaa.Ce
