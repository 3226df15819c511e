/- The document's own object of a word. -/
import Derived.Test.YtpfchfpliljglaaDoorCeD
namespace Go.Proofs.YtpfchfpliljglaaDoor
open Go.RowKit Go.Sort

set_option maxHeartbeats 1000000 in
theorem runpack_word (n : Int) (w : World) (h : Word n) :
    Calls Tryd.prog 12 #[.int .i64 n] w fun e w' => e = .returned (.tuple #[.agg #[.int .i64 (kb n), .int .i64 (sb n), .int .i64 (ab n), .int .i64 (mb n)], .int .i64 0]) ∧ Below w.heap.size w w' := by
  have e3 : ab n = n / 1024 := by unfold Word at h; unfold ab; omega
  have h0 : 0 ≤ n := h.1
  have h1 : n / 1024 ≤ 16777215 := by unfold Word at h; omega
  have h2 : n % 16 ≤ 10 := h.2.2
  have h3 : n < 17179869184 := h.2.1
  rw [e3]
  clear h e3
  go_enter Tryd.func12, Tryd.ntmps12
  go_wp2_with fail
  exact bodyPost_ret (v := .tuple #[.agg #[.int .i64 (n % 16), .int .i64 (n / 32 % 32), .int .i64 (n / 1024), .int .i64 (n / 16 % 2)], .int .i64 0]) (by simp [results, Tryd.results12, go_sem]) rfl ⟨rfl, (Below.refl _ _).alloc (Nat.le_refl _) _⟩

set_option maxHeartbeats 1000000 in
theorem runpack_none (n : Int) (w : World) (h : ¬ Word n) (hr : n ≤ 9223372036854775807) :
    Calls Tryd.prog 12 #[.int .i64 n] w fun e w' => e = .returned (.tuple #[.agg #[.int .i64 0, .int .i64 0, .int .i64 0, .int .i64 0], .int .i64 3]) ∧ Below w.heap.size w w' := by
  by_cases h0 : n < 0
  · clear h hr
    go_enter Tryd.func12, Tryd.ntmps12
    go_wp2_with fail
    exact bodyPost_ret (v := .tuple #[.agg #[.int .i64 0, .int .i64 0, .int .i64 0, .int .i64 0], .int .i64 3]) (by simp [results, Tryd.results12, go_sem]) rfl ⟨rfl, (Below.refl _ _).alloc (Nat.le_refl _) _⟩
  · by_cases h1 : 16777215 < n / 1024
    · have h0' : 0 ≤ n := by omega
      clear h h0
      go_enter Tryd.func12, Tryd.ntmps12
      go_wp2_with fail
      exact bodyPost_ret (v := .tuple #[.agg #[.int .i64 0, .int .i64 0, .int .i64 0, .int .i64 0], .int .i64 3]) (by simp [results, Tryd.results12, go_sem]) rfl ⟨rfl, (Below.refl _ _).alloc (Nat.le_refl _) _⟩
    · have h0' : 0 ≤ n := by omega
      have h1' : n / 1024 ≤ 16777215 := by omega
      have h2 : 10 < n % 16 := by unfold Word at h; omega
      clear h h0 h1
      go_enter Tryd.func12, Tryd.ntmps12
      go_wp2_with fail
      exact bodyPost_ret (v := .tuple #[.agg #[.int .i64 0, .int .i64 0, .int .i64 0, .int .i64 0], .int .i64 3]) (by simp [results, Tryd.results12, go_sem]) rfl ⟨rfl, (Below.refl _ _).alloc (Nat.le_refl _) _⟩
end Go.Proofs.YtpfchfpliljglaaDoor
