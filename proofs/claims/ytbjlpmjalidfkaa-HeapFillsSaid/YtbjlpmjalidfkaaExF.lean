/- Take: refused, full, or the first run that has so many places loses its first ones. -/
import Derived.Test.YtbjlpmjalidfkaaExE
import Derived.Test.YtbjlpmjalidfkaaExQ
import Derived.Shelf.Abstract
namespace Go.Proofs.Ytbjlpmjalidfkaa.Ex
open Go.RowKit Go.Sort

theorem asks_fits {w : World} {B : Nat} {n : Int} (hc : w.cell? ⟨B, 0, none⟩ = some (.int .i64 n)) (L : List (Int × Int)) :
    Asks 103 (fun v => #[v, .pointer (some ⟨B, 0, none⟩)]) (fun x => decide (n ≤ x.2)) L w := fun W x _ hb => by
  have hB : B < w.heap.size := World.block_lt_of_cell? _ _ hc
  exact fits_any x.1 x.2 n B W ((hb.cell (p := ⟨B, 0, none⟩) hB).trans hc)
theorem enters_fits : ∀ args w, (callFunc 103 args).run Try.prog w = .ok (.enter 103 args) w := enters_of Try.func103 (by kernel_rfl) rfl

set_option maxHeartbeats 1000000 in
set_option maxRecDepth 100000 in
theorem take_range (p : Addr) (n : Int) (w : World) (hn : n < 1) :
    Calls Try.prog 85 #[.pointer (some p), .int .i64 n] w fun e w' => e = .returned (.tuple #[.int .i64 0, .int .i64 1]) ∧ Below w.heap.size w w' := by
  have hb := (Below.refl w.heap.size w).alloc (Nat.le_refl _) (.cells #[.int .i64 n] 3)
  go_enter Try.func85, Try.ntmps85
  go_wp2_with fail
  go_ret2
  exact ⟨rfl, hb⟩

set_option maxHeartbeats 4000000 in
set_option maxRecDepth 100000 in
theorem take_full (p g cap : Nat) (F N n : Int) (L : List (Int × Int)) (w : World) (hA : At w p g cap F N L) (hn : 1 ≤ n) (hL : ∀ x, x ∈ L → x.2 < n) :
    Calls Try.prog 85 #[.pointer (some ⟨p, 0, none⟩), .int .i64 n] w fun e w' => e = .returned (.tuple #[.int .i64 0, .int .i64 2]) ∧ Below w.heap.size w w' := by
  have hb := (Below.refl w.heap.size w).alloc (Nat.le_refl _) (.cells #[.int .i64 n] 3)
  have H := Lib.hid (index_miss_post (w.alloc (.cells #[.int .i64 n] 3)) 103 (.pointer (some ⟨w.heap.size, 0, none⟩)) (fun x => decide (n ≤ x.2)) enters_fits g cap L.length L (hA.later hb).own (asks_fits (by simp [go_sem]) L) rfl (fun y hy => by have := hL y hy; simp; omega))
  have lp := hA.lp
  have hf := hA.free
  generalize L.length = m at H hf
  have HB := Lib.hid hb
  clear hA hL hb
  go_enter Try.func85, Try.ntmps85
  go_wp2_with fail
  refine H.out.mono ?_
  rintro e w2 ⟨rfl, hb2⟩
  have hE := onB HB.out hb2
  clear hb2
  go_wp2_with fail
  go_ret2
  exact ⟨rfl, hE⟩

theorem cut_any (p g cap i : Nat) (F N n : Int) (A B : List (Int × Int)) (a k : Int) (w : World) (hA : At w p g cap F N (A ++ (a, k) :: B)) (hi : A.length = i) (hsmall : (A ++ (a, k) :: B).length ≤ 100000) (h0 : 1 ≤ n) (h1 : n ≤ k) (h2 : 0 ≤ a) (h3 : a + k ≤ 1000000) :
    Calls Try.prog 104 #[.pointer (some ⟨p, 0, none⟩), .int .i64 i, .int .i64 n] w fun e w' => e = .returned (.tuple #[]) ∧ At w' p g cap F N (cutAt A a k B n) ∧ Apart p g w w' := by
  unfold cutAt
  by_cases e : k = n
  · subst e
    rw [if_pos rfl]
    exact cut_whole p g cap i F N k A B a w hA hi hsmall
  · rw [if_neg e]
    exact cut_part p g cap i F N n A B a k w hA hi h0 (by omega) h2 h3

set_option maxHeartbeats 4000000 in
set_option maxRecDepth 100000 in
theorem take_hit (p g cap : Nat) (F N n : Int) (A B : List (Int × Int)) (a k : Int) (w : World) (hA : At w p g cap F N (A ++ (a, k) :: B)) (hn : 1 ≤ n) (hL : ∀ x, x ∈ A → x.2 < n) (hk : n ≤ k) (hsmall : (A ++ (a, k) :: B).length ≤ 100000) (h2 : 0 ≤ a) (h3 : a + k ≤ 1000000) :
    Calls Try.prog 85 #[.pointer (some ⟨p, 0, none⟩), .int .i64 n] w fun e w' => e = .returned (.tuple #[.int .i64 a, .int .i64 0]) ∧ At w' p g cap F N (cutAt A a k B n) ∧ Apart p g w w' := by
  have hb := (Below.refl w.heap.size w).alloc (Nat.le_refl _) (.cells #[.int .i64 n] 3)
  obtain ⟨i, hi⟩ : ∃ i, A.length = i := ⟨_, rfl⟩
  have H := Lib.hid (index_hit_post (w.alloc (.cells #[.int .i64 n] 3)) 103 (.pointer (some ⟨w.heap.size, 0, none⟩)) (fun x => decide (n ≤ x.2)) enters_fits g cap (A ++ (a, k) :: B).length i A B (a, k) (hA.later hb).own (asks_fits (by simp [go_sem]) _) rfl hi (fun y hy => by have := hL y hy; simp; omega) (by simp; omega))
  have lp := hA.lp
  have hf := hA.free
  obtain ⟨m, hm⟩ : ∃ m, (A ++ (a, k) :: B).length = m := ⟨_, rfl⟩
  have him : i < m := by rw [← hm, ← hi]; simp
  rw [hm] at H hf
  have HB := Lib.hid hb
  have HA := Lib.hid (hA.later hb)
  have HI := Lib.hid hi
  have HS := Lib.hid hsmall
  have HM := Lib.hid hm
  have cn : (w.alloc (.cells #[.int .i64 n] 3)).cell? ⟨w.heap.size, 0, none⟩ = some (.int .i64 n) := by simp [go_sem]
  have HN := Lib.hid cn
  have hmb : m ≤ 100000 := by rw [← hm]; exact hsmall
  clear hA hL hb hi hm hsmall cn
  go_enter Try.func85, Try.ntmps85
  go_wp2_with fail
  refine H.out.mono ?_
  rintro e w2 ⟨rfl, hb2⟩
  have hA2 := HA.out.later hb2
  have hE := onB HB.out hb2
  have cn := later hb2 HN.out
  have hf2 := hA2.free
  rw [HM.out] at hf2
  obtain ⟨c0, c1⟩ := hA2.own.cell (k := i) (x := (a, k)) (by rw [List.getElem?_append_right (by have := HI.out; omega), HI.out, Nat.sub_self]; rfl)
  have HA2 := Lib.hid hA2
  clear hb2 hA2
  go_wp2_with fail
  refine (cut_any p g cap i F N n A B a k w2 HA2.out HI.out HS.out hn hk h2 h3).mono ?_
  rintro e w3 ⟨rfl, hA3, hq⟩
  have hQ := (Apart.of_below hE).trans hq
  clear hq hE cn hf2 c0 c1
  go_wp2_with fail
  go_ret2
  exact ⟨rfl, hA3, hQ⟩

end Go.Proofs.Ytbjlpmjalidfkaa.Ex
