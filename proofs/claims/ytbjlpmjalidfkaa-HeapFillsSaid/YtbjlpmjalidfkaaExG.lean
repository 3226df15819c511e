/- join: two neighbours that touch become one. -/
import Derived.Test.YtbjlpmjalidfkaaExE
namespace Go.Proofs.Ytbjlpmjalidfkaa.Ex
open Go.RowKit Go.Sort

set_option maxHeartbeats 1000000 in
set_option maxRecDepth 100000 in
theorem join_less (p : Addr) (i : Int) (w : World) (hi : i < 0) :
    Calls Try.prog 97 #[.pointer (some p), .int .i64 i] w fun e w' => e = .returned (.tuple #[]) ∧ w' = w := by
  have hd : decide (i < 0) = true := by simpa using hi
  go_enter Try.func97, Try.ntmps97
  go_wp2_with fail
  refine bodyPost_ret (v := .tuple #[]) (by simp [results, Try.results97]) rfl ⟨rfl, rfl⟩

set_option maxHeartbeats 1000000 in
set_option maxRecDepth 100000 in
theorem join_last (p g cap i : Nat) (F N : Int) (L : List (Int × Int)) (w : World) (hA : At w p g cap F N L) (hi : L.length ≤ i + 1) (hs : i ≤ 100000) :
    Calls Try.prog 97 #[.pointer (some ⟨p, 0, none⟩), .int .i64 i] w fun e w' => e = .returned (.tuple #[]) ∧ w' = w := by
  have hf := hA.free
  generalize L.length = m at hf hi
  have hd : decide ((i : Int) < 0) = false := by simp
  have hd2 : decide ((m : Int) ≤ (i : Int) + 1) = true := by simp; omega
  clear hA
  go_enter Try.func97, Try.ntmps97
  go_wp2_with fail
  refine bodyPost_ret (v := .tuple #[]) (by simp [results, Try.results97]) rfl ⟨rfl, rfl⟩

/-- Delete of the run behind the one at i, as it is called: i + 1 and i + 2. -/
theorem delete_next (w : World) (g cap i n : Nat) (A B : List (Int × Int)) (x : Int × Int) (hO : Own 145 w g cap (A ++ x :: B)) (hA : A.length = i + 1) (hn : B.length + i + 2 = n) :
    Calls Try.prog 112 #[.slice (some ⟨g, 0, none⟩) n cap, .int .i64 ((i : Int) + 1), .int .i64 ((i : Int) + 2)] w fun e w' =>
      e = .returned (.slice (some ⟨g, 0, none⟩) (n - 1) cap) ∧ Own 145 w' g cap (A ++ B) ∧ w.grownBy w' (some g) := by
  have h := delete_any w g cap (i + 1) (i + 2) n A B x hO hA rfl (by omega) (by omega)
  rwa [show ((i + 1 : Nat) : Int) = (i : Int) + 1 from rfl, show ((i + 2 : Nat) : Int) = (i : Int) + 2 from rfl] at h

theorem joined_eq {w : World} {p g cap : Nat} {F N : Int} (A : List (Int × Int)) (a n k : Int) (B : List (Int × Int)) (h : At w p g cap F N (A ++ [(a, n + k)] ++ B)) : At w p g cap F N (joined A (a, n) (a + n, k) B) := by
  unfold joined
  rw [if_pos rfl]
  simpa using h
theorem joined_ne {w : World} {p g cap : Nat} {F N : Int} (A : List (Int × Int)) (a n b k : Int) (B : List (Int × Int)) (e : ¬ b = a + n) (h : At w p g cap F N (A ++ (a, n) :: (b, k) :: B)) : At w p g cap F N (joined A (a, n) (b, k) B) := by
  unfold joined
  rw [if_neg e]
  exact h

set_option maxHeartbeats 4000000 in
set_option maxRecDepth 100000 in
theorem join_two (p g cap i : Nat) (F N : Int) (A B : List (Int × Int)) (a n b k : Int) (w : World) (hA : At w p g cap F N (A ++ (a, n) :: (b, k) :: B)) (hi : A.length = i) (hsmall : (A ++ (a, n) :: (b, k) :: B).length ≤ 100000)
    (ha : 0 ≤ a) (hn : 0 ≤ n) (han : a + n ≤ 1000000) (hk0 : 0 ≤ k) (hk : k ≤ 1000000) :
    Calls Try.prog 97 #[.pointer (some ⟨p, 0, none⟩), .int .i64 i] w fun e w' => e = .returned (.tuple #[]) ∧ At w' p g cap F N (joined A (a, n) (b, k) B) ∧ Apart p g w w' := by
  have lp := hA.lp
  have lg := hA.lg
  have ne := hA.ne
  obtain ⟨m, hm⟩ : ∃ m, (A ++ (a, n) :: (b, k) :: B).length = m := ⟨_, rfl⟩
  rw [hm] at hsmall
  have him : i + 1 < m := by rw [← hm, ← hi]; simp
  have hf := hA.free
  rw [hm] at hf
  obtain ⟨c0, c1⟩ := hA.own.cell (k := i) (x := (a, n)) (by rw [List.getElem?_append_right (by omega), hi, Nat.sub_self]; rfl)
  obtain ⟨c2, c3⟩ := hA.own.cell (k := i + 1) (x := (b, k)) (by rw [List.getElem?_append_right (by omega), hi, Nat.add_sub_cancel_left]; rfl)
  have hd : decide ((i : Int) < 0) = false := by simp
  have hd2 : decide ((m : Int) ≤ (i : Int) + 1) = false := by simp; omega
  have hw1 : IntKind.i64.wrap ((i : Int) + 1) = (i : Int) + 1 := by rw [IntKind.wrap_i64]; omega
  have hb1 : (0 : Int) ≤ (i : Int) + 1 := by omega
  have hb2 : (i : Int) + 1 < (m : Int) := by omega
  have hb3 : (i : Int) < (m : Int) := by omega
  have htn : ((i : Int) + 1).toNat = i + 1 := by omega
  have HA := Lib.hid hA
  have HI := Lib.hid hi
  have HM := Lib.hid hm
  clear hA hi hm
  go_enter Try.func97, Try.ntmps97
  go_wp2_with fail
  go_region
  · have hB : Below w.heap.size w ((w.alloc (.cells #[.int .i64 a, .int .i64 n] 145)).alloc (.cells #[.int .i64 b, .int .i64 k] 145)).drew := (((Below.refl w.heap.size w).alloc (Nat.le_refl _) _).alloc (by simp) _).drew
    have q0 : ((w.alloc (.cells #[.int .i64 a, .int .i64 n] 145)).alloc (.cells #[.int .i64 b, .int .i64 k] 145)).drew.cell? ⟨w.heap.size, 0, none⟩ = some (.int .i64 a) := by simp [go_sem]
    have q1 : ((w.alloc (.cells #[.int .i64 a, .int .i64 n] 145)).alloc (.cells #[.int .i64 b, .int .i64 k] 145)).drew.cell? ⟨w.heap.size, 1, none⟩ = some (.int .i64 n) := by simp [go_sem]
    have q2 : ((w.alloc (.cells #[.int .i64 a, .int .i64 n] 145)).alloc (.cells #[.int .i64 b, .int .i64 k] 145)).drew.cell? ⟨w.heap.size + 1, 0, none⟩ = some (.int .i64 b) := by simp [go_sem]
    have q3 : ((w.alloc (.cells #[.int .i64 a, .int .i64 n] 145)).alloc (.cells #[.int .i64 b, .int .i64 k] 145)).drew.cell? ⟨w.heap.size + 1, 1, none⟩ = some (.int .i64 k) := by simp [go_sem]
    generalize ((w.alloc (.cells #[.int .i64 a, .int .i64 n] 145)).alloc (.cells #[.int .i64 b, .int .i64 k] 145)).drew = W at hB q0 q1 q2 q3 ⊢
    clear c0 c1 c2 c3 hf
    by_cases e : b = a + n
    · subst e
      go_wp2_with fail
      refine (touches_any a n (a + n) k W (by omega) (by omega)).mono ?_
      rintro e w2 ⟨rfl, hb⟩
      replace q0 := later hb q0
      replace q1 := later hb q1
      replace q2 := later hb q2
      replace q3 := later hb q3
      replace hB := onB hB hb
      clear hb
      have hA2 := HA.out.later hB
      have hf := hA2.free
      rw [HM.out] at hf
      obtain ⟨c0, c1⟩ := hA2.own.cell (k := i) (x := (a, n)) (by rw [List.getElem?_append_right (by have := HI.out; omega), HI.out, Nat.sub_self]; rfl)
      have z0 := hA2.own.frozen (i * 2)
      have z1 := hA2.own.frozen (i * 2 + 1)
      have gx : g ≠ w.heap.size := by omega
      have gy : g ≠ w.heap.size + 1 := by omega
      have HB := Lib.hid hB
      have HA2 := Lib.hid hA2
      clear hB hA2
      have hsize := HB.out.size
      have hw2 : IntKind.i64.wrap (n + k) = n + k := by rw [IntKind.wrap_i64]; omega
      go_wp2_with fail
      go_region
      have hE := HA2.out.put i HI.out a (n + k)
      have hQ := ((Apart.of_below (p := p) (d := g) HB.out).trans ((Apart.setD p g (i * 2) (.int .i64 a) w2).trans (Apart.setD p g (i * 2 + 1) (.int .i64 (n + k)) _))).thenB (Below.refl _ _).drew
      replace hE := hE.later (Below.refl _ _).drew
      clear c0 c1 q0 q1 q2 q3 z0 z1 hf gx gy hsize
      generalize hW4 : ((w2.setCell ⟨g, i * 2, none⟩ (.int .i64 a)).setCell ⟨g, i * 2 + 1, none⟩ (.int .i64 (n + k))).drew = W4 at hE hQ ⊢
      clear hW4
      have hf := hE.free
      have hl : (A ++ (a, n + k) :: (a + n, k) :: B).length = m := by rw [← HM.out]; simp
      rw [hl] at hf
      have hO := hE.own
      have H := Lib.hid (delete_next W4 g cap i m (A ++ [(a, n + k)]) B (a + n, k) (by simpa using hO) (by simp; exact HI.out) (by have := HI.out; have hl2 := hl; simp at hl2; omega))
      have HE := Lib.hid hE
      have HQ := Lib.hid hQ
      have hl3 : (A ++ [(a, n + k)] ++ B).length = m - 1 := by rw [← hl]; simp
      have HL := Lib.hid hl3
      have lp4 := hE.lp
      clear hE hQ hO hl hl3
      go_wp2_with fail
      refine H.out.mono ?_
      rintro e w5 ⟨rfl, hO, hg⟩
      have hb : w5.heap[p]? = W4.heap[p]? := hg.block p lp4 (by simpa using ne)
      have f2 := (World.cell?_of_block (w := W4) (a := ⟨p, 2, none⟩) hb).trans HE.out.free
      have z2 := (World.frozen?_of_block (w := W4) (a := ⟨p, 2, none⟩) hb).trans HE.out.fz
      have hE9 := At.told HE.out hg hO (Or.inl rfl) (m - 1) HL.out
      have hQ9 := HQ.out.trans (Apart.told (p := p) hg (.slice (some ⟨g, 0, none⟩) (m - 1) cap))
      have HE9 := Lib.hid (joined_eq A a n k B hE9)
      clear hb hg hO hE9
      go_wp2_with fail
      go_end0
      exact ⟨rfl, HE9.out, hQ9⟩
    · go_wp2_with fail
      refine (touches_any a n b k W (by omega) (by omega)).mono ?_
      rintro e w2 ⟨rfl, hb⟩
      replace hB := onB hB hb
      clear hb q0 q1 q2 q3
      have hE := HA.out.later hB
      have hQ := Apart.of_below (p := p) (d := g) hB
      have HE := Lib.hid (joined_ne A a n b k B e hE)
      clear hE hB
      go_wp2_with fail
      go_end0
      exact ⟨rfl, HE.out, hQ⟩
  · have hB : Below w.heap.size w ((w.alloc (.cells #[.int .i64 b, .int .i64 k] 145)).alloc (.cells #[.int .i64 a, .int .i64 n] 145)).drew := (((Below.refl w.heap.size w).alloc (Nat.le_refl _) _).alloc (by simp) _).drew
    have q0 : ((w.alloc (.cells #[.int .i64 b, .int .i64 k] 145)).alloc (.cells #[.int .i64 a, .int .i64 n] 145)).drew.cell? ⟨w.heap.size + 1, 0, none⟩ = some (.int .i64 a) := by simp [go_sem]
    have q1 : ((w.alloc (.cells #[.int .i64 b, .int .i64 k] 145)).alloc (.cells #[.int .i64 a, .int .i64 n] 145)).drew.cell? ⟨w.heap.size + 1, 1, none⟩ = some (.int .i64 n) := by simp [go_sem]
    have q2 : ((w.alloc (.cells #[.int .i64 b, .int .i64 k] 145)).alloc (.cells #[.int .i64 a, .int .i64 n] 145)).drew.cell? ⟨w.heap.size, 0, none⟩ = some (.int .i64 b) := by simp [go_sem]
    have q3 : ((w.alloc (.cells #[.int .i64 b, .int .i64 k] 145)).alloc (.cells #[.int .i64 a, .int .i64 n] 145)).drew.cell? ⟨w.heap.size, 1, none⟩ = some (.int .i64 k) := by simp [go_sem]
    generalize ((w.alloc (.cells #[.int .i64 b, .int .i64 k] 145)).alloc (.cells #[.int .i64 a, .int .i64 n] 145)).drew = W at hB q0 q1 q2 q3 ⊢
    clear c0 c1 c2 c3 hf
    by_cases e : b = a + n
    · subst e
      go_wp2_with fail
      refine (touches_any a n (a + n) k W (by omega) (by omega)).mono ?_
      rintro e w2 ⟨rfl, hb⟩
      replace q0 := later hb q0
      replace q1 := later hb q1
      replace q2 := later hb q2
      replace q3 := later hb q3
      replace hB := onB hB hb
      clear hb
      have hA2 := HA.out.later hB
      have hf := hA2.free
      rw [HM.out] at hf
      obtain ⟨c0, c1⟩ := hA2.own.cell (k := i) (x := (a, n)) (by rw [List.getElem?_append_right (by have := HI.out; omega), HI.out, Nat.sub_self]; rfl)
      have z0 := hA2.own.frozen (i * 2)
      have z1 := hA2.own.frozen (i * 2 + 1)
      have gx : g ≠ w.heap.size + 1 := by omega
      have gy : g ≠ w.heap.size := by omega
      have HB := Lib.hid hB
      have HA2 := Lib.hid hA2
      clear hB hA2
      have hsize := HB.out.size
      have hw2 : IntKind.i64.wrap (n + k) = n + k := by rw [IntKind.wrap_i64]; omega
      go_wp2_with fail
      go_region
      have hE := HA2.out.put i HI.out a (n + k)
      have hQ := ((Apart.of_below (p := p) (d := g) HB.out).trans ((Apart.setD p g (i * 2) (.int .i64 a) w2).trans (Apart.setD p g (i * 2 + 1) (.int .i64 (n + k)) _))).thenB (Below.refl _ _).drew
      replace hE := hE.later (Below.refl _ _).drew
      clear c0 c1 q0 q1 q2 q3 z0 z1 hf gx gy hsize
      generalize hW4 : ((w2.setCell ⟨g, i * 2, none⟩ (.int .i64 a)).setCell ⟨g, i * 2 + 1, none⟩ (.int .i64 (n + k))).drew = W4 at hE hQ ⊢
      clear hW4
      have hf := hE.free
      have hl : (A ++ (a, n + k) :: (a + n, k) :: B).length = m := by rw [← HM.out]; simp
      rw [hl] at hf
      have hO := hE.own
      have H := Lib.hid (delete_next W4 g cap i m (A ++ [(a, n + k)]) B (a + n, k) (by simpa using hO) (by simp; exact HI.out) (by have := HI.out; have hl2 := hl; simp at hl2; omega))
      have HE := Lib.hid hE
      have HQ := Lib.hid hQ
      have hl3 : (A ++ [(a, n + k)] ++ B).length = m - 1 := by rw [← hl]; simp
      have HL := Lib.hid hl3
      have lp4 := hE.lp
      clear hE hQ hO hl hl3
      go_wp2_with fail
      refine H.out.mono ?_
      rintro e w5 ⟨rfl, hO, hg⟩
      have hb : w5.heap[p]? = W4.heap[p]? := hg.block p lp4 (by simpa using ne)
      have f2 := (World.cell?_of_block (w := W4) (a := ⟨p, 2, none⟩) hb).trans HE.out.free
      have z2 := (World.frozen?_of_block (w := W4) (a := ⟨p, 2, none⟩) hb).trans HE.out.fz
      have hE9 := At.told HE.out hg hO (Or.inl rfl) (m - 1) HL.out
      have hQ9 := HQ.out.trans (Apart.told (p := p) hg (.slice (some ⟨g, 0, none⟩) (m - 1) cap))
      have HE9 := Lib.hid (joined_eq A a n k B hE9)
      clear hb hg hO hE9
      go_wp2_with fail
      go_end0
      exact ⟨rfl, HE9.out, hQ9⟩
    · go_wp2_with fail
      refine (touches_any a n b k W (by omega) (by omega)).mono ?_
      rintro e w2 ⟨rfl, hb⟩
      replace hB := onB hB hb
      clear hb q0 q1 q2 q3
      have hE := HA.out.later hB
      have hQ := Apart.of_below (p := p) (d := g) hB
      have HE := Lib.hid (joined_ne A a n b k B e hE)
      clear hE hB
      go_wp2_with fail
      go_end0
      exact ⟨rfl, HE.out, hQ⟩

end Go.Proofs.Ytbjlpmjalidfkaa.Ex
