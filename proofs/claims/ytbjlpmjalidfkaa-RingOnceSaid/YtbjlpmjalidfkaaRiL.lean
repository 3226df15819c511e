/- Lists held against each other; rows held against each other; a ring that is made; List by its rows. -/
import Derived.Test.YtbjlpmjalidfkaaRiK
namespace Go.Proofs.Ytbjlpmjalidfkaa
open Go.RowKit Go.Shelf

theorem ring_list (s : Spot) (R : Rows) (w : World) (hR : Ring s R w) :
    Calls Try.prog 14 #[.pointer (some ⟨s.r, 0, none⟩)] w fun e w' => ∃ v0 v1 v2 v3, e = .returned (.agg #[v0, v1, v2, v3]) ∧ Row w' w.heap.size w'.heap.size v0 R.white ∧ Row w' w.heap.size w'.heap.size v1 R.frm ∧ Row w' w.heap.size w'.heap.size v2 R.grey ∧ Row w' w.heap.size w'.heap.size v3 R.black ∧ Ring s R w' ∧ Turn s w w' := by
  obtain ⟨C, F, D, hL, hI⟩ := hR
  refine (list_lies s C F D R w hL hI).mono ?_
  rintro e w' ⟨v0, v1, v2, v3, h1, h2, h3, h4, h5, h6, h7⟩
  exact ⟨v0, v1, v2, v3, h1, h2, h3, h4, h5, ⟨C, F, D, h6, hI⟩, h7⟩

theorem take_eq {a b : List Int} {k : Nat} (h : a.take k = b.take k) (ha : k < a.length) (hb : k < b.length) : a.take (k + 1) = b.take (k + 1) ↔ a[k] = b[k] := by
  rw [List.take_succ_eq_append_getElem ha, List.take_succ_eq_append_getElem hb, h, List.append_cancel_left_eq]
  simp

set_option maxHeartbeats 2000000 in
theorem ints_any (va vb : Value) (la lb : List Int) (lo hi lo' hi' : Nat) (w : World) (ha : Row w lo hi va la) (hb : Row w lo' hi' vb lb) (sa : la.length ≤ 100000) (sb : lb.length ≤ 100000) :
    Calls Try.prog 76 #[va, vb] w fun e w' => e = .returned (.bool (decide (la = lb))) ∧ Below w.heap.size w w' := by
  obtain ⟨ao, ca, rfl, hca⟩ := ha
  obtain ⟨bo, cb, rfl, hcb⟩ := hb
  obtain ⟨n, hn⟩ : ∃ n, la.length = n := ⟨_, rfl⟩
  obtain ⟨m, hm⟩ : ∃ m, lb.length = m := ⟨_, rfl⟩
  rw [hn] at hca sa ⊢
  rw [hm] at hcb sb ⊢
  obtain ⟨X, hX⟩ : ∃ X, decide (la = lb) = X := ⟨_, rfl⟩
  rw [hX]
  by_cases g : n = m
  · subst g
    have HC := Lib.hid (And.intro hn (And.intro hm (And.intro hca (And.intro hcb hX))))
    clear hn hm hca hcb hX
    go_enter Try.func76, Try.ntmps76
    go_wp2_with fail
    go_loopw [5] (fun s5 wr => ∃ k : Nat, k ≤ n ∧ s5 = .int .i64 k ∧ la.take k = lb.take k ∧ Below w.heap.size w wr) (fun s5 _ => n - (intOf s5).toNat)
    case atStart => exact ⟨0, Nat.zero_le _, rfl, by simp, Below.refl _ _⟩
    case round =>
      obtain ⟨k, hk, rfl, ht, hB⟩ := hrel
      by_cases hlt : k < n
      · have hlt' : (k : Int) < (n : Int) := by omega
        obtain ⟨h1, h2, h3, h4, h5⟩ := HC.out
        obtain ⟨g1, rfl, _, _, hx⟩ := h3 (by omega)
        obtain ⟨g2, rfl, _, _, hy⟩ := h4 (by omega)
        have ea : la[k]? = some (la[k]'(by omega)) := List.getElem?_eq_getElem (by omega)
        have eb : lb[k]? = some (lb[k]'(by omega)) := List.getElem?_eq_getElem (by omega)
        have c0 := later' (hB.mono (Nat.le_refl _)) (hx k _ ea)
        have c1 := later' (hB.mono (Nat.le_refl _)) (hy k _ eb)
        have htk := take_eq ht (by omega) (by omega)
        generalize la[k]'(by omega) = x at c0 htk
        generalize lb[k]'(by omega) = y at c1 htk
        have hne : la = lb → x = y := fun e => htk.1 (by rw [e])
        have HB := Lib.hid hB
        have HT := Lib.hid (And.intro htk hne)
        clear h1 h2 h3 h4 h5 hx hy ea eb ht htk hne hB
        by_cases exy : x = y
        · subst exy
          go_wp2_with fail
          go_quiet (fail)
          go_wp2_with fail
          exact ⟨⟨k + 1, by omega, by go_num, HT.out.1.2 (by first | rfl | trivial), onB' HB.out ⟨rfl, rfl, rfl, Nat.le_refl _, fun _ _ => rfl⟩⟩, by simp [intOf]; omega⟩
        · have hne : (x == y) = false := by simpa using exy
          have hX := HC.out.2.2.2.2
          rw [decide_eq_false (fun e => exy (HT.out.2 e))] at hX
          subst hX
          go_wp2_with fail
          go_quiet (fail)
          go_wp2_with fail
          go_ret
          exact ⟨rfl, onB' HB.out ⟨rfl, rfl, rfl, Nat.le_refl _, fun _ _ => rfl⟩⟩
      · obtain rfl : k = n := by omega
        have HB := Lib.hid hB
        obtain ⟨h1, h2, _, _, hX⟩ := HC.out
        have he : la = lb := by
          rw [← List.take_length (l := la), ← List.take_length (l := lb), h1, h2]
          exact ht
        rw [decide_eq_true he] at hX
        subst hX
        clear hB ht he h1 h2
        go_wp2_with fail
        go_ret
        exact ⟨rfl, HB.out⟩
  · have hnm : ((n : Int) == (m : Int)) = false := by simp; omega
    have he : ¬ la = lb := fun e => g (by rw [← hn, ← hm, e])
    rw [decide_eq_false he] at hX
    subst hX
    clear hn hm hca hcb he
    go_enter Try.func76, Try.ntmps76
    go_wp2_with fail
    go_ret
    exact ⟨rfl, Below.refl _ _⟩

/-- Four rows, held against four: each pair is the same. -/
def Fours (W : World) (lo hi : Nat) (v0 v1 v2 v3 : Value) (R : Rows) : Prop := Row W lo hi v0 R.white ∧ Row W lo hi v1 R.frm ∧ Row W lo hi v2 R.grey ∧ Row W lo hi v3 R.black
theorem Fours.below {W W' : World} {lo hi B : Nat} {v0 v1 v2 v3 : Value} {R : Rows} (h : Fours W lo hi v0 v1 v2 v3 R) (hb : Below B W W') (hB : hi ≤ B) : Fours W' lo hi v0 v1 v2 v3 R :=
  ⟨h.1.below hb hB, h.2.1.below hb hB, h.2.2.1.below hb hB, h.2.2.2.below hb hB⟩
theorem Fours.mono {W : World} {lo hi lo' hi' : Nat} {v0 v1 v2 v3 : Value} {R : Rows} (h : Fours W lo hi v0 v1 v2 v3 R) (h1 : lo' ≤ lo) (h2 : hi ≤ hi') : Fours W lo' hi' v0 v1 v2 v3 R :=
  ⟨h.1.mono h1 h2, h.2.1.mono h1 h2, h.2.2.1.mono h1 h2, h.2.2.2.mono h1 h2⟩
theorem all_le {R : Rows} {N : Nat} (h : R.all.length ≤ N) : R.white.length ≤ N ∧ R.frm.length ≤ N ∧ R.grey.length ≤ N ∧ R.black.length ≤ N := by
  simp [Rows.all] at h
  omega

set_option maxHeartbeats 4000000 in
theorem same_any (a0 a1 a2 a3 b0 b1 b2 b3 : Value) (R : Rows) (lo hi lo' hi' : Nat) (w : World) (ha : Fours w lo hi a0 a1 a2 a3 R) (hb : Fours w lo' hi' b0 b1 b2 b3 R) (hs : R.all.length ≤ 1000) (h1 : hi ≤ w.heap.size) (h2 : hi' ≤ w.heap.size) :
    Calls Try.prog 38 #[.agg #[a0, a1, a2, a3], .agg #[b0, b1, b2, b3]] w fun e w' => e = .returned (.bool true) ∧ Below w.heap.size w w' := by
  obtain ⟨s0, s1, s2, s3⟩ := all_le hs
  have hB := ((Below.refl w.heap.size w).alloc (Nat.le_refl _) (.cells #[a0, a1, a2, a3] 40)).alloc (by simp) (.cells #[b0, b1, b2, b3] 40)
  have HA := Lib.hid (And.intro (ha.below hB h1) (hb.below hB h2))
  have HB := Lib.hid hB
  obtain ⟨⟨o0, p0, e0, -⟩, ⟨o1, p1, e1, -⟩, ⟨o2, p2, e2, -⟩, ⟨o3, p3, e3, -⟩⟩ := ha
  obtain ⟨⟨q0, r0, f0, -⟩, ⟨q1, r1, f1, -⟩, ⟨q2, r2, f2, -⟩, ⟨q3, r3, f3, -⟩⟩ := hb
  have c0 : ((w.alloc (.cells #[a0, a1, a2, a3] 40)).alloc (.cells #[b0, b1, b2, b3] 40)).cell? ⟨w.heap.size, 0, none⟩ = some a0 := by simp [go_sem]
  have c1 : ((w.alloc (.cells #[a0, a1, a2, a3] 40)).alloc (.cells #[b0, b1, b2, b3] 40)).cell? ⟨w.heap.size, 1, none⟩ = some a1 := by simp [go_sem]
  have c2 : ((w.alloc (.cells #[a0, a1, a2, a3] 40)).alloc (.cells #[b0, b1, b2, b3] 40)).cell? ⟨w.heap.size, 2, none⟩ = some a2 := by simp [go_sem]
  have c3 : ((w.alloc (.cells #[a0, a1, a2, a3] 40)).alloc (.cells #[b0, b1, b2, b3] 40)).cell? ⟨w.heap.size, 3, none⟩ = some a3 := by simp [go_sem]
  have d0 : ((w.alloc (.cells #[a0, a1, a2, a3] 40)).alloc (.cells #[b0, b1, b2, b3] 40)).cell? ⟨w.heap.size + 1, 0, none⟩ = some b0 := by simp [go_sem]
  have d1 : ((w.alloc (.cells #[a0, a1, a2, a3] 40)).alloc (.cells #[b0, b1, b2, b3] 40)).cell? ⟨w.heap.size + 1, 1, none⟩ = some b1 := by simp [go_sem]
  have d2 : ((w.alloc (.cells #[a0, a1, a2, a3] 40)).alloc (.cells #[b0, b1, b2, b3] 40)).cell? ⟨w.heap.size + 1, 2, none⟩ = some b2 := by simp [go_sem]
  have d3 : ((w.alloc (.cells #[a0, a1, a2, a3] 40)).alloc (.cells #[b0, b1, b2, b3] 40)).cell? ⟨w.heap.size + 1, 3, none⟩ = some b3 := by simp [go_sem]
  have hz : ((w.alloc (.cells #[a0, a1, a2, a3] 40)).alloc (.cells #[b0, b1, b2, b3] 40)).heap.size = w.heap.size + 2 := by simp
  subst e0 e1 e2 e3 f0 f1 f2 f3
  have HC := Lib.hid (And.intro c0 (And.intro c1 (And.intro c2 (And.intro c3 (And.intro d0 (And.intro d1 (And.intro d2 d3)))))))
  clear hB
  go_enter Try.func38, Try.ntmps38
  go_wp2_with fail
  generalize ((w.alloc (.cells #[.slice o0 R.white.length (R.white.length + p0), .slice o1 R.frm.length (R.frm.length + p1), .slice o2 R.grey.length (R.grey.length + p2), .slice o3 R.black.length (R.black.length + p3)] 40)).alloc (.cells #[.slice q0 R.white.length (R.white.length + r0), .slice q1 R.frm.length (R.frm.length + r1), .slice q2 R.grey.length (R.grey.length + r2), .slice q3 R.black.length (R.black.length + r3)] 40)) = W1 at *
  refine (ints_any _ _ _ _ lo hi lo' hi' _ (HA.out.1.1.below (Below.refl W1.heap.size W1) (by omega)) (HA.out.2.1.below (Below.refl W1.heap.size W1) (by omega)) (by omega) (by omega)).mono ?_
  rintro e x1 ⟨rfl, hb0⟩
  have HB1 := Lib.hid hb0
  clear hb0
  replace c1 := later' HB1.out HC.out.2.1
  replace d1 := later' HB1.out HC.out.2.2.2.2.2.1
  rw [decide_eq_true rfl]
  go_wp2_with fail
  refine (ints_any _ _ _ _ lo hi lo' hi' _ (HA.out.1.2.1.below HB1.out (by omega)) (HA.out.2.2.1.below HB1.out (by omega)) (by omega) (by omega)).mono ?_
  rintro e x2 ⟨rfl, hb1⟩
  replace HB1 := Lib.hid (onB' HB1.out hb1)
  clear hb1
  replace c2 := later' HB1.out HC.out.2.2.1
  replace d2 := later' HB1.out HC.out.2.2.2.2.2.2.1
  rw [decide_eq_true rfl]
  go_wp2_with fail
  refine (ints_any _ _ _ _ lo hi lo' hi' _ (HA.out.1.2.2.1.below HB1.out (by omega)) (HA.out.2.2.2.1.below HB1.out (by omega)) (by omega) (by omega)).mono ?_
  rintro e x3 ⟨rfl, hb2⟩
  replace HB1 := Lib.hid (onB' HB1.out hb2)
  clear hb2
  replace c3 := later' HB1.out HC.out.2.2.2.1
  replace d3 := later' HB1.out HC.out.2.2.2.2.2.2.2
  rw [decide_eq_true rfl]
  go_wp2_with fail
  refine (ints_any _ _ _ _ lo hi lo' hi' _ (HA.out.1.2.2.2.below HB1.out (by omega)) (HA.out.2.2.2.2.below HB1.out (by omega)) (by omega) (by omega)).mono ?_
  rintro e x4 ⟨rfl, hb3⟩
  replace HB1 := Lib.hid (onB' HB1.out hb3)
  clear hb3
  rw [decide_eq_true rfl]
  go_wp2_with fail
  go_ret
  exact ⟨rfl, onB' HB.out HB1.out⟩

end Go.Proofs.Ytbjlpmjalidfkaa
