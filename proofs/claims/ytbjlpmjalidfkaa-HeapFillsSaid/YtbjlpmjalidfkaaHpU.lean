/- A heap is filled, emptied, and filled anew: in numbers. -/
import Derived.Test.YtbjlpmjalidfkaaHpT
import Derived.Test.YtbjlpmjalidfkaaHpK
namespace Go.Proofs.Ytbjlpmjalidfkaa
open Go.RowKit

theorem mul_step {k t : Nat} {W : Int} (h : k < t) (hW : 0 ≤ W) : (k : Int) * W + W ≤ t * W := by
  have := Int.mul_le_mul_of_nonneg_right (show (k : Int) + 1 ≤ t by omega) hW
  rw [Int.add_mul, Int.one_mul] at this
  exact this

theorem cov_whole {F N m : Int} (_ : 0 ≤ N) : Ex.Cov (Ex.whole F N) m ↔ F ≤ m ∧ m < F + N := by
  unfold Ex.whole
  by_cases g : N = 0
  · rw [if_pos g]
    exact ⟨fun h => absurd h (Ex.cov_nil m), fun h => by omega⟩
  · rw [if_neg g, Ex.cov_cons]
    exact ⟨fun h => h.elim id fun h => absurd h (Ex.cov_nil m), Or.inl⟩
theorem good_whole {lo hi F N : Int} (h0 : 0 ≤ N) (h1 : lo ≤ F) (h2 : F + N ≤ hi) : Ex.Good lo hi (Ex.whole F N) := by
  unfold Ex.whole
  by_cases g : N = 0
  · rw [if_pos g]
    trivial
  · rw [if_neg g]
    exact ⟨h1, by show 1 ≤ N; omega, h2, trivial⟩
theorem total_whole (F N : Int) : Ex.total (Ex.whole F N) = N := by
  unfold Ex.whole
  by_cases g : N = 0
  · rw [if_pos g, g]; rfl
  · rw [if_neg g]
    show N + 0 = N
    omega
theorem whole_err {F N n : Int} (hn : 1 ≤ n) (h : N < n) : Ex.tErr n (Ex.whole F N) ≠ 0 := by
  unfold Ex.tErr
  rw [if_neg (by omega), Ex.spot_none]
  · simp
  · intro y hy
    unfold Ex.whole at hy
    split at hy
    · cases hy
    · rw [List.mem_singleton] at hy
      rw [hy]
      exact h
theorem whole_ok {F N n : Int} (hn : 1 ≤ n) (h : n ≤ N) : Ex.tErr n (Ex.whole F N) = 0 ∧ Ex.tAt n (Ex.whole F N) = F := by
  have e : Ex.spot n (Ex.whole F N) = some F := by
    unfold Ex.whole
    rw [if_neg (by omega)]
    exact if_pos h
  have h1 : ¬ n < 1 := by omega
  unfold Ex.tErr Ex.tAt
  rw [e]
  simp [h1]
theorem whole_took {lo hi F N n : Int} {M : List (Int × Int)} (hn : 1 ≤ n) (h : n ≤ N) (h1 : lo ≤ F) (h2 : F + N ≤ hi) (hM : Ex.Took lo hi n (Ex.whole F N) M) : M = Ex.whole (F + n) (N - n) := by
  obtain ⟨e0, e1⟩ := whole_ok (F := F) hn h
  refine Ex.good_unique hM.1 (good_whole (lo := lo) (by omega) (by omega) (by omega)) fun m => ?_
  rw [hM.2.1, cov_whole (by omega), cov_whole (by omega), e0, e1]
  constructor
  · rintro ⟨⟨a, b⟩, c⟩
    have := c rfl
    omega
  · rintro ⟨a, b⟩
    exact ⟨by omega, fun _ => by omega⟩
theorem total_le {hi : Int} : ∀ {L : List (Int × Int)} {lo : Int}, Ex.Good lo hi L → L ≠ [] → Ex.total L ≤ hi - lo
  | [], _, _, h => absurd rfl h
  | [y], lo, h, _ => by
    obtain ⟨h1, h2, h3, -⟩ := h
    show y.2 + 0 ≤ hi - lo
    omega
  | y :: z :: L, lo, h, _ => by
    obtain ⟨h1, h2, h3, h4⟩ := h
    have := total_le h4 (by simp)
    show y.2 + Ex.total (z :: L) ≤ hi - lo
    omega
theorem whole_of_total {lo N : Int} {L : List (Int × Int)} (h : Ex.Good lo (lo + N) L) (ht : Ex.total L = N) : L = Ex.whole lo N := by
  unfold Ex.whole
  cases L with
  | nil =>
    have : N = 0 := ht.symm
    rw [if_pos this]
  | cons y L =>
    obtain ⟨h1, h2, h3, h4⟩ := h
    have ht' : y.2 + Ex.total L = N := ht
    cases L with
    | nil =>
      have h0 : Ex.total [] = 0 := rfl
      rw [if_neg (by omega)]
      obtain ⟨a, b⟩ := y
      simp only at *
      rw [show a = lo by omega, show b = N by omega]
    | cons z L =>
      have := total_le h4 (by simp)
      omega

/-- How many objects of a size go into a heap. -/
structure Wants (x : HSpot) (size : Int) (i tot : Nat) : Prop where
  s0 : 0 ≤ size
  s1 : size ≤ 31
  cls : Cls x.sz x.k size i
  small : i < x.k → (tot : Int) * (x.sz i + 3) < x.lim ∧ (x.lim : Int) ≤ tot * (x.sz i + 3) + (x.sz i + 3)
  big : i = x.k → (tot : Int) * (size + 3) ≤ x.n - x.lim ∧ (x.n - x.lim : Int) < tot * (size + 3) + (size + 3)
  few : tot < 900

/-- A heap while it is filled. -/
structure Fil (x : HSpot) (size : Int) (i tot : Nat) (D : Nat → Int) (R : Nat → Rows) (top par : Int) (L : List (Int × Int)) (B Wh : List Int) : Prop where
  row : R i = ⟨Wh, [], [], B⟩
  rest : ∀ j, j ≤ x.k → j ≠ i → R j = none4
  inv : HInv x D R top L
  par : par = 0 ∨ par = 1
  small : i < x.k → top = 1 + (Wh.length + B.length : Nat) * (x.sz i + 3) ∧ (Wh = [] ∨ Wh.length + B.length = tot)
  big : i = x.k → Wh = [] ∧ L = Ex.whole (x.lim + B.length * (size + 3)) (x.n - x.lim - B.length * (size + 3)) ∧ ∀ c, c ∈ B → ∃ kd a m, Head D c kd size a m

theorem Fil.lens {x : HSpot} {size : Int} {i tot : Nat} {D : Nat → Int} {R : Nat → Rows} {top par : Int} {L : List (Int × Int)} {B Wh : List Int} (h : Fil x size i tot D R top par L B Wh) (hi : i ≤ x.k) (hB : B.length ≤ tot) (ht : tot < 900) : ∀ j, j ≤ x.k → (R j).all.length < 999 := by
  intro j hj
  by_cases e : j = i
  · subst e
    rw [h.row]
    unfold Rows.all
    simp only [List.nil_append, List.length_append]
    by_cases g : j = x.k
    · have := (h.big g).1
      subst this
      simp
      omega
    · rcases (h.small (by omega)).2 with e | e
      · subst e
        simp
        omega
      · omega
  · rw [h.rest j hj e]
    show (0 : Nat) < 999
    omega

set_option maxHeartbeats 4000000 in
theorem fill_step {x : HSpot} {size : Int} {i tot : Nat} {T : Nat → Nat} {D : Nat → Int} {R : Nat → Rows} {top par : Int} {L : List (Int × Int)} {B Wh : List Int} {w w' : World} {e : Ending} {kd aux : Int} (hw : Wants x size i tot) (hl : HLies x T D R top par L w) (hf : Fil x size i tot D R top par L B Wh) (hB : B.length < tot)
    (hp : Ce.pe kd size aux par = 0) (h : AllocsE (Ce.pe kd size aux par) (Ce.pw kd size aux par) x T D R top par L size w e w') :
    ∃ (at' : Int) (T' : Nat → Nat) (D' : Nat → Int) (R' : Nat → Rows) (top' : Int) (L' : List (Int × Int)) (Wh' : List Int), e = .returned (.tuple #[.int .i64 at', .int .i64 0]) ∧ HLies x T' D' R' top' par L' w' ∧ HTurn T T' w w' ∧ Fil x size i tot D' R' top' par L' (B ++ [at']) Wh' ∧ at' ∉ B ∧ 1 ≤ at' ∧ at' ≤ 65536 := by
  have hG := hl.good
  have s0 := hw.s0
  have hlen := hf.lens hw.cls.le (Nat.le_of_lt hB) hw.few
  have hfit := (Ce.pe_fit _ _ _ _).1 hp
  rcases h with ⟨h0, -⟩ | ⟨-, at', T', D', R', top', M, rfl, hl', ht, hA, hW⟩ | ⟨-, T', rfl, hl', ht, hF⟩
  · exact absurd hp h0
  · have hI' := alloc_inv hf.inv hG hA hW s0 (sb_pw hp) hlen
    obtain ⟨r1, r2, hcl⟩ := hA.room hf.inv hG s0
    obtain ⟨i', hi', hC', hm', hne', hmem', -⟩ := hA.cells
    obtain rfl := hw.cls.unique hC'
    have n6 := hf.inv.n6
    have hni : at' ∉ B := fun hb => by
      have hb1 : at' ∈ (R i).all := by rw [hf.row]; simp [Rows.all, hb]
      have hnd := (hl.rings i hi').fit.nodup
      refine hA.ne hf.inv hG s0 hi' hnd hb1 ?_ rfl
      rw [hf.row] at hnd ⊢
      intro hq
      have hq' : at' ∈ Wh := hq
      have hnd' : (Wh ++ ([] ++ ([] ++ B))).Nodup := hnd
      simp only [List.nil_append] at hnd'
      exact (List.nodup_append.1 hnd').2.2 at' hq' at' hb rfl
    have hrest : ∀ j, j ≤ x.k → j ≠ i → R' j = none4 := fun j hj e => (hne' j e).trans (hf.rest j hj e)
    have fin : ∀ Wh', R' i = ⟨Wh', [], [], B ++ [at']⟩ → (i < x.k → top' = 1 + (Wh'.length + (B ++ [at']).length : Nat) * (x.sz i + 3) ∧ (Wh' = [] ∨ Wh'.length + (B ++ [at']).length = tot)) → (i = x.k → Wh' = [] ∧ M = Ex.whole (x.lim + (B ++ [at']).length * (size + 3)) (x.n - x.lim - (B ++ [at']).length * (size + 3))) →
        Fil x size i tot D' R' top' par M (B ++ [at']) Wh' := fun Wh' h1 h2 h3 => ⟨h1, hrest, hI', hf.par, h2, fun ek => ⟨(h3 ek).1, (h3 ek).2, fun c hc => by
      rcases List.mem_append.1 hc with hc | hc
      · obtain ⟨kd', a', m', hd⟩ := (hf.big ek).2.2 c hc
        refine ⟨kd', a', m', hd.fit, ?_⟩
        have hcm : c ∈ (R' i).all := by rw [h1]; simp [Rows.all, hc]
        have q1 := hcl i hi' c hcm
        have hca : c ≠ at' := fun e => hni (e ▸ hc)
        have q2 := hI'.one i hi' c hcm
        have q3 := (hI'.obj hi' hcm (show (0 : Int) + 3 ≤ wid x D' i c by have := wid_three hI' i c; omega)).word (by omega)
        exact (hW.keep c.toNat (by omega) fun j hj hq => q3 j hj _ hq (by omega)).trans hd.word
      · rw [List.mem_singleton] at hc
        subst hc
        exact ⟨kd, aux, par, hfit, hW.hd.trans (Ce.pw_ok hfit)⟩⟩⟩
    cases hA with
    | white i2 hC2 hi2 l hw2 hR ht2 hM =>
      obtain rfl := hw.cls.unique hC2
      rw [hf.row] at hw2
      have hw3 : Wh = at' :: l := hw2
      subst hw3
      obtain ⟨k1, k2⟩ := hf.small hi2
      refine ⟨at', T', D', R', top', M, l, rfl, hl', ht, fin l ?_ (fun _ => ⟨?_, ?_⟩) (fun e => by omega), hni, r1, by omega⟩
      · rw [hR]
        unfold put1
        rw [if_pos rfl, hf.row]
        rfl
      · rw [ht2, k1]
        have : (at' :: l).length + B.length = l.length + (B ++ [at']).length := by simp; omega
        rw [this]
      · rcases k2 with k2 | k2
        · cases k2
        · exact Or.inr (by rw [← k2]; simp; omega)
    | fresh i2 hC2 hi2 hw2 hr ha hR ht2 hM =>
      obtain rfl := hw.cls.unique hC2
      rw [hf.row] at hw2
      have hw3 : Wh = [] := hw2
      subst hw3
      obtain ⟨k1, k2⟩ := hf.small hi2
      refine ⟨at', T', D', R', top', M, [], rfl, hl', ht, fin [] ?_ (fun _ => ⟨?_, Or.inl rfl⟩) (fun e => by omega), hni, r1, by omega⟩
      · rw [hR]
        unfold put1
        rw [if_pos rfl, hf.row]
        rfl
      · rw [ht2, k1]
        simp only [List.length_nil, Nat.zero_add, List.length_append, List.length_cons]
        rw [show ((B.length + 1 : Nat) : Int) = (B.length : Int) + 1 by omega, Int.add_mul, Int.one_mul]
        omega
    | big hC2 he ha hR ht2 hM =>
      obtain rfl := hw.cls.unique hC2
      obtain ⟨k1, k2, k3⟩ := hf.big rfl
      subst k1
      have hq := mul_step (W := size + 3) hB (by omega)
      have hb := (hw.big rfl).1
      rw [k2] at hM
      have hM' := whole_took (by omega) (by omega) (by have : 0 ≤ (B.length : Int) * (size + 3) := Int.mul_nonneg (by omega) (by omega); omega) (by omega) hM
      refine ⟨at', T', D', R', top', M, [], rfl, hl', ht, fin [] ?_ (fun e => by omega) (fun _ => ⟨rfl, ?_⟩), hni, r1, by omega⟩
      · rw [hR]
        unfold put1
        rw [if_pos rfl, hf.row]
        rfl
      · rw [hM']
        simp only [List.length_append, List.length_cons, List.length_nil, Nat.zero_add]
        rw [show ((B.length + 1 : Nat) : Int) = (B.length : Int) + 1 by omega, Int.add_mul, Int.one_mul]
        congr 1 <;> omega
  · exfalso
    rcases hF with ⟨i2, hC2, hi2, hw2, hr⟩ | ⟨hC2, he⟩
    · obtain rfl := hw.cls.unique hC2
      rw [hf.row] at hw2
      have hw3 : Wh = [] := hw2
      subst hw3
      obtain ⟨k1, k2⟩ := hf.small hi2
      simp only [List.length_nil, Nat.zero_add] at k1
      have hz := hf.inv.sz i hi2
      have hq := mul_step (W := x.sz i + 3) hB (by omega)
      have hb := (hw.small hi2).1
      omega
    · obtain rfl := hw.cls.unique hC2
      obtain ⟨k1, k2, k3⟩ := hf.big rfl
      have hq := mul_step (W := size + 3) hB (by omega)
      have hb := (hw.big rfl).1
      rw [k2] at he
      exact he (whole_ok (by omega) (by omega)).1

set_option maxHeartbeats 4000000 in
theorem fill_full {x : HSpot} {size : Int} {i tot : Nat} {T : Nat → Nat} {D : Nat → Int} {R : Nat → Rows} {top par : Int} {L : List (Int × Int)} {B Wh : List Int} {w w' : World} {e : Ending} {pw pe : Int} (hw : Wants x size i tot) (hf : Fil x size i tot D R top par L B Wh) (hB : B.length = tot)
    (hp : pe = 0) (h : AllocsE pe pw x T D R top par L size w e w') : Wh = [] ∧ ∃ T', e = .returned (.tuple #[.int .i64 0, .int .i64 2]) ∧ HLies x T' D R top par L w' ∧ HTurn T T' w w' := by
  have s0 := hw.s0
  have hWh : Wh = [] := by
    by_cases g : i = x.k
    · exact (hf.big g).1
    · have := hw.cls.le
      rcases (hf.small (by omega)).2 with e | e
      · exact e
      · exact List.length_eq_zero_iff.1 (by omega)
  refine ⟨hWh, ?_⟩
  rcases h with ⟨h0, -⟩ | ⟨-, at', T', D', R', top', M, rfl, hl', ht, hA, hW⟩ | ⟨-, T', rfl, hl', ht, hF⟩
  · exact absurd hp h0
  · exfalso
    cases hA with
    | white i2 hC2 hi2 l hw2 hR ht2 hM =>
      obtain rfl := hw.cls.unique hC2
      rw [hf.row] at hw2
      have hw3 : Wh = at' :: l := hw2
      rw [hWh] at hw3
      cases hw3
    | fresh i2 hC2 hi2 hw2 hr ha hR ht2 hM =>
      obtain rfl := hw.cls.unique hC2
      obtain ⟨k1, k2⟩ := hf.small hi2
      rw [hWh, hB] at k1
      simp only [List.length_nil, Nat.zero_add] at k1
      have hb := (hw.small hi2).2
      omega
    | big hC2 he ha hR ht2 hM =>
      obtain rfl := hw.cls.unique hC2
      obtain ⟨k1, k2, k3⟩ := hf.big rfl
      have hb := (hw.big rfl).2
      rw [k2, hB] at he
      exact whole_err (by omega) (by omega) he
  · exact ⟨T', rfl, hl', ht⟩

theorem HInv.rows {x : HSpot} {D : Nat → Int} {R R' : Nat → Rows} {top : Int} {L : List (Int × Int)} (h : HInv x D R top L) (hm : ∀ i, i ≤ x.k → ∀ a, a ∈ (R' i).all ↔ a ∈ (R i).all) (hl : ∀ i, i ≤ x.k → (R' i).all.length = (R i).all.length) : HInv x D R' top L :=
  ⟨h.t0, h.t1, h.ln, h.n6, h.sz, fun i hi a ha => h.one i hi a ((hm i hi a).1 ha), fun i hi a ha => h.cell i hi a ((hm i (Nat.le_of_lt hi) a).1 ha), fun a ha => h.big a ((hm _ (Nat.le_refl _) a).1 ha),
    fun i hi j hj a ha b hb => h.apart i hi j hj a ((hm i hi a).1 ha) b ((hm j hj b).1 hb), fun i hi => by rw [hl i hi]; exact h.len i hi⟩

/-- A heap while it is swept: which large ones are there, how many are gone. -/
structure Swp (x : HSpot) (size : Int) (i tot : Nat) (D : Nat → Int) (R : Nat → Rows) (top par : Int) (L : List (Int × Int)) (Wh : List Int) (m : Nat) : Prop where
  row : R i = ⟨Wh, [], [], []⟩
  rest : ∀ j, j ≤ x.k → j ≠ i → R j = none4
  inv : HInv x D R top L
  par : par = 0 ∨ par = 1
  small : i < x.k → m = 0 ∧ Wh.length = tot ∧ top = 1 + (tot : Int) * (x.sz i + 3)
  big : i = x.k → m + Wh.length = tot ∧ Ex.total L = x.n - x.lim - Wh.length * (size + 3) ∧ ∀ c, c ∈ Wh → ∃ kd a m, Head D c kd size a m

/-- All asked: Begin, then End. -/
def cycled (x : HSpot) (R : Nat → Rows) : Nat → Rows := mix Rows.fin (mix Rows.begin R (x.k + 1)) (x.k + 1)
theorem cycled_at {x : HSpot} {R : Nat → Rows} {j : Nat} (hj : j ≤ x.k) : cycled x R j = ((R j).begin).fin := by
  unfold cycled mix
  rw [if_pos (by omega), if_pos (by omega)]
theorem fill_swept {x : HSpot} {size : Int} {i tot : Nat} {D : Nat → Int} {R : Nat → Rows} {top par : Int} {L : List (Int × Int)} {B : List Int} (hi : i ≤ x.k) (hf : Fil x size i tot D R top par L B []) (hB : B.length = tot) : Swp x size i tot D (cycled x R) top (1 - par) L B 0 := by
  have hall : ∀ j, j ≤ x.k → (cycled x R j).all = (R j).all := fun j hj => by
    rw [cycled_at hj]
    by_cases e : j = i
    · subst e
      rw [hf.row]
      simp [Rows.all, Rows.begin, Rows.fin]
    · rw [hf.rest j hj e]
      rfl
  refine ⟨?_, fun j hj e => ?_, hf.inv.rows (fun j hj a => by rw [hall j hj]) (fun j hj => by rw [hall j hj]), by have := hf.par; omega, fun g => ⟨rfl, hB, ?_⟩, fun g => ⟨by omega, ?_, (hf.big g).2.2⟩⟩
  · rw [cycled_at hi, hf.row]
    simp [Rows.begin, Rows.fin]
  · rw [cycled_at hj, hf.rest j hj e]
    rfl
  · have := (hf.small g).1
    simp only [List.length_nil, Nat.zero_add, hB] at this
    exact this
  · rw [(hf.big g).2.1, total_whole]
theorem swept_fill {x : HSpot} {size : Int} {i tot : Nat} {D : Nat → Int} {R : Nat → Rows} {top par : Int} {L : List (Int × Int)} {Wh : List Int} {m : Nat} (hG : Ex.Good x.lim (x.lim + (x.n - x.lim : Int)) L) (hs : Swp x size i tot D R top par L Wh m) (he : i = x.k → Wh = []) : Fil x size i tot D R top par L [] Wh := by
  refine ⟨hs.row, hs.rest, hs.inv, hs.par, fun g => ?_, fun g => ⟨he g, ?_, fun c hc => by cases hc⟩⟩
  · obtain ⟨h1, h2, h3⟩ := hs.small g
    simp only [List.length_nil, Nat.add_zero]
    rw [h2]
    exact ⟨h3, Or.inr rfl⟩
  · have h2 := (hs.big g).2.1
    rw [he g] at h2
    simp only [List.length_nil, Int.natCast_zero, Int.zero_mul, Int.sub_zero, Int.add_zero] at h2 ⊢
    exact whole_of_total hG h2

theorem swept_step {x : HSpot} {size : Int} {i tot : Nat} {D D' : Nat → Int} {R : Nat → Rows} {top par : Int} {L M : List (Int × Int)} {c : Int} {l : List Int} {m : Nat} (ek : i = x.k) (hG : Ex.Good x.lim (x.lim + (x.n - x.lim : Int)) L) (hs : Swp x size i tot D R top par L (c :: l) m) (hnd : (R x.k).all.Nodup)
    (hD : SameBut (R x.k) D D') (hM : Ex.Given x.lim (x.lim + (x.n - x.lim : Int)) x.lim (x.n - x.lim : Int) c (size + 3) L M) : Swp x size i tot D' (put1 R x.k (R x.k).drop) top par M l (m + 1) := by
  subst ek
  obtain ⟨b1, b2, b3⟩ := hs.big rfl
  have hW : (R x.k).white = c :: l := by rw [hs.row]
  obtain ⟨kd, a, mk, hd⟩ := b3 c (List.mem_cons_self ..)
  have hc : c ∈ (R x.k).all := List.mem_append_left _ (by rw [hW]; exact List.mem_cons_self ..)
  have hI' := sweep_inv hs.inv hW hd hnd hD hM
  refine ⟨?_, fun j hj e => ?_, hI', hs.par, fun g => absurd g (Nat.lt_irrefl _), fun _ => ⟨by simp at b1; omega, ?_, fun b hb => ?_⟩⟩
  · unfold put1
    rw [if_pos rfl, hs.row]
    rfl
  · unfold put1
    rw [if_neg e]
    exact hs.rest j hj e
  · rw [hM.2.2, if_pos (big_given hs.inv hG hc hd), b2]
    simp only [List.length_cons]
    rw [show ((l.length + 1 : Nat) : Int) = (l.length : Int) + 1 by omega, Int.add_mul, Int.one_mul]
    omega
  · obtain ⟨kd', a', mk', hd'⟩ := b3 b (List.mem_cons_of_mem _ hb)
    have hbm : b ∈ (R x.k).all := by rw [hs.row]; simp [Rows.all, hb]
    have q1 := hs.inv.one x.k (Nat.le_refl _) b hbm
    have q3 := (hs.inv.obj (Nat.le_refl _) hbm (show (0 : Int) + 3 ≤ wid x D x.k b by have := wid_three hs.inv x.k b; omega)).word (by omega)
    exact ⟨kd', a', mk', hd'.fit, (hD b.toNat fun hq => q3 x.k (Nat.le_refl _) _ hq (by omega)).trans hd'.word⟩

end Go.Proofs.Ytbjlpmjalidfkaa
