import Derived.WalkSpells
import Derived.WalkLawsBesides
import Derived.Deep.QuietTactic
import Derived.Deep.DeepCutAuto
import Derived.BigQuiet
import Derived.Laws.StructEq
import Derived.Lib.QuietBelow
import Derived.KernelRfl
import Derived.Test.YthliahaopelooaaMg4
/- Contracts of the word's small functions: the bits of a part, what is split off, what is joined; when two objects are the same. -/
namespace Go.Proofs.Ythliahaopelooaa.Ce
open Go.RowKit
theorem ret_i64 {a b : Int} (h : a = b) : Ending.returned (.int .i64 a) = .returned (.int .i64 b) := by rw [h]
theorem below_drewN {B : Nat} {a w : World} (h : Below B a w) (n : Nat) : Below B a (w.drewN n) := h.trans ⟨rfl, rfl, rfl, Nat.le_refl _, fun _ _ => rfl⟩
theorem onB {w W W' : World} (h : Below w.heap.size w W) (hb : Below W.heap.size W W') : Below w.heap.size w W' := h.trans (hb.mono h.size)
set_option maxHeartbeats 400000 in
set_option maxRecDepth 100000 in
theorem bits_kind (n : Int) (w : World) (hn : InR n) :
    Calls Try.prog 90 #[.int .i64 n, .int .i64 0, .int .i64 4] w fun e w' => e = .returned (.int .i64 (kb n)) ∧ Below w.heap.size w w' := by
  obtain ⟨h1, h2⟩ := hn
  go_enter Try.func90, Try.ntmps90
  go_wp2_with fail
  go_quiet (fail)
  go_wp2
  go_ret
  exact ⟨ret_i64 (and15 _), below_drewN (Below.refl _ _) _⟩
set_option maxHeartbeats 400000 in
set_option maxRecDepth 100000 in
theorem bits_mark (n : Int) (w : World) (hn : InR n) :
    Calls Try.prog 90 #[.int .i64 n, .int .i64 4, .int .i64 5] w fun e w' => e = .returned (.int .i64 (mb n)) ∧ Below w.heap.size w w' := by
  obtain ⟨h1, h2⟩ := hn
  go_enter Try.func90, Try.ntmps90
  go_wp2_with fail
  go_quiet (fail)
  go_wp2
  go_ret
  exact ⟨ret_i64 (and1 _), below_drewN (Below.refl _ _) _⟩
set_option maxHeartbeats 400000 in
set_option maxRecDepth 100000 in
theorem bits_size (n : Int) (w : World) (hn : InR n) :
    Calls Try.prog 90 #[.int .i64 n, .int .i64 5, .int .i64 10] w fun e w' => e = .returned (.int .i64 (sb n)) ∧ Below w.heap.size w w' := by
  obtain ⟨h1, h2⟩ := hn
  go_enter Try.func90, Try.ntmps90
  go_wp2_with fail
  go_quiet (fail)
  go_wp2
  go_ret
  exact ⟨ret_i64 (and31 _), below_drewN (Below.refl _ _) _⟩
set_option maxHeartbeats 400000 in
set_option maxRecDepth 100000 in
theorem bits_aux (n : Int) (w : World) (hn : InR n) :
    Calls Try.prog 90 #[.int .i64 n, .int .i64 10, .int .i64 34] w fun e w' => e = .returned (.int .i64 (ab n)) ∧ Below w.heap.size w w' := by
  obtain ⟨h1, h2⟩ := hn
  go_enter Try.func90, Try.ntmps90
  go_wp2_with fail
  go_quiet (fail)
  go_wp2
  go_ret
  exact ⟨ret_i64 (and24 _), below_drewN (Below.refl _ _) _⟩
/-- An object as it lies in a block of its own. -/
structure Box (w : World) (b : Nat) (k s a m : Value) : Prop where
  kind : w.cell? ⟨b, 0, none⟩ = some k
  size : w.cell? ⟨b, 1, none⟩ = some s
  aux : w.cell? ⟨b, 2, none⟩ = some a
  mark : w.cell? ⟨b, 3, none⟩ = some m
  f0 : w.frozen? ⟨b, 0, none⟩ = false
  f1 : w.frozen? ⟨b, 1, none⟩ = false
  f2 : w.frozen? ⟨b, 2, none⟩ = false
  f3 : w.frozen? ⟨b, 3, none⟩ = false
  lt : b < w.heap.size
theorem Box.later {w w' : World} {b : Nat} {k s a m : Value} (h : Box w b k s a m) (hb : Below w.heap.size w w') : Box w' b k s a m := by
  obtain ⟨h0, h1, h2, h3, g0, g1, g2, g3, hl⟩ := h
  have hs := hb.size
  exact ⟨(hb.cell hl).trans h0, (hb.cell hl).trans h1, (hb.cell hl).trans h2, (hb.cell hl).trans h3, (hb.frozen hl).trans g0, (hb.frozen hl).trans g1, (hb.frozen hl).trans g2, (hb.frozen hl).trans g3, by omega⟩
theorem box_new (w : World) (k s a m : Value) (t : TypeId) : Box (w.alloc (.cells #[k, s, a, m] t)) w.heap.size k s a m := by
  refine ⟨?_, ?_, ?_, ?_, ?_, ?_, ?_, ?_, ?_⟩ <;> simp [go_sem]
theorem Box.alloc {w : World} {b : Nat} {k s a m : Value} (h : Box w b k s a m) (o : Obj) : Box (w.alloc o) b k s a m :=
  h.later ((Below.refl _ _).alloc (Nat.le_refl _) o)
set_option maxHeartbeats 400000 in
set_option maxRecDepth 100000 in
theorem split_any (n : Int) (w : World) (hn : InR n) :
    Calls Try.prog 71 #[.int .i64 n] w fun e w' => e = .returned (.agg #[.int .i64 (kb n), .int .i64 (sb n), .int .i64 (ab n), .int .i64 (mb n)]) ∧ Below w.heap.size w w' := by
  have HN := Lib.hid hn
  clear hn
  have hB := (Below.refl w.heap.size w).alloc (Nat.le_refl _) (.cells #[.int .i64 0, .int .i64 0, .int .i64 0, .int .i64 0] 46)
  have hX := box_new w (.int .i64 0) (.int .i64 0) (.int .i64 0) (.int .i64 0) 46
  go_enter Try.func71, Try.ntmps71
  go_wp2_with fail
  generalize w.alloc (.cells #[.int .i64 0, .int .i64 0, .int .i64 0, .int .i64 0] 46) = W0 at hB hX ⊢
  refine (bits_kind n _ HN.out).mono ?_
  rintro e x1 ⟨rfl, hb⟩
  replace hB := onB hB hb
  replace hX := hX.later hb
  clear hb
  go_wp2_with fail
  refine (bits_mark n _ HN.out).mono ?_
  rintro e x2 ⟨rfl, hb⟩
  replace hB := onB hB hb
  replace hX := hX.later hb
  clear hb
  go_wp2_with fail
  refine (bits_size n _ HN.out).mono ?_
  rintro e x3 ⟨rfl, hb⟩
  replace hB := onB hB hb
  replace hX := hX.later hb
  clear hb
  go_wp2_with fail
  refine (bits_aux n _ HN.out).mono ?_
  rintro e x4 ⟨rfl, hb⟩
  replace hB := onB hB hb
  replace hX := hX.later hb
  clear hb
  obtain ⟨c0, c1, c2, c3, f0, f1, f2, f3, hl⟩ := hX
  go_wp2
  exact bodyPost_ret (v := .agg #[.int .i64 (kb n), .int .i64 (sb n), .int .i64 (ab n), .int .i64 (mb n)]) (by simp [results, Try.results71, go_sem, c0, c1, c2, c3]) rfl ⟨rfl, ((((hB.setCell (Nat.le_refl _) _).setCell (Nat.le_refl _) _).setCell (Nat.le_refl _) _).setCell (Nat.le_refl _) _)⟩
end Go.Proofs.Ythliahaopelooaa.Ce
/- The program's own word of an object, and the object of a word: what is answered, whatever is asked. -/
namespace Go.Proofs.Ythliahaopelooaa.Ce
open Go.RowKit Go.Sort
theorem eq_obj' (d : Nat) (k s a m k' s' a' m' : Int) (w : World) :
    (Op.equalIn (d + 2) 46 (.agg #[.int .i64 k, .int .i64 s, .int .i64 a, .int .i64 m]) (.agg #[.int .i64 k', .int .i64 s', .int .i64 a', .int .i64 m'])).run Try.prog w = .ok (k == k' && s == s' && a == a' && m == m') w := by
  have hf : Try.prog.underlying 46 = some (.struct (Try.prog.fieldsOf 46)) := by kernel_rfl
  have q : ∀ (x y : Int) (w : World), (Op.equalIn (d + 1) 3 (.int .i64 x) (.int .i64 y)).run Try.prog w = .ok (x == y) w := fun x y w => run_equalIn_int w d 3 .i64 .i64 x y Try.underlying3
  rw [run_equalIn_struct w (d + 1) 46 _ _ hf (by kernel_rfl)]
  generalize hE : Op.equalIn (d + 1) 3 = E at *
  have p0 : ∀ (x y z u : Int) (w : World), (part 3 #[.int .i64 x, .int .i64 y, .int .i64 z, .int .i64 u] 0).run Try.prog w = .ok (.int .i64 x) w := by intro x y z u w; simp [part, Try.isAgg3, go_sem]
  have p1 : ∀ (x y z u : Int) (w : World), (part 3 #[.int .i64 x, .int .i64 y, .int .i64 z, .int .i64 u] 1).run Try.prog w = .ok (.int .i64 y) w := by intro x y z u w; simp [part, Try.isAgg3, go_sem]
  have p2 : ∀ (x y z u : Int) (w : World), (part 3 #[.int .i64 x, .int .i64 y, .int .i64 z, .int .i64 u] 2).run Try.prog w = .ok (.int .i64 z) w := by intro x y z u w; simp [part, Try.isAgg3, go_sem]
  have p3 : ∀ (x y z u : Int) (w : World), (part 3 #[.int .i64 x, .int .i64 y, .int .i64 z, .int .i64 u] 3).run Try.prog w = .ok (.int .i64 u) w := by intro x y z u w; simp [part, Try.isAgg3, go_sem]
  have hl : (Try.prog.fieldsOf 46).toList = [⟨"Kind", 3, 0, false, "", "", 0⟩, ⟨"Size", 3, 1, false, "", "", 8⟩, ⟨"Aux", 3, 2, false, "", "", 16⟩, ⟨"Mark", 3, 3, false, "", "", 24⟩] := by kernel_rfl
  rw [hl]
  by_cases h1 : k = k' <;> by_cases h2 : s = s' <;> by_cases h3 : a = a' <;> by_cases h4 : m = m' <;> simp [Op.eqFields, hE, h1, h2, h3, h4, p0, p1, p2, p3, q]
theorem eq_obj (k s a m k' s' a' m' : Int) (w : World) :
    (Op.equalIn 10000 46 (.agg #[.int .i64 k, .int .i64 s, .int .i64 a, .int .i64 m]) (.agg #[.int .i64 k', .int .i64 s', .int .i64 a', .int .i64 m'])).run Try.prog w = .ok (k == k' && s == s' && a == a' && m == m') w :=
  eq_obj' 9998 k s a m k' s' a' m' w
set_option maxHeartbeats 400000 in
set_option maxRecDepth 100000 in
theorem join_raw (k s a m : Int) (w : World) :
    Calls Try.prog 73 #[.agg #[.int .i64 k, .int .i64 s, .int .i64 a, .int .i64 m]] w fun e w' => e = .returned (.int .i64 (IntKind.i64.wrap (jn k s a m))) ∧ Below w.heap.size w w' := by
  go_enter Try.func73, Try.ntmps73
  go_wp2
  go_ret
  refine ⟨?_, (Below.refl _ w).alloc (Nat.le_refl _) _⟩
  refine ret_i64 ?_
  rw [IntKind.wrap_i64]
  unfold jn wrap64
  omega
/-- What is split off a word is the same as an object. -/
def again (w k s a m : Int) : Bool := kb w == k && sb w == s && ab w == a && mb w == m
theorem split_regrown (n : Int) (W : World) (d : Nat) (os : Array Obj) (h : InR n) :
    Calls Try.prog 71 #[.int .i64 n] (grow (redrawn W d) os) fun e w'' => e = .returned (.agg #[.int .i64 (kb n), .int .i64 (sb n), .int .i64 (ab n), .int .i64 (mb n)]) ∧ ∃ p : Regrown, w'' = grow (redrawn W p.d) p.os :=
  Calls.regrown_of (split_any n _ h)
theorem again_ok {k s a m w : Int} (h : Fit k s a m) (hw : w = jn k s a m) : again w k s a m = true := by
  obtain ⟨h1, h2, h3, h4⟩ := parts_of h hw
  unfold again; simp [h1, h2, h3, h4]
theorem again_bad {k s a m w : Int} (hk : ¬ (k < 0 ∨ 10 < k)) (h : ¬ Fit k s a m) : again w k s a m = false := by
  cases hq : again w k s a m with
  | false => rfl
  | true =>
    unfold again at hq
    simp only [Bool.and_eq_true, beq_iff_eq, and_assoc] at hq
    exact (h (fit_of w hk hq)).elim
theorem wrap_in (n : Int) : InR (IntKind.i64.wrap n) := by rw [IntKind.wrap_i64]; unfold InR; omega
theorem wrap_fit {k s a m : Int} (h : Fit k s a m) : IntKind.i64.wrap (jn k s a m) = jn k s a m := by
  have := jn_range h
  rw [IntKind.wrap_i64]; omega
set_option maxHeartbeats 400000 in
set_option maxRecDepth 100000 in
theorem pack_kind (k s a m : Int) (w : World) (h : k < 0 ∨ 10 < k) :
    Calls Try.prog 50 #[.agg #[.int .i64 k, .int .i64 s, .int .i64 a, .int .i64 m]] w fun e w' => e = .returned (.tuple #[.int .i64 0, .int .i64 6]) ∧ Below w.heap.size w w' := by
  by_cases h0 : k < 0
  · go_enter Try.func50, Try.ntmps50
    go_wp2
    go_ret2
    exact ⟨rfl, (Below.refl _ w).alloc (Nat.le_refl _) _⟩
  · have h1 : 10 < k := by omega
    clear h
    go_enter Try.func50, Try.ntmps50
    go_wp2
    go_ret2
    exact ⟨rfl, (Below.refl _ w).alloc (Nat.le_refl _) _⟩
set_option maxHeartbeats 400000 in
set_option maxRecDepth 100000 in
theorem pack_in (k s a m : Int) (w : World) (h : ¬ (k < 0 ∨ 10 < k)) (b : Bool) (J : Int) (hJ : IntKind.i64.wrap (jn k s a m) = J) (hb : again J k s a m = b) :
    Calls Try.prog 50 #[.agg #[.int .i64 k, .int .i64 s, .int .i64 a, .int .i64 m]] w fun e w' => e = .returned (.tuple #[.int .i64 (if b then J else 0), .int .i64 (if b then 0 else 1)]) ∧ Below w.heap.size w w' := by
  have h0 : 0 ≤ k := by omega
  have h1 : k ≤ 10 := by omega
  clear h
  have HJ : InR J := hJ ▸ wrap_in _
  have hX := box_new w (.int .i64 k) (.int .i64 s) (.int .i64 a) (.int .i64 m) 46
  have hB := (Below.refl w.heap.size w).alloc (Nat.le_refl _) (.cells #[.int .i64 k, .int .i64 s, .int .i64 a, .int .i64 m] 46)
  have hjoin := fun W => join_raw k s a m W
  rw [hJ] at hjoin
  have HC := Lib.hid hjoin
  have he := fun W => eq_obj (kb J) (sb J) (ab J) (mb J) k s a m W
  have hb' : (kb J == k && sb J == s && ab J == a && mb J == m) = b := hb
  rw [hb'] at he
  have HE := Lib.hid he
  have HI := Lib.hid HJ
  clear hJ hjoin hb hb' he HJ
  go_enter Try.func50, Try.ntmps50
  go_wp2_with fail
  generalize w.alloc (.cells #[.int .i64 k, .int .i64 s, .int .i64 a, .int .i64 m] 46) = W0 at hB hX ⊢
  refine (HC.out _).mono ?_
  rintro e x1 ⟨rfl, hb⟩
  replace hB := onB hB hb
  replace hX := hX.later hb
  clear hb HC
  obtain ⟨c0, c1, c2, c3, f0, f1, f2, f3, hl⟩ := hX
  go_wp2_with fail
  have k0 := cell_regrown c0
  have k1 := cell_regrown c1
  have k2 := cell_regrown c2
  have k3 := cell_regrown c3
  have he := HE.out
  refine wp_region_quiet_below (by kernel_rfl) (by kernel_rfl) ?_
  repeat (first | go_big_quiet_skip | (quiet_step (exact split_regrown _ _ _ _ HI.out)))
  refine wpQuiet_nil ?_
  intro _ hw'
  obtain ⟨⟨dq, osq⟩, hw''⟩ := hw'
  subst hw''
  have hE := onB hB (below_regrown x1 dq osq)
  clear k0 k1 k2 k3 hB he
  cases b
  · go_wp2
    go_ret2
    exact ⟨rfl, hE⟩
  · go_wp2
    go_ret2
    exact ⟨rfl, hE⟩
theorem pack_any (k s a m : Int) (w : World) :
    Calls Try.prog 50 #[.agg #[.int .i64 k, .int .i64 s, .int .i64 a, .int .i64 m]] w fun e w' => e = .returned (.tuple #[.int .i64 (pw k s a m), .int .i64 (pe k s a m)]) ∧ Below w.heap.size w w' := by
  by_cases h : k < 0 ∨ 10 < k
  · rw [pw_kind h, pe_kind h]
    exact pack_kind k s a m w h
  · by_cases hf : Fit k s a m
    · rw [pw_ok hf, pe_ok hf]
      exact pack_in k s a m w h true _ (wrap_fit hf) (again_ok hf rfl)
    · rw [pw_range h hf, pe_range h hf]
      exact pack_in k s a m w h false _ rfl (again_bad h hf)
end Go.Proofs.Ythliahaopelooaa.Ce
/- A cell for an object of a size: of a class, or large. -/
namespace Go.Proofs.Ythliahaopelooaa
open Go.RowKit
theorem spot_cov {lo hi n : Int} {L : List (Int × Int)} (hG : Ex.Good lo hi L) (hn : 1 ≤ n) (he : Ex.tErr n L = 0) : lo ≤ Ex.tAt n L ∧ Ex.tAt n L + n ≤ hi ∧ ∀ m, Ex.tAt n L ≤ m → m < Ex.tAt n L + n → Ex.Cov L m := by
  rcases Ex.spot_cases n L with h | ⟨A, a, k, B, rfl, hA, hk⟩
  · unfold Ex.tErr at he
    rw [if_neg (by omega), Ex.spot_none h] at he
    simp at he
  · have e : Ex.tAt n (A ++ (a, k) :: B) = a := by
      unfold Ex.tAt
      rw [if_neg (by omega), Ex.spot_some hA hk]
      rfl
    rw [e]
    have hm : ((a, k) : Int × Int) ∈ A ++ (a, k) :: B := by simp
    have hb := Ex.good_mem hG hm
    simp only at hb
    exact ⟨hb.1, by omega, fun m h1 h2 => ⟨_, hm, by simp only; omega, by simp only; omega⟩⟩
/-- The room has been asked, its row is where it was. -/
theorem HLies.setRoom1 {x : HSpot} {T : Nat → Nat} {D : Nat → Int} {R : Nat → Rows} {top par : Int} {L M : List (Int × Int)} {w w' : World} {cb g : Nat} (h : HLies x T D R top par L w) (hT : Tags x T cb g) (hR : Ex.Room w' x.rp g x.lim (x.n - x.lim : Int) M) (hq : Ex.Apart x.rp g w w')
    (hc : ∃ cap, w.cell? ⟨x.h, 1, none⟩ = some (.slice (some ⟨cb, 0, none⟩) x.k cap)) (hcs : ∀ i, i < x.k → w.cell? ⟨cb, i * 2, none⟩ = some (.int .i64 (x.sz i)) ∧ w.cell? ⟨cb, i * 2 + 1, none⟩ = some (.pointer (some ⟨(x.S i).r, 0, none⟩))) :
    HLies x T D R top par M w' ∧ HTurn T T w w' := by
  obtain ⟨cap, hc⟩ := hc
  obtain ⟨u, hu⟩ := h.at
  have nr : ∀ b, T b ≠ 4 → b ≠ x.rp ∧ b ≠ g := fun b hb => ⟨fun e => hb (by rw [e]; exact hT.rp), fun e => hb (by rw [e]; exact hT.g)⟩
  have hk : ∀ b, b < w.heap.size → T b ≠ 4 → w'.heap[b]? = w.heap[b]? := fun b hl hb => hq.block b hl (nr b hb).1 (nr b hb).2
  have o : ∀ (b j : Nat) (v : Value), T b ≠ 4 → w.cell? ⟨b, j, none⟩ = some v → w'.cell? ⟨b, j, none⟩ = some v := fun b j v hb hv => (World.cell?_of_block (w := w) (hk b (World.block_lt_of_cell? _ _ hv) hb)).trans hv
  have h0 : T x.h ≠ 4 := by rw [hT.h]; omega
  have hA : At w' x.p x.d x.n D u := hu.move (hk _ hu.lp (by rw [hT.p]; omega)) (hk _ hu.ld (by rw [hT.d]; omega)) hq.size
  refine ⟨⟨o _ _ _ h0 h.arena, o _ _ _ h0 h.large, o _ _ _ h0 h.room, o _ _ _ h0 h.top, o _ _ _ h0 h.lim, o _ _ _ h0 h.par, fun j => (World.frozen?_of_block (w := w) (hk x.h h.lh h0)).trans (h.fz j), fun i hi => ?_, h.sp, h.k1, h.k6,
    cb, cap, g, hT, o _ _ _ h0 hc, fun i hi => ⟨o _ _ _ (by rw [hT.cb]; omega) (hcs i hi).1, o _ _ _ (by rw [hT.cb]; omega) (hcs i hi).2⟩, hR⟩,
    hq.os, hq.tape, hq.output, hq.size, fun b hl hb => ⟨hb, hk b hl (by omega)⟩⟩
  obtain ⟨e1, e2, e3⟩ := h.sp i hi
  exact (h.rings i hi).anew hq.size (fun b hb => hk b ((h.rings i hi).under.2.2 b hb) (by rw [hT.s i hi b hb]; omega)) ⟨u, by rw [e1, e2, e3]; exact hA⟩ (fun _ _ => rfl)
theorem TakenOf.before {x : HSpot} {T : Nat → Nat} {D : Nat → Int} {R : Nat → Rows} {top par : Int} {L : List (Int × Int)} {i : Nat} {w W : World} {e : Ending} {w' : World} (h : TakenOf x T D R top par L i W e w') (hb : HTurn T T w W) : TakenOf x T D R top par L i w e w' := by
  cases h with
  | white c l hw he h ht => exact .white c l hw he h (hb.trans ht)
  | fresh D' hw hr he h hD ht => exact .fresh D' hw hr he h hD (hb.trans ht)
  | full hw hr he h ht => exact .full hw hr he h (hb.trans ht)
/-- What take does. -/
inductive Taken (x : HSpot) (T : Nat → Nat) (D : Nat → Int) (R : Nat → Rows) (top par : Int) (L : List (Int × Int)) (size : Int) (w : World) (e : Ending) (w' : World) : Prop
  | small (i : Nat) (hC : Cls x.sz x.k size i) (hi : i < x.k) (h : TakenOf x T D R top par L i w e w')
  | big (hC : Cls x.sz x.k size x.k) (he : Ex.tErr (size + 3) L = 0) (D' : Nat → Int) (M : List (Int × Int)) (hr : e = .returned (.tuple #[.int .i64 (Ex.tAt (size + 3) L), .int .i64 0]))
      (h : HLies x T D' (put1 R x.k ((R x.k).grow (Ex.tAt (size + 3) L)).alloc) top par M w') (hD : SameBut ((R x.k).grow (Ex.tAt (size + 3) L)) D D') (hM : Ex.Took x.lim (x.lim + (x.n - x.lim : Int)) (size + 3) L M) (ht : HTurn T T w w')
  | none (hC : Cls x.sz x.k size x.k) (he : Ex.tErr (size + 3) L ≠ 0) (hr : e = .returned (.tuple #[.int .i64 (Ex.tAt (size + 3) L), .int .i64 (Ex.tErr (size + 3) L)])) (h : HLies x T D R top par L w') (ht : HTurn T T w w')
end Go.Proofs.Ythliahaopelooaa
/- What holds of a heap's cells; take. -/
namespace Go.Proofs.Ythliahaopelooaa
open Go.RowKit
/-- How many words a cell has. -/
def wid (x : HSpot) (D : Nat → Int) (i : Nat) (a : Int) : Int := (if i < x.k then x.sz i else Ce.sb (D a.toNat)) + 3
theorem sb_nonneg (w : Int) : 0 ≤ Ce.sb w := by unfold Ce.sb; omega
/-- What holds of a heap's cells. -/
structure HInv (x : HSpot) (D : Nat → Int) (R : Nat → Rows) (top : Int) (L : List (Int × Int)) : Prop where
  t0 : 1 ≤ top
  t1 : top ≤ x.lim
  ln : x.lim ≤ x.n
  n6 : x.n ≤ 65536
  sz : ∀ i, i < x.k → 1 ≤ x.sz i ∧ x.sz i ≤ 24
  one : ∀ i, i ≤ x.k → ∀ a, a ∈ (R i).all → 1 ≤ a
  cell : ∀ i, i < x.k → ∀ a, a ∈ (R i).all → a + x.sz i + 3 ≤ top
  big : ∀ a, a ∈ (R x.k).all → x.lim ≤ a ∧ a + wid x D x.k a ≤ x.n ∧ ∀ m, a ≤ m → m < a + wid x D x.k a → ¬ Ex.Cov L m
  apart : ∀ i, i ≤ x.k → ∀ j, j ≤ x.k → ∀ a, a ∈ (R i).all → ∀ b, b ∈ (R j).all → (i = j → a ≠ b) → a + wid x D i a ≤ b ∨ b + wid x D j b ≤ a
  len : ∀ i, i ≤ x.k → (R i).all.length < 1000
theorem wid_three {x : HSpot} {D : Nat → Int} {R : Nat → Rows} {top : Int} {L : List (Int × Int)} (h : HInv x D R top L) (i : Nat) (a : Int) : 3 ≤ wid x D i a := by
  unfold wid
  by_cases g : i < x.k
  · have := h.sz i g
    rw [if_pos g]
    omega
  · have := sb_nonneg (D a.toNat)
    rw [if_neg g]
    omega
theorem HInv.far {x : HSpot} {D : Nat → Int} {R : Nat → Rows} {top : Int} {L : List (Int × Int)} (h : HInv x D R top L) : Far x.k R := by
  intro i hi j hj hij a ha b hb
  have := h.apart i hi j hj a ha b hb (fun e => absurd e hij)
  have h1 := wid_three h i a
  have h2 := wid_three h j b
  omega
set_option maxHeartbeats 4000000 in
set_option maxRecDepth 100000 in
theorem take_any (x : HSpot) (T : Nat → Nat) (D : Nat → Int) (R : Nat → Rows) (top par : Int) (L : List (Int × Int)) (w : World) (h : HLies x T D R top par L w) (hI : HInv x D R top L) (size : Int) (hs : 0 ≤ size ∧ size ≤ 31) :
    Calls Try.prog 51 #[.pointer (some ⟨x.h, 0, none⟩), .int .i64 size] w (Taken x T D R top par L size w) := by
  obtain ⟨i, hC⟩ := cls_ex x.sz x.k size
  have H := Lib.hid h
  have HI := Lib.hid hI
  have H1 := Lib.hid (class_for x T D R top par L w h size i hC)
  have e1 : IntKind.i64.wrap (size + 3) = size + 3 := by rw [IntKind.wrap_i64]; omega
  clear h hI
  go_enter Try.func51, Try.ntmps51
  go_wp2_with fail
  refine H1.out.mono ?_
  rintro e w2 ⟨rfl, hb⟩
  have HB := Lib.hid (And.intro hb (H.out.later hb))
  clear hb H1
  by_cases hi : i < x.k
  · rw [if_pos hi]
    go_wp2_with fail
    have hx := (Below.refl w2.heap.size w2).alloc (Nat.le_refl _) (.cells #[.int .i64 (x.sz i), .pointer (some ⟨(x.S i).r, 0, none⟩)] 120)
    have HX := Lib.hid (And.intro (onB' HB.out.1 hx) (HB.out.2.later hx))
    generalize (w2.alloc (.cells #[.int .i64 (x.sz i), .pointer (some ⟨(x.S i).r, 0, none⟩)] 120)) = W at *
    clear hx
    refine (take_of x T D R top par L W HX.out.2 i hi (HI.out.sz i hi) HI.out.t0 HI.out.t1 HI.out.ln HI.out.n6 HI.out.far (fun j hj a ha => by have := HI.out.cell j hj a ha; have := HI.out.sz j hj; omega) (fun a ha => (HI.out.big a ha).1) (HI.out.len i (by omega))).mono ?_
    intro e w3 h3
    have h4 := h3.before (HTurn.of_below HX.out.1)
    clear h3
    obtain ⟨va, vb, he⟩ : ∃ a b : Int, e = .returned (.tuple #[.int .i64 a, .int .i64 b]) := by
      cases h4 with
      | white c l hw he h ht => exact ⟨_, _, he⟩
      | fresh D' hw hr he h hD ht => exact ⟨_, _, he⟩
      | full hw hr he h ht => exact ⟨_, _, he⟩
    subst he
    have H4 := Lib.hid h4
    clear h4
    go_wp2_with fail
    refine bodyPost_ret (v := .tuple #[.int .i64 va, .int .i64 vb]) (by simp [results, Try.results51, go_sem]) rfl ?_
    exact .small i hC hi H4.out
  · rw [if_neg hi]
    obtain rfl : i = x.k := by have := hC.le; omega
    have hx := (Below.refl w2.heap.size w2).alloc (Nat.le_refl _) (.cells #[.int .i64 0, .pointer none] 120)
    have c3 := later' hx HB.out.2.room
    have HX := Lib.hid (And.intro (onB' HB.out.1 hx) (HB.out.2.later hx))
    go_wp2_with fail
    generalize (w2.alloc (.cells #[.int .i64 0, .pointer none] 120)) = W at *
    clear hx c3 HB
    obtain ⟨cb, cap, g, hT, hc, hcs, hRm⟩ := HX.out.2.rest
    have hgood := hRm.good
    refine (Ex.room_take x.rp g x.lim (x.n - x.lim : Int) (size + 3) L W hRm).mono ?_
    rintro e w3 ⟨rfl, M, hR', hTk, hq⟩
    obtain ⟨h', t'⟩ := HX.out.2.setRoom1 hT hR' hq ⟨cap, hc⟩ hcs
    have H3 := Lib.hid (And.intro h' (And.intro ((HTurn.of_below HX.out.1).trans t') hTk))
    have HG := Lib.hid hgood
    clear hT hc hcs hRm hR' hq h' t' hTk hgood
    by_cases g0 : Ex.tErr (size + 3) L = 0
    · have hsp := spot_cov HG.out (by omega) g0
      have HS := Lib.hid hsp
      rw [g0]
      clear hsp
      generalize hat : Ex.tAt (size + 3) L = at' at *
      have c2 := H3.out.1.large
      go_wp2_with fail
      have hfar3 : ∀ a, a ∈ (R x.k).all → a + 3 ≤ at' ∨ at' + 3 ≤ a := fun a ha => by
        have h1 := (HI.out.big a ha).2.2
        have h2 := wid_three HI.out x.k a
        have h3 := HS.out.2.2
        by_cases q1 : a < at'
        · by_cases q2 : a + 3 ≤ at'
          · exact Or.inl q2
          · exact absurd (h3 at' (by omega) (by omega)) (h1 at' (by omega) (by omega))
        · by_cases q2 : at' + 3 ≤ a
          · exact Or.inr q2
          · exact absurd (h3 a (by omega) (by omega)) (h1 a (by omega) (by omega))
      have hlo := HS.out.1
      have hhi := HS.out.2.1
      have t0 := HI.out.t0
      have t1 := HI.out.t1
      have hfit : Fit (x.S x.k).n (at' :: (R x.k).all) := by
        have hf := (H3.out.1.rings x.k (Nat.le_refl _)).fit
        have e3 := (H3.out.1.sp x.k (Nat.le_refl _)).2.2
        rw [e3] at hf ⊢
        refine ⟨fun a ha => ?_, List.pairwise_cons.2 ⟨fun a ha => (hfar3 a ha).symm, hf.far⟩⟩
        rcases List.mem_cons.1 ha with rfl | ha
        · exact ⟨by omega, by omega⟩
        · exact hf.rng a ha
      refine (enter_ring (x.S x.k) (R x.k) D w3 (H3.out.1.rings x.k (Nat.le_refl _)) at' hfit (HI.out.len x.k (Nat.le_refl _))).mono ?_
      rintro e w4 ⟨rfl, ⟨D', h5, h6⟩, ht⟩
      have hfar : ∀ j, j ≤ x.k → j ≠ x.k → ∀ a, a ∈ ((R x.k).grow at').all → ∀ b, b ∈ (R j).all → a + 3 ≤ b ∨ b + 3 ≤ a := by
        intro j hj hji a ha b hb
        rcases List.mem_cons.1 (show a ∈ at' :: (R x.k).all from ha) with rfl | ha
        · have := HI.out.cell j (by omega) b hb
          have := HI.out.sz j (by omega)
          exact Or.inr (by omega)
        · exact HI.out.far x.k (Nat.le_refl _) j hj (Ne.symm hji) a ha b hb
      have H5 := Lib.hid (And.intro (H3.out.1.ring (Nat.le_refl _) h5 ht (far_links hfar h6)) h6)
      clear h5 h6 ht hfar hfit hfar3 hlo hhi c2
      go_wp2_with fail
      refine bodyPost_ret (v := .tuple #[.int .i64 at', .int .i64 0]) (by simp [results, Try.results51, go_sem]) rfl ?_
      subst hat
      exact .big hC g0 D' M rfl H5.out.1.1 H5.out.2 H3.out.2.2 (H3.out.2.1.trans H5.out.1.2)
    · have e2 : (Ex.tErr (size + 3) L != 0) = true := by simpa using g0
      have hML : M = L := by
        obtain ⟨h1, h2, -⟩ := H3.out.2.2
        exact Ex.good_unique h1 HG.out fun m => by
          rw [h2]
          exact ⟨fun h => h.1, fun h => ⟨h, fun h0 => absurd h0 g0⟩⟩
      subst hML
      have hat : Ex.tAt (size + 3) M = 0 := by
        unfold Ex.tAt
        rw [if_neg (by omega)]
        unfold Ex.tErr at g0
        rw [if_neg (by omega)] at g0
        cases hsp : Ex.spot (size + 3) M with
        | none => rfl
        | some a => rw [hsp] at g0; exact absurd rfl g0
      have HA := Lib.hid hat
      generalize hte : Ex.tErr (size + 3) M = te at *
      go_wp2_with fail
      refine bodyPost_ret (v := .tuple #[.int .i64 0, .int .i64 te]) (by simp [results, Try.results51, go_sem]) rfl ?_
      subst hte
      exact .none hC g0 (by rw [HA.out]) H3.out.1 H3.out.2.1
end Go.Proofs.Ythliahaopelooaa
/- What a take gives, in one shape; what holds of the cells behind it. -/
namespace Go.Proofs.Ythliahaopelooaa
open Go.RowKit
/-- Which cell an object is given. -/
inductive AllocP (x : HSpot) (R : Nat → Rows) (top : Int) (L : List (Int × Int)) (size at' : Int) (R' : Nat → Rows) (top' : Int) (M : List (Int × Int)) : Prop
  | white (i : Nat) (hC : Cls x.sz x.k size i) (hi : i < x.k) (l : List Int) (hw : (R i).white = at' :: l) (hR : R' = put1 R i (R i).alloc) (ht : top' = top) (hM : M = L)
  | fresh (i : Nat) (hC : Cls x.sz x.k size i) (hi : i < x.k) (hw : (R i).white = []) (hr : top + x.sz i + 3 ≤ x.lim) (ha : at' = top) (hR : R' = put1 R i ((R i).grow at').alloc) (ht : top' = top + x.sz i + 3) (hM : M = L)
  | big (hC : Cls x.sz x.k size x.k) (he : Ex.tErr (size + 3) L = 0) (ha : at' = Ex.tAt (size + 3) L) (hR : R' = put1 R x.k ((R x.k).grow at').alloc) (ht : top' = top) (hM : Ex.Took x.lim (x.lim + (x.n - x.lim : Int)) (size + 3) L M)
/-- There is no cell for it. -/
def FullP (x : HSpot) (R : Nat → Rows) (top : Int) (L : List (Int × Int)) (size : Int) : Prop :=
  (∃ i, Cls x.sz x.k size i ∧ i < x.k ∧ (R i).white = [] ∧ x.lim < top + x.sz i + 3) ∨ (Cls x.sz x.k size x.k ∧ Ex.tErr (size + 3) L ≠ 0)
theorem grown_mem {R : Rows} {c a : Int} : a ∈ (R.grow c).alloc.all ↔ a = c ∨ a ∈ R.all := by
  unfold Rows.all Rows.alloc Rows.grow
  simp only [List.tail_cons, List.take_succ_cons, List.take_zero, List.mem_append, List.mem_cons, List.not_mem_nil, or_false]
  constructor
  · rintro (h | h | h | h | h)
    · exact Or.inr (Or.inl h)
    · exact Or.inr (Or.inr (Or.inl h))
    · exact Or.inr (Or.inr (Or.inr (Or.inl h)))
    · exact Or.inr (Or.inr (Or.inr (Or.inr h)))
    · exact Or.inl h
  · rintro (h | h | h | h | h)
    · exact Or.inr (Or.inr (Or.inr (Or.inr h)))
    · exact Or.inl h
    · exact Or.inr (Or.inl h)
    · exact Or.inr (Or.inr (Or.inl h))
    · exact Or.inr (Or.inr (Or.inr (Or.inl h)))
theorem alloced_mem {R : Rows} {c a : Int} {l : List Int} (hw : R.white = c :: l) : a ∈ R.alloc.all ↔ a ∈ R.all := by
  unfold Rows.all Rows.alloc
  rw [hw]
  simp only [List.tail_cons, List.take_succ_cons, List.take_zero, List.mem_append, List.mem_cons, List.not_mem_nil, or_false]
  constructor
  · rintro (h | h | h | h | h)
    · exact Or.inl (Or.inr h)
    · exact Or.inr (Or.inl h)
    · exact Or.inr (Or.inr (Or.inl h))
    · exact Or.inr (Or.inr (Or.inr h))
    · exact Or.inl (Or.inl h)
  · rintro ((h | h) | h | h | h)
    · exact Or.inr (Or.inr (Or.inr (Or.inr h)))
    · exact Or.inl h
    · exact Or.inr (Or.inl h)
    · exact Or.inr (Or.inr (Or.inl h))
    · exact Or.inr (Or.inr (Or.inr (Or.inl h)))
theorem grown_len {R : Rows} {c : Int} : (R.grow c).alloc.all.length = R.all.length + 1 := by
  unfold Rows.all Rows.alloc Rows.grow
  simp
  omega
theorem alloced_len {R : Rows} {c : Int} {l : List Int} (hw : R.white = c :: l) : R.alloc.all.length = R.all.length := by
  unfold Rows.all Rows.alloc
  rw [hw]
  simp
  omega
/-- Which ring has it, and which cells there are. -/
theorem AllocP.cells {x : HSpot} {R : Nat → Rows} {top : Int} {L : List (Int × Int)} {size at' : Int} {R' : Nat → Rows} {top' : Int} {M : List (Int × Int)} (h : AllocP x R top L size at' R' top' M) :
    ∃ i, i ≤ x.k ∧ Cls x.sz x.k size i ∧ at' ∈ (R' i).all ∧ (∀ j, j ≠ i → R' j = R j) ∧ (∀ a, a ∈ (R' i).all ↔ a = at' ∨ a ∈ (R i).all) ∧ (R' i).all.length ≤ (R i).all.length + 1 := by
  cases h with
  | white i hC hi l hw hR ht hM =>
    have e : R' i = (R i).alloc := by rw [hR]; exact if_pos rfl
    have hm : at' ∈ (R i).all := List.mem_append_left _ (by rw [hw]; exact List.mem_cons_self ..)
    refine ⟨i, Nat.le_of_lt hi, hC, ?_, fun j hj => by rw [hR]; exact if_neg hj, fun a => ?_, ?_⟩
    · rw [e, alloced_mem hw]; exact hm
    · rw [e, alloced_mem hw]
      exact ⟨Or.inr, fun h => h.elim (fun e => e ▸ hm) id⟩
    · rw [e, alloced_len hw]; omega
  | fresh i hC hi hw hr ha hR ht hM =>
    have e : R' i = ((R i).grow at').alloc := by rw [hR]; exact if_pos rfl
    refine ⟨i, Nat.le_of_lt hi, hC, ?_, fun j hj => by rw [hR]; exact if_neg hj, fun a => ?_, ?_⟩
    · rw [e, grown_mem]; exact Or.inl rfl
    · rw [e, grown_mem]
    · rw [e, grown_len]; omega
  | big hC he ha hR ht hM =>
    have e : R' x.k = ((R x.k).grow at').alloc := by rw [hR]; exact if_pos rfl
    refine ⟨x.k, Nat.le_refl _, hC, ?_, fun j hj => by rw [hR]; exact if_neg hj, fun a => ?_, ?_⟩
    · rw [e, grown_mem]; exact Or.inl rfl
    · rw [e, grown_mem]
    · rw [e, grown_len]; omega
/-- What a take gives, in one shape. -/
def Gets (x : HSpot) (T : Nat → Nat) (D : Nat → Int) (R : Nat → Rows) (top par : Int) (L : List (Int × Int)) (size : Int) (w : World) (e : Ending) (w' : World) : Prop :=
  (∃ (at' : Int) (D1 : Nat → Int) (R' : Nat → Rows) (top' : Int) (M : List (Int × Int)), e = .returned (.tuple #[.int .i64 at', .int .i64 0]) ∧ HLies x T D1 R' top' par M w' ∧ HTurn T T w w' ∧
    AllocP x R top L size at' R' top' M ∧ ∀ m, (∀ i, i ≤ x.k → ¬ Links (R' i) m) → D1 m = D m) ∨
  (e = .returned (.tuple #[.int .i64 0, .int .i64 2]) ∧ HLies x T D R top par L w' ∧ HTurn T T w w' ∧ FullP x R top L size)
theorem Taken.gets {x : HSpot} {T : Nat → Nat} {D : Nat → Int} {R : Nat → Rows} {top par : Int} {L : List (Int × Int)} {size : Int} {w : World} {e : Ending} {w' : World} (hs : 0 ≤ size) (h : Taken x T D R top par L size w e w') : Gets x T D R top par L size w e w' := by
  cases h with
  | small i hC hi h =>
    cases h with
    | white c l hw he h ht => exact Or.inl ⟨c, D, _, _, _, he, h, ht, .white i hC hi l hw rfl rfl rfl, fun _ _ => rfl⟩
    | fresh D' hw hr he h hD ht =>
      refine Or.inl ⟨top, D', _, _, _, he, h, ht, .fresh i hC hi hw hr rfl rfl rfl rfl, fun m hm => hD m ?_⟩
      have := hm i (by omega)
      unfold put1 at this
      rw [if_pos rfl] at this
      rintro ⟨a, ha, h2⟩
      exact this ⟨a, grown_mem.2 (List.mem_cons.1 (show a ∈ top :: (R i).all from ha)), h2⟩
    | full hw hr he h ht => exact Or.inr ⟨he, h, ht, Or.inl ⟨i, hC, hi, hw, hr⟩⟩
  | big hC he D' M hr h hD hM ht =>
    refine Or.inl ⟨_, D', _, _, _, hr, h, ht, .big hC he rfl rfl rfl hM, fun m hm => hD m ?_⟩
    have := hm x.k (Nat.le_refl _)
    unfold put1 at this
    rw [if_pos rfl] at this
    rintro ⟨a, ha, h2⟩
    exact this ⟨a, grown_mem.2 (List.mem_cons.1 (show a ∈ _ :: (R x.k).all from ha)), h2⟩
  | none hC he hr h ht =>
    refine Or.inr ⟨?_, h, ht, Or.inr ⟨hC, he⟩⟩
    rw [hr]
    unfold Ex.tErr at he ⊢
    unfold Ex.tAt
    rw [if_neg (by omega)] at he ⊢
    rw [if_neg (by omega)]
    cases hsp : Ex.spot (size + 3) L with
    | none => rfl
    | some a => rw [hsp] at he; exact absurd rfl he
/-- How large the new cell is, and where it may lie. -/
theorem AllocP.room {x : HSpot} {D : Nat → Int} {R : Nat → Rows} {top : Int} {L : List (Int × Int)} {size at' : Int} {R' : Nat → Rows} {top' : Int} {M : List (Int × Int)} (h : AllocP x R top L size at' R' top' M) (hI : HInv x D R top L) (hG : Ex.Good x.lim (x.lim + (x.n - x.lim : Int)) L) (hs : 0 ≤ size) :
    1 ≤ at' ∧ at' + size + 3 ≤ x.n ∧ ∀ i, i ≤ x.k → ∀ c, c ∈ (R' i).all → c = at' ∨ c + 3 ≤ at' ∨ at' + size + 3 ≤ c := by
  have t0 := hI.t0
  have t1 := hI.t1
  have ln := hI.ln
  cases h with
  | white i hC hi l hw hR ht hM =>
    have hm : at' ∈ (R i).all := List.mem_append_left _ (by rw [hw]; exact List.mem_cons_self ..)
    have h1 := hI.cell i hi at' hm
    have h2 := hC.fits hi
    refine ⟨hI.one i (by omega) at' hm, by omega, fun j hj c hc => ?_⟩
    have hc' : c ∈ (R j).all := by
      rw [hR] at hc
      unfold put1 at hc
      by_cases e : j = i
      · rw [if_pos e, alloced_mem hw] at hc
        rw [e]; exact hc
      · rwa [if_neg e] at hc
    by_cases e : c = at'
    · exact Or.inl e
    · have h3 := hI.apart j hj i (by omega) c hc' at' hm (fun _ => e)
      have h4 := wid_three hI j c
      have h5 : wid x D i at' = x.sz i + 3 := by unfold wid; rw [if_pos hi]
      omega
  | fresh i hC hi hw hr ha hR ht hM =>
    have h2 := hC.fits hi
    refine ⟨by omega, by omega, fun j hj c hc => ?_⟩
    rw [hR] at hc
    unfold put1 at hc
    have key : ∀ j, j ≤ x.k → c ∈ (R j).all → c = at' ∨ c + 3 ≤ at' ∨ at' + size + 3 ≤ c := fun j hj hc => by
      by_cases ek : j = x.k
      · subst ek
        have := (hI.big c hc).1
        omega
      · have := hI.cell j (by omega) c hc
        have := hI.sz j (by omega)
        omega
    by_cases e : j = i
    · rw [if_pos e, grown_mem] at hc
      rcases hc with hc | hc
      · exact Or.inl hc
      · exact key i (by omega) hc
    · rw [if_neg e] at hc
      exact key j hj hc
  | big hC he ha hR ht hM =>
    obtain ⟨s1, s2, s3⟩ := spot_cov hG (by omega) he
    rw [← ha] at s1 s2 s3
    refine ⟨by omega, by omega, fun j hj c hc => ?_⟩
    rw [hR] at hc
    unfold put1 at hc
    have key : c ∈ (R x.k).all → c = at' ∨ c + 3 ≤ at' ∨ at' + size + 3 ≤ c := fun hc => by
      have h1 := (hI.big c hc).2.2
      have h2 := wid_three hI x.k c
      by_cases q1 : c < at'
      · by_cases q2 : c + 3 ≤ at'
        · exact Or.inr (Or.inl q2)
        · exact absurd (s3 at' (by omega) (by omega)) (h1 at' (by omega) (by omega))
      · by_cases q2 : at' + size + 3 ≤ c
        · exact Or.inr (Or.inr q2)
        · exact absurd (s3 c (by omega) (by omega)) (h1 c (by omega) (by omega))
    by_cases e : j = x.k
    · rw [if_pos e, grown_mem] at hc
      rcases hc with hc | hc
      · exact Or.inl hc
      · exact key hc
    · rw [if_neg e] at hc
      have := hI.cell j (by omega) c hc
      have := hI.sz j (by omega)
      omega
end Go.Proofs.Ythliahaopelooaa
/- Alloc. -/
namespace Go.Proofs.Ythliahaopelooaa
open Go.RowKit
/-- An object's words have been written: what it is, and noughts. -/
structure Wrote (x : HSpot) (R' : Nat → Rows) (D D' : Nat → Int) (at' size word : Int) : Prop where
  hd : D' at'.toNat = word
  zero : ∀ k, 0 ≤ k → k < size → D' (at' + 3 + k).toNat = 0
  keep : ∀ m : Nat, ((m : Int) < at' ∨ at' + size + 3 ≤ m) → (∀ i, i ≤ x.k → ¬ Links (R' i) m) → D' m = D m
/-- What Alloc does, by what Pack tells. -/
def AllocsE (pe pw : Int) (x : HSpot) (T : Nat → Nat) (D : Nat → Int) (R : Nat → Rows) (top par : Int) (L : List (Int × Int)) (size : Int) (w : World) (e : Ending) (w' : World) : Prop :=
  (pe ≠ 0 ∧ e = .returned (.tuple #[.int .i64 0, .int .i64 pe]) ∧ HLies x T D R top par L w' ∧ HTurn T T w w') ∨
  (pe = 0 ∧ ∃ (at' : Int) (D' : Nat → Int) (R' : Nat → Rows) (top' : Int) (M : List (Int × Int)), e = .returned (.tuple #[.int .i64 at', .int .i64 0]) ∧ HLies x T D' R' top' par M w' ∧ HTurn T T w w' ∧
    AllocP x R top L size at' R' top' M ∧ Wrote x R' D D' at' size pw) ∨
  (pe = 0 ∧ e = .returned (.tuple #[.int .i64 0, .int .i64 2]) ∧ HLies x T D R top par L w' ∧ HTurn T T w w' ∧ FullP x R top L size)
theorem clear_link {k : Nat} {R : Nat → Rows} {at' size : Int} (hs : 0 ≤ size) (hc : ∀ i, i ≤ k → ∀ c, c ∈ (R i).all → c = at' ∨ c + 3 ≤ at' ∨ at' + size + 3 ≤ c) {i : Nat} (hi : i ≤ k) {m : Nat} (hl : Links (R i) m) : (m : Int) ≠ at' ∧ ∀ j, 0 ≤ j → j < size → (m : Int) ≠ at' + 3 + j := by
  obtain ⟨c, hm, h⟩ := hl
  have := hc i hi c hm
  exact ⟨by omega, fun j h1 h2 => by omega⟩
set_option maxHeartbeats 8000000 in
set_option maxRecDepth 100000 in
theorem alloc_any (x : HSpot) (T : Nat → Nat) (D : Nat → Int) (R : Nat → Rows) (top par : Int) (L : List (Int × Int)) (w : World) (h : HLies x T D R top par L w) (hI : HInv x D R top L) (kind aux size : Int) :
    Calls Try.prog 23 #[.pointer (some ⟨x.h, 0, none⟩), .int .i64 kind, .int .i64 aux, .int .i64 size] w (AllocsE (Ce.pe kind size aux par) (Ce.pw kind size aux par) x T D R top par L size w) := by
  have c6 := h.par
  have hG : Ex.Good x.lim (x.lim + (x.n - x.lim : Int)) L := by
    obtain ⟨cb, cap, g, -, -, -, hR⟩ := h.rest
    exact hR.good
  have hp := fun w => Ce.pack_any kind size aux par w
  have H := Lib.hid h
  have HI := Lib.hid hI
  have HG := Lib.hid hG
  have HP := Lib.hid hp
  have hfit : Ce.pe kind size aux par = 0 → 0 ≤ size ∧ size ≤ 31 := fun e => ((Ce.pe_fit _ _ _ _).1 e).2.1
  have HFT := Lib.hid hfit
  clear h hI hG hp hfit
  generalize Ce.pe kind size aux par = pe at *
  generalize Ce.pw kind size aux par = pw at *
  go_enter Try.func23, Try.ntmps23
  go_wp2_with fail
  refine (HP.out w).mono ?_
  rintro e w2 ⟨rfl, hb⟩
  have HB := Lib.hid (And.intro hb (H.out.later hb))
  clear hb c6
  by_cases g0 : pe = 0
  · subst g0
    obtain ⟨s0, s1⟩ := HFT.out rfl
    go_wp2_with fail
    refine (take_any x T D R top par L w2 HB.out.2 HI.out size ⟨s0, s1⟩).mono ?_
    intro e w3 h3
    rcases h3.gets s0 with ⟨at', D1, R', top', M, rfl, h4, t4, hA, hk⟩ | ⟨rfl, h4, t4, hF⟩
    · have hrm := hA.room HI.out HG.out s0
      have H4 := Lib.hid (And.intro h4 (And.intro ((HTurn.of_below HB.out.1).trans t4) (And.intro hA (And.intro hk hrm))))
      have a1 := hrm.1
      have a2 := hrm.2.1
      have hn := HI.out.n6
      clear h3 h4 t4 hA hk hrm
      obtain ⟨u, hu⟩ := H4.out.1.at
      have c0 := H4.out.1.arena
      have HU := Lib.hid hu
      clear hu
      go_wp2_with fail
      refine (store_in x.p x.d x.n D1 u at' pw w3 HU.out (by omega) (by omega)).mono ?_
      rintro e w5 ⟨rfl, hA5, hq⟩
      obtain ⟨h5, t5⟩ := H4.out.1.words hA5 hq (fun i hi m hm => if_neg (by have := (clear_link s0 H4.out.2.2.2.2.2.2 hi hm).1; omega))
      have HW : Hid (HLies x T (fun k => if k = at'.toNat then pw else D1 k) R' top' par M w5 ∧ HTurn T T w w5) := ⟨h5, H4.out.2.1.trans t5⟩
      clear hA5 hq h5 t5 c0 HU
      obtain ⟨s, rfl⟩ : ∃ s : Nat, size = s := ⟨size.toNat, by omega⟩
      go_wp2_with fail
      go_loopw [46] (fun s46 wr => ∃ (j : Nat) (Dj : Nat → Int), j ≤ s ∧ s46 = .int .i64 j ∧ HLies x T Dj R' top' par M wr ∧ HTurn T T w wr ∧ Dj at'.toNat = pw ∧ (∀ k : Int, 0 ≤ k → k < j → Dj (at' + 3 + k).toNat = 0) ∧ ∀ m : Nat, ((m : Int) < at' ∨ at' + s + 3 ≤ m) → Dj m = D1 m) (fun s46 _ => s - (intOf s46).toNat)
      case atStart => exact ⟨0, _, Nat.zero_le _, rfl, HW.out.1, HW.out.2, if_pos rfl, fun k h1 h2 => by omega, fun m hm => if_neg (by omega)⟩
      case round =>
        clear HW
        obtain ⟨j, Dj, hj, rfl, h6, t6, p1, p2, p3⟩ := hrel
        have H6 := Lib.hid (And.intro h6 (And.intro t6 (And.intro p1 (And.intro p2 p3))))
        have c0 := h6.arena
        clear h6 t6 p1 p2 p3
        by_cases hlt : j < s
        · have hlt' : (j : Int) < (s : Int) := by omega
          obtain ⟨u, hu⟩ := H6.out.1.at
          have HU := Lib.hid hu
          have e1 : IntKind.i64.wrap (at' + 3) = at' + 3 := by rw [IntKind.wrap_i64]; omega
          have e2 : IntKind.i64.wrap (at' + 3 + j) = at' + 3 + j := by rw [IntKind.wrap_i64]; omega
          clear hu
          go_wp2_with fail
          refine (store_in x.p x.d x.n Dj u (at' + 3 + j) 0 wr HU.out (by omega) (by omega)).mono ?_
          rintro e w7 ⟨rfl, hA7, hq⟩
          obtain ⟨h7, t7⟩ := H6.out.1.words hA7 hq (fun i hi m hm => if_neg (by have := (clear_link s0 H4.out.2.2.2.2.2.2 hi hm).2 j (by omega) (by omega); omega))
          have H7 := Lib.hid (And.intro h7 (H6.out.2.1.trans t7))
          clear hA7 hq h7 t7 c0 HU
          go_wp2_with fail
          go_roundw
          case rel =>
            refine ⟨j + 1, _, by omega, by go_num, H7.out.1, H7.out.2, ?_, fun k h1 h2 => ?_, fun m hm => ?_⟩
            · rw [if_neg (by omega)]; exact H6.out.2.2.1
            · by_cases e : k = j
              · subst e
                exact if_pos rfl
              · rw [if_neg (by omega)]
                exact H6.out.2.2.2.1 k h1 (by omega)
            · rw [if_neg (by omega)]
              exact H6.out.2.2.2.2 m hm
          case measure => simp [intOf]; omega
        · obtain rfl : j = s := by omega
          go_wp2_with fail
          refine bodyPost_ret (v := .tuple #[.int .i64 at', .int .i64 0]) (by simp [results, Try.results23, go_sem]) rfl ?_
          refine (Or.inr (Or.inl ⟨rfl, at', Dj, R', top', M, rfl, H6.out.1, H6.out.2.1, H4.out.2.2.1, ⟨H6.out.2.2.1, H6.out.2.2.2.1, fun m hm hl => ?_⟩⟩))
          exact (H6.out.2.2.2.2 m hm).trans (H4.out.2.2.2.1 m hl)
    · have H4 := Lib.hid (And.intro h4 (And.intro ((HTurn.of_below HB.out.1).trans t4) hF))
      clear h3 h4 t4 hF
      go_wp2_with fail
      refine bodyPost_ret (v := .tuple #[.int .i64 0, .int .i64 2]) (by simp [results, Try.results23, go_sem]) rfl ?_
      exact (Or.inr (Or.inr ⟨rfl, rfl, H4.out.1, H4.out.2.1, H4.out.2.2⟩))
  · have e1 : (pe != 0) = true := by simpa using g0
    go_wp2_with fail
    refine bodyPost_ret (v := .tuple #[.int .i64 0, .int .i64 pe]) (by simp [results, Try.results23, go_sem]) rfl ?_
    exact (Or.inl ⟨g0, rfl, HB.out.2, HTurn.of_below HB.out.1⟩)
end Go.Proofs.Ythliahaopelooaa
/- What holds of the cells behind an Alloc. -/
namespace Go.Proofs.Ythliahaopelooaa
open Go.RowKit
theorem wid_class {x : HSpot} {D D' : Nat → Int} {i : Nat} (hi : i < x.k) (a : Int) : wid x D i a = wid x D' i a := by
  unfold wid
  rw [if_pos hi, if_pos hi]
theorem wid_same {x : HSpot} {D D' : Nat → Int} {i : Nat} {a : Int} (h : D' a.toNat = D a.toNat) : wid x D' i a = wid x D i a := by
  unfold wid
  rw [h]
theorem alloc_inv {x : HSpot} {D D' : Nat → Int} {R : Nat → Rows} {top : Int} {L : List (Int × Int)} {size at' word : Int} {R' : Nat → Rows} {top' : Int} {M : List (Int × Int)} (hI : HInv x D R top L) (hG : Ex.Good x.lim (x.lim + (x.n - x.lim : Int)) L)
    (hA : AllocP x R top L size at' R' top' M) (hW : Wrote x R' D D' at' size word) (hs : 0 ≤ size) (hsb : Ce.sb word = size) (hlen : ∀ i, i ≤ x.k → (R i).all.length < 999) : HInv x D' R' top' M := by
  obtain ⟨r1, r2, hcl⟩ := hA.room hI hG hs
  obtain ⟨i, hi, hC, hat, hne, hmem, hln⟩ := hA.cells
  have t0 := hI.t0
  have t1 := hI.t1
  have old : ∀ j, j ≤ x.k → ∀ a, a ∈ (R' j).all → (j = i ∧ a = at') ∨ a ∈ (R j).all := fun j hj a ha => by
    by_cases e : j = i
    · subst e
      rcases (hmem a).1 ha with h | h
      · exact Or.inl ⟨rfl, h⟩
      · exact Or.inr h
    · rw [hne j e] at ha
      exact Or.inr ha
  have new : ∀ j, j ≤ x.k → ∀ a, a ∈ (R j).all → a ∈ (R' j).all := fun j hj a ha => by
    by_cases e : j = i
    · subst e
      exact (hmem a).2 (Or.inr ha)
    · rw [hne j e]; exact ha
  -- headers of other cells stand
  have hdr : ∀ j, j ≤ x.k → ∀ a, a ∈ (R j).all → a ≠ at' → D' a.toNat = D a.toNat := fun j hj a ha hna => by
    have h1 := hI.one j hj a ha
    have h2 := hcl j hj a (new j hj a ha)
    refine hW.keep a.toNat (by omega) fun m hm => ?_
    rintro ⟨c, hc, hl⟩
    rcases old m hm c hc with ⟨_, e⟩ | hc'
    · omega
    · by_cases e : m = j ∧ c = a
      · omega
      · have h3 := hI.apart m hm j hj c hc' a ha (fun e1 e2 => e ⟨e1, e2⟩)
        have h4 := wid_three hI m c
        have h5 := wid_three hI j a
        omega
  have hw : ∀ j, j ≤ x.k → ∀ a, a ∈ (R j).all → (a ≠ at' ∨ j < x.k) → wid x D' j a = wid x D j a := fun j hj a ha h => by
    rcases h with h | h
    · exact wid_same (hdr j hj a ha h)
    · exact wid_class h a
  have hwk : wid x D' x.k at' = size + 3 := by
    unfold wid
    rw [if_neg (Nat.lt_irrefl _), hW.hd, hsb]
  have lens : ∀ j, j ≤ x.k → (R' j).all.length < 1000 := fun j hj => by
    have := hlen j hj
    by_cases e : j = i
    · subst e; omega
    · rw [hne j e]; omega
  have ones : ∀ j, j ≤ x.k → ∀ a, a ∈ (R' j).all → 1 ≤ a := fun j hj a ha => by
    rcases old j hj a ha with ⟨_, rfl⟩ | h
    · exact r1
    · exact hI.one j hj a h
  -- the new cell, and an old one
  have pair : (∀ j, j ≤ x.k → ∀ b, b ∈ (R j).all → (i = j → at' ≠ b) → at' + wid x D' i at' ≤ b ∨ b + wid x D' j b ≤ at') → ∀ i', i' ≤ x.k → ∀ j, j ≤ x.k → ∀ a, a ∈ (R' i').all → ∀ b, b ∈ (R' j).all → (i' = j → a ≠ b) → a + wid x D' i' a ≤ b ∨ b + wid x D' j b ≤ a := by
    intro hp i' hi' j hj a ha b hb hab
    rcases old i' hi' a ha with ⟨e1, e2⟩ | ha'
    · have hab' : i = j → at' ≠ b := fun e => by
        have := hab (e1.trans e)
        rwa [e2] at this
      rw [e1, e2]
      rcases old j hj b hb with ⟨e3, e4⟩ | hb'
      · exact absurd e4.symm (hab' e3.symm)
      · exact hp j hj b hb' hab'
    · rcases old j hj b hb with ⟨e3, e4⟩ | hb'
      · rw [e3, e4]
        exact (hp i' hi' a ha' (fun e e' => hab (e.symm.trans e3.symm) (e'.symm.trans e4.symm))).symm
      · by_cases q1 : a = at' ∧ i' = i
        · rw [q1.1, q1.2]
          exact hp j hj b hb' (fun e => by have := hab (q1.2.trans e); rwa [q1.1] at this)
        · by_cases q2 : b = at' ∧ j = i
          · rw [q2.1, q2.2]
            exact (hp i' hi' a ha' (fun e e' => hab (e.symm.trans q2.2.symm) (e'.symm.trans q2.1.symm))).symm
          · have h1 := hI.apart i' hi' j hj a ha' b hb' hab
            have h2 := wid_three hI i' a
            have h3 := wid_three hI j b
            have h4 : a ≠ at' := fun e => by
              by_cases e5 : i' = i
              · exact q1 ⟨e, e5⟩
              · have := hcl i' hi' a ha
                have h6 := hp i' hi' a ha' (fun e6 => absurd e6.symm e5)
                rw [e] at h6
                have h7 : 3 ≤ wid x D' i at' := by
                  unfold wid
                  by_cases g : i < x.k
                  · have := hI.sz i g; rw [if_pos g]; omega
                  · have := sb_nonneg (D' at'.toNat); rw [if_neg g]; omega
                have h8 : 3 ≤ wid x D' i' at' := by
                  unfold wid
                  by_cases g : i' < x.k
                  · have := hI.sz i' g; rw [if_pos g]; omega
                  · have := sb_nonneg (D' at'.toNat); rw [if_neg g]; omega
                omega
            have h5 : b ≠ at' := fun e => by
              by_cases e5 : j = i
              · exact q2 ⟨e, e5⟩
              · have h6 := hp j hj b hb' (fun e6 => absurd e6.symm e5)
                rw [e] at h6
                have h7 : 3 ≤ wid x D' i at' := by
                  unfold wid
                  by_cases g : i < x.k
                  · have := hI.sz i g; rw [if_pos g]; omega
                  · have := sb_nonneg (D' at'.toNat); rw [if_neg g]; omega
                have h8 : 3 ≤ wid x D' j at' := by
                  unfold wid
                  by_cases g : j < x.k
                  · have := hI.sz j g; rw [if_pos g]; omega
                  · have := sb_nonneg (D' at'.toNat); rw [if_neg g]; omega
                omega
            rw [hw i' hi' a ha' (Or.inl h4), hw j hj b hb' (Or.inl h5)]
            exact h1
  cases hA with
  | white i2 hC2 hi2 l hwh hR ht hM =>
    subst ht hM
    have hm : at' ∈ (R i2).all := List.mem_append_left _ (by rw [hwh]; exact List.mem_cons_self ..)
    have same : ∀ j, j ≤ x.k → ∀ a, a ∈ (R' j).all → a ∈ (R j).all := fun j hj a ha => by
      rw [hR] at ha
      unfold put1 at ha
      by_cases e : j = i2
      · rw [if_pos e, alloced_mem hwh] at ha
        rw [e]; exact ha
      · rwa [if_neg e] at ha
    have c1 := hI.cell i2 hi2 at' hm
    have big : ∀ a, a ∈ (R x.k).all → a ≠ at' := fun a ha => by
      have := (hI.big a ha).1
      have := hI.sz i2 hi2
      omega
    have hw' : ∀ j, j ≤ x.k → ∀ a, a ∈ (R j).all → wid x D' j a = wid x D j a := fun j hj a ha => by
      by_cases e : j = x.k
      · subst e
        exact hw _ hj a ha (Or.inl (big a ha))
      · exact hw j hj a ha (Or.inr (by omega))
    refine ⟨t0, t1, hI.ln, hI.n6, hI.sz, ones, fun j hj a ha => hI.cell j hj a (same j (by omega) a ha), fun a ha => ?_, fun i' hi' j hj a ha b hb hab => ?_, lens⟩
    · have ha' := same x.k (Nat.le_refl _) a ha
      rw [hw' x.k (Nat.le_refl _) a ha']
      exact hI.big a ha'
    · have ha' := same i' hi' a ha
      have hb' := same j hj b hb
      rw [hw' i' hi' a ha', hw' j hj b hb']
      exact hI.apart i' hi' j hj a ha' b hb' hab
  | fresh i2 hC2 hi2 hwh hr ha2 hR ht hM =>
    subst ht hM
    have hz := hI.sz i2 hi2
    have e2 : i = i2 := by
      by_cases e : i = i2
      · exact e
      · exfalso
        rw [hR] at hat
        unfold put1 at hat
        rw [if_neg e] at hat
        by_cases g : i = x.k
        · rw [g] at hat
          have := (hI.big at' hat).1
          omega
        · have := hI.cell i (by omega) at' hat
          have := hI.sz i (by omega)
          omega
    subst e2
    have hwi : wid x D' i at' = x.sz i + 3 := by unfold wid; rw [if_pos hi2]
    refine ⟨by omega, by omega, hI.ln, hI.n6, hI.sz, ones, fun j hj a ha => ?_, fun a ha => ?_, pair fun j hj b hb _ => ?_, lens⟩
    · rcases old j (by omega) a ha with ⟨e1, e3⟩ | h
      · subst e1 e3; omega
      · have := hI.cell j hj a h; omega
    · rcases old x.k (Nat.le_refl _) a ha with ⟨e1, e3⟩ | h
      · omega
      · rw [hw x.k (Nat.le_refl _) a h (Or.inl (by have := (hI.big a h).1; omega))]
        exact hI.big a h
    · rw [hwi]
      by_cases g : j = x.k
      · subst g
        have := (hI.big b hb).1
        omega
      · have h1 := hI.cell j (by omega) b hb
        have h2 : wid x D' j b = x.sz j + 3 := by unfold wid; rw [if_pos (by omega)]
        omega
  | big hC2 he ha2 hR ht hM =>
    subst ht
    obtain ⟨s1, s2, s3⟩ := spot_cov hG (by omega) he
    rw [← ha2] at s1 s2 s3
    obtain ⟨-, hM2, -⟩ := hM
    have e2 : i = x.k := by
      by_cases e : i = x.k
      · exact e
      · exfalso
        rw [hR] at hat
        unfold put1 at hat
        rw [if_neg e] at hat
        have := hI.cell i (by omega) at' hat
        have := hI.sz i (by omega)
        omega
    subst e2
    have hnot : ∀ a, a ∈ (R x.k).all → a ≠ at' := fun a ha e => (hI.big a ha).2.2 a (Int.le_refl _) (by have := wid_three hI x.k a; omega) (s3 a (by omega) (by omega))
    refine ⟨t0, t1, hI.ln, hI.n6, hI.sz, ones, fun j hj a ha => ?_, fun a ha => ?_, pair fun j hj b hb hjb => ?_, lens⟩
    · rcases old j (by omega) a ha with ⟨e1, e3⟩ | h
      · omega
      · exact hI.cell j hj a h
    · rcases old x.k (Nat.le_refl _) a ha with ⟨e1, e3⟩ | h
      · subst e3
        rw [hwk]
        refine ⟨s1, by omega, fun m h1 h2 => ?_⟩
        rw [hM2, ← ha2]
        exact fun h => h.2 he ⟨h1, by omega⟩
      · rw [hw x.k (Nat.le_refl _) a h (Or.inl (hnot a h))]
        obtain ⟨b1, b2, b3⟩ := hI.big a h
        refine ⟨b1, b2, fun m h1 h2 => ?_⟩
        rw [hM2]
        exact fun h => b3 m h1 h2 h.1
    · rw [hwk]
      by_cases g : j = x.k
      · subst g
        rw [hw x.k (Nat.le_refl _) b hb (Or.inl (hnot b hb))]
        have h1 := (hI.big b hb).2.2
        have h2 := wid_three hI x.k b
        by_cases q1 : at' + (size + 3) ≤ b
        · exact Or.inl q1
        · by_cases q2 : b + wid x D x.k b ≤ at'
          · exact Or.inr q2
          · exfalso
            by_cases q3 : b ≤ at'
            · exact h1 at' q3 (by omega) (s3 at' (by omega) (by omega))
            · exact h1 b (by omega) (by omega) (s3 b (by omega) (by omega))
      · have h1 := hI.cell j (by omega) b hb
        have h2 : wid x D' j b = x.sz j + 3 := by unfold wid; rw [if_pos (by omega)]
        omega
end Go.Proofs.Ythliahaopelooaa
/- Round; a new cell of a class; the document's example. -/
namespace Go.Proofs.Ythliahaopelooaa
open Go.RowKit
theorem Cls.unique {z : Nat → Int} {k : Nat} {size : Int} {i j : Nat} (h : Cls z k size i) (g : Cls z k size j) : i = j := by
  rcases Nat.lt_trichotomy i j with e | e | e
  · have := g.low i e
    have := h.fits (by have := g.le; omega)
    omega
  · exact e
  · have := h.low j e
    have := g.fits (by have := h.le; omega)
    omega
theorem HLies.good {x : HSpot} {T : Nat → Nat} {D : Nat → Int} {R : Nat → Rows} {top par : Int} {L : List (Int × Int)} {w : World} (h : HLies x T D R top par L w) : Ex.Good x.lim (x.lim + (x.n - x.lim : Int)) L := by
  obtain ⟨cb, cap, g, -, -, -, hR⟩ := h.rest
  exact hR.good
theorem sb_pw {k s a m : Int} (h : Ce.pe k s a m = 0) : Ce.sb (Ce.pw k s a m) = s := by
  have hf := (Ce.pe_fit k s a m).1 h
  exact (Ce.parts_of hf (Ce.pw_ok hf)).2.1
/-- What a new heap's cells are: none. -/
theorem inv_new {x : HSpot} {L : List (Int × Int)} (h1 : 1 ≤ x.lim) (h2 : x.lim ≤ x.n) (h3 : x.n ≤ 65536) (hs : ∀ i, i < x.k → 1 ≤ x.sz i ∧ x.sz i ≤ 24) : HInv x (fun _ => 0) (fun _ => none4) 1 L := by
  have e : ∀ a, a ∉ none4.all := fun a h => by simp [none4, Rows.all] at h
  exact ⟨Int.le_refl _, by omega, h2, h3, hs, fun _ _ a ha => absurd ha (e a), fun _ _ a ha => absurd ha (e a), fun a ha => absurd ha (e a), fun _ _ _ _ a ha => absurd ha (e a), fun _ _ => by simp [none4, Rows.all]⟩
/-- A new cell of a class. -/
theorem AllocsE.fresh {pe pw : Int} {x : HSpot} {T : Nat → Nat} {D : Nat → Int} {R : Nat → Rows} {top par : Int} {L : List (Int × Int)} {size : Int} {w w' : World} {e : Ending} (h : AllocsE pe pw x T D R top par L size w e w') (hp : pe = 0) (i : Nat) (hC : Cls x.sz x.k size i) (hi : i < x.k) (hw : (R i).white = []) (hr : top + x.sz i + 3 ≤ x.lim) :
    ∃ (D' : Nat → Int), e = .returned (.tuple #[.int .i64 top, .int .i64 0]) ∧ HLies x T D' (put1 R i ((R i).grow top).alloc) (top + x.sz i + 3) par L w' ∧ HTurn T T w w' ∧ AllocP x R top L size top (put1 R i ((R i).grow top).alloc) (top + x.sz i + 3) L ∧ Wrote x (put1 R i ((R i).grow top).alloc) D D' top size pw := by
  rcases h with ⟨h1, -⟩ | ⟨-, at', D', R', top', M, he, hl, ht, hA, hW⟩ | ⟨-, he, hl, ht, hF⟩
  · exact absurd hp h1
  · cases hA with
    | white j hC2 hj l hw2 hR ht2 hM =>
      obtain rfl := hC.unique hC2
      rw [hw] at hw2
      cases hw2
    | fresh j hC2 hj hw2 hr2 ha hR ht2 hM =>
      obtain rfl := hC.unique hC2
      subst ha ht2 hM hR
      exact ⟨D', he, hl, ht, .fresh i hC hi hw hr rfl rfl rfl rfl, hW⟩
    | big hC2 => exact absurd (hC.unique hC2) (by omega)
  · rcases hF with ⟨j, hC2, _, _, h5⟩ | ⟨hC2, _⟩
    · obtain rfl := hC.unique hC2
      omega
    · exact absurd (hC.unique hC2) (by omega)
end Go.Proofs.Ythliahaopelooaa
/- The document's example: it comes out. -/
namespace Go.Proofs.Ythliahaopelooaa
open Go.RowKit
def two4 (i : Nat) : Int := if i = 0 then 2 else 4
end Go.Proofs.Ythliahaopelooaa
/- The program's Unpack of a word that is one. (Out of stage 4's CeD.) -/
namespace Go.Proofs.Ythliahaopelooaa.Ce
open Go.RowKit
theorem pe_word {n : Int} (h : Word n) : pe (kb n) (sb n) (ab n) (mb n) = 0 := pe_ok (word_fit n h)
theorem pw_word {n : Int} (h : Word n) : pw (kb n) (sb n) (ab n) (mb n) = n := (pw_ok (word_fit n h)).trans (jn_word n h)
set_option maxHeartbeats 1000000 in
set_option maxRecDepth 100000 in
theorem unpack_word (n : Int) (w : World) (hn : InR n) (h : Word n) :
    Calls Try.prog 46 #[.int .i64 n] w fun e w' => e = .returned (.tuple #[.agg #[.int .i64 (kb n), .int .i64 (sb n), .int .i64 (ab n), .int .i64 (mb n)], .int .i64 0]) ∧ Below w.heap.size w w' := by
  have HN := Lib.hid hn
  have HP : Hid (∀ W : World, Calls Try.prog 50 #[.agg #[.int .i64 (kb n), .int .i64 (sb n), .int .i64 (ab n), .int .i64 (mb n)]] W fun e w' => e = .returned (.tuple #[.int .i64 n, .int .i64 0]) ∧ Below W.heap.size W w') := Lib.hid fun W => by
    have hp := pack_any (kb n) (sb n) (ab n) (mb n) W
    rw [pe_word h, pw_word h] at hp
    exact hp
  clear h
  clear hn
  have hB := (Below.refl w.heap.size w).alloc (Nat.le_refl _) (.cells #[.int .i64 0, .int .i64 0, .int .i64 0, .int .i64 0] 46)
  have hX := box_new w (.int .i64 0) (.int .i64 0) (.int .i64 0) (.int .i64 0) 46
  go_enter Try.func46, Try.ntmps46
  go_wp2_with fail
  generalize w.alloc (.cells #[.int .i64 0, .int .i64 0, .int .i64 0, .int .i64 0] 46) = W0 at hB hX ⊢
  refine (split_any n _ HN.out).mono ?_
  rintro e x1 ⟨rfl, hb⟩
  replace hB := onB hB hb
  replace hX := hX.later hb
  clear hb
  go_wp2_with fail
  have hY := box_new x1 (.int .i64 (kb n)) (.int .i64 (sb n)) (.int .i64 (ab n)) (.int .i64 (mb n)) 46
  have hbx := (Below.refl x1.heap.size x1).alloc (Nat.le_refl _) (.cells #[.int .i64 (kb n), .int .i64 (sb n), .int .i64 (ab n), .int .i64 (mb n)] 46)
  replace hB := onB hB hbx
  replace hX := hX.later hbx
  clear hbx
  refine (HP.out _).mono ?_
  rintro e x2 ⟨rfl, hb⟩
  replace hB := onB hB hb
  replace hX := hX.later hb
  replace hY := hY.later hb
  clear hb HP
  obtain ⟨c0, c1, c2, c3, f0, f1, f2, f3, hl⟩ := hX
  obtain ⟨d0, d1, d2, d3, -, -, -, -, dl⟩ := hY
  go_wp2
  exact bodyPost_ret (v := .tuple #[.agg #[.int .i64 (kb n), .int .i64 (sb n), .int .i64 (ab n), .int .i64 (mb n)], .int .i64 0]) (by simp [results, Try.results46, go_sem, c0, c1, c2, c3]) rfl ⟨rfl, ((((hB.setCell (Nat.le_refl _) _).setCell (Nat.le_refl _) _).setCell (Nat.le_refl _) _).setCell (Nat.le_refl _) _)⟩
end Go.Proofs.Ythliahaopelooaa.Ce
/- An object's word; its words; what it becomes. -/
namespace Go.Proofs.Ythliahaopelooaa
open Go.RowKit
/-- What an object is, by its first word. -/
structure Head (D : Nat → Int) (at' k s a m : Int) : Prop where
  fit : Ce.Fit k s a m
  word : D at'.toNat = Ce.jn k s a m
/-- It lies on. -/
def Stays (x : HSpot) (T : Nat → Nat) (D : Nat → Int) (R : Nat → Rows) (top par : Int) (L : List (Int × Int)) (w w' : World) : Prop := HLies x T D R top par L w' ∧ HTurn T T w w'
theorem Apart.setFresh {p d : Nat} {w W : World} {a : Addr} (h : Apart p d w W) (ha : w.heap.size ≤ a.block) (v : Value) : Apart p d w (W.setCell a v) :=
  ⟨h.os, h.tape, h.output, by simpa [World.setCell] using h.size, fun k hk h1 h2 => (Below.heap_setCell _ _ _ _ (by omega)).trans (h.block k hk h1 h2)⟩
theorem At.setFresh {w W : World} {p d n : Nat} {D : Nat → Int} {u : Int} {a : Addr} (h : At W p d n D u) (h1 : p < w.heap.size) (h2 : d < w.heap.size) (ha : w.heap.size ≤ a.block) (v : Value) : At (W.setCell a v) p d n D u :=
  h.move (Below.heap_setCell _ _ _ _ (by omega)) (Below.heap_setCell _ _ _ _ (by omega)) (by simp [World.setCell])
def CellSaid (x : HSpot) (T : Nat → Nat) (D : Nat → Int) (R : Nat → Rows) (top par : Int) (L : List (Int × Int)) (k s a m : Int) (w : World) (e : Ending) (w' : World) : Prop :=
  e = .returned (.tuple #[.agg #[.int .i64 k, .int .i64 s, .int .i64 a, .int .i64 m], .int .i64 0]) ∧ Stays x T D R top par L w w'
set_option maxHeartbeats 4000000 in
set_option maxRecDepth 100000 in
theorem cell_any (x : HSpot) (T : Nat → Nat) (D : Nat → Int) (R : Nat → Rows) (top par : Int) (L : List (Int × Int)) (w : World) (h : HLies x T D R top par L w) (at' k s a m : Int) (h1 : 1 ≤ at') (h2 : at' < x.n) (hd : Head D at' k s a m) :
    Calls Try.prog 20 #[.pointer (some ⟨x.h, 0, none⟩), .int .i64 at'] w (CellSaid x T D R top par L k s a m w) := by
  have hx := (Below.refl w.heap.size w).alloc (Nat.le_refl _) (.cells #[.int .i64 0, .int .i64 0, .int .i64 0, .int .i64 0] 46)
  have hX := Ce.box_new w (.int .i64 0) (.int .i64 0) (.int .i64 0) (.int .i64 0) 46
  have hz : (w.alloc (.cells #[.int .i64 0, .int .i64 0, .int .i64 0, .int .i64 0] 46)).heap.size = w.heap.size + 1 := by simp
  have hl := h.lh
  obtain ⟨u, hA⟩ := h.at
  have lp := hA.lp
  have ld := hA.ld
  have c0 := later' hx h.arena
  have H := Lib.hid h
  have HX := Lib.hid (And.intro hx (hA.later hx))
  have hu : ∀ W : World, Calls Try.prog 46 #[.int .i64 (D at'.toNat)] W fun e w' => e = .returned (.tuple #[.agg #[.int .i64 k, .int .i64 s, .int .i64 a, .int .i64 m], .int .i64 0]) ∧ Below W.heap.size W w' := fun W => by
    have hr := Ce.jn_range hd.fit
    obtain ⟨e1, e2, e3, e4⟩ := Ce.parts_of hd.fit rfl
    have := Ce.unpack_word (Ce.jn k s a m) W (by unfold Ce.InR; omega) (Ce.word_jn hd.fit)
    rw [e1, e2, e3, e4] at this
    rw [hd.word]
    exact this
  have HU := Lib.hid hu
  clear h hx hA hu hd
  go_enter Try.func20, Try.ntmps20
  go_upto_region 1 with fail
  generalize (w.alloc (.cells #[.int .i64 0, .int .i64 0, .int .i64 0, .int .i64 0] 46)) = W at *
  go_wp2_with fail
  refine (load_in x.p x.d x.n D u at' W HX.out.2 (by omega) h2).mono ?_
  rintro e w2 ⟨rfl, hA2, hq2⟩
  have hX2 : Ce.Box w2 w.heap.size (.int .i64 0) (.int .i64 0) (.int .i64 0) (.int .i64 0) := by
    have hb : w2.heap[w.heap.size]? = W.heap[w.heap.size]? := hq2.block _ hX.lt (by omega) (by omega)
    have o : ∀ (j : Nat) (v : Value), W.cell? ⟨w.heap.size, j, none⟩ = some v → w2.cell? ⟨w.heap.size, j, none⟩ = some v := fun j v hv => (World.cell?_of_block (w := W) hb).trans hv
    have z : ∀ j, W.frozen? ⟨w.heap.size, j, none⟩ = false → w2.frozen? ⟨w.heap.size, j, none⟩ = false := fun j hv => (World.frozen?_of_block (w := W) hb).trans hv
    exact ⟨o _ _ hX.kind, o _ _ hX.size, o _ _ hX.aux, o _ _ hX.mark, z _ hX.f0, z _ hX.f1, z _ hX.f2, z _ hX.f3, Nat.lt_of_lt_of_le hX.lt hq2.size⟩
  have H2 := Lib.hid (And.intro hA2 ((Apart.of_below HX.out.1).trans hq2))
  generalize D at'.toNat = word at *
  clear hA2 hq2 hX c0 HX
  go_wp2_with fail
  refine (HU.out w2).mono ?_
  rintro e w3 ⟨rfl, hb⟩
  obtain ⟨c0, c1, c2, c3, z0, z1, z2, z3, hlt⟩ := hX2.later hb
  have H3 := Lib.hid (And.intro (H2.out.1.later hb) (H2.out.2.trans (Apart.of_below hb)))
  clear hb hX2 H2 HU
  go_wp2_with fail
  refine bodyPost_ret (v := .tuple #[.agg #[.int .i64 k, .int .i64 s, .int .i64 a, .int .i64 m], .int .i64 0]) (by simp [results, Try.results20, go_sem, c0, c1, c2, c3]) rfl ?_
  obtain ⟨hA3, hq3⟩ := H3.out
  refine ⟨rfl, H.out.words (((((hA3.setFresh (w := w) lp ld (Nat.le_refl _) _)).setFresh (w := w) lp ld (Nat.le_refl _) _).setFresh (w := w) lp ld (Nat.le_refl _) _).setFresh (w := w) lp ld (Nat.le_refl _) _) ((((hq3.setFresh (Nat.le_refl _) _).setFresh (Nat.le_refl _) _).setFresh (Nat.le_refl _) _).setFresh (Nat.le_refl _) _) (fun _ _ _ _ => rfl)⟩
def PlaceSaid (x : HSpot) (T : Nat → Nat) (D : Nat → Int) (R : Nat → Rows) (top par : Int) (L : List (Int × Int)) (v err : Int) (w : World) (e : Ending) (w' : World) : Prop :=
  e = .returned (.tuple #[.int .i64 v, .int .i64 err]) ∧ Stays x T D R top par L w w'
theorem Stays.trans {x : HSpot} {T : Nat → Nat} {D D' : Nat → Int} {R R' : Nat → Rows} {top par top' par' : Int} {L L' : List (Int × Int)} {a b c : World} (h : Stays x T D R top par L a b) (k : Stays x T D' R' top' par' L' b c) : Stays x T D' R' top' par' L' a c := ⟨k.1, h.2.trans k.2⟩
/-- A word is set. -/
def putW (D : Nat → Int) (i v : Int) : Nat → Int := fun m => if m = i.toNat then v else D m
def SetSaid (x : HSpot) (T : Nat → Nat) (D : Nat → Int) (R : Nat → Rows) (top par : Int) (L : List (Int × Int)) (err : Int) (w : World) (e : Ending) (w' : World) : Prop :=
  e = .returned (.int .i64 err) ∧ Stays x T D R top par L w w'
set_option maxHeartbeats 1000000 in
set_option maxRecDepth 100000 in
theorem turn_any (x : HSpot) (T : Nat → Nat) (D : Nat → Int) (R : Nat → Rows) (top par : Int) (L : List (Int × Int)) (w : World) (h : HLies x T D R top par L w) (at' k s a m : Int) (h1 : 1 ≤ at') (h2 : at' < x.n) (hp : Ce.pe k s a m = 0) (hl : ∀ i, i ≤ x.k → ∀ q, Links (R i) q → (q : Int) ≠ at') :
    Calls Try.prog 58 #[.pointer (some ⟨x.h, 0, none⟩), .int .i64 at', .agg #[.int .i64 k, .int .i64 s, .int .i64 a, .int .i64 m]] w (SetSaid x T (putW D at' (Ce.pw k s a m)) R top par L 0 w) := by
  have HP := Lib.hid (fun w => Ce.pack_any k s a m w)
  have H := Lib.hid h
  have HL := Lib.hid hl
  clear h hl
  generalize Ce.pe k s a m = pe at *
  generalize Ce.pw k s a m = pw at *
  subst hp
  go_enter Try.func58, Try.ntmps58
  go_wp2_with fail
  have hx := (Below.refl w.heap.size w).alloc (Nat.le_refl _) (.cells #[.int .i64 k, .int .i64 s, .int .i64 a, .int .i64 m] 46)
  refine (HP.out _).mono ?_
  rintro e w2 ⟨rfl, hb0⟩
  have hb := onB' hx hb0
  have hS : Stays x T D R top par L w w2 := ⟨H.out.later hb, HTurn.of_below hb⟩
  clear hx hb0
  obtain ⟨u, hu⟩ := hS.1.at
  have c0 := hS.1.arena
  have HU := Lib.hid (And.intro hu hS)
  clear hb hu hS HP
  go_wp2_with fail
  refine (store_in x.p x.d x.n D u at' pw w2 HU.out.1 (by omega) h2).mono ?_
  rintro e w3 ⟨rfl, hA, hq⟩
  have HE := Lib.hid (show Stays x T (putW D at' pw) R top par L w w3 from HU.out.2.trans (HU.out.2.1.words hA hq (fun i hi q hq => if_neg (by have := HL.out i hi q hq; omega))))
  clear hA hq c0
  go_wp2_with fail
  go_ret
  exact ⟨rfl, HE.out⟩
end Go.Proofs.Ythliahaopelooaa
