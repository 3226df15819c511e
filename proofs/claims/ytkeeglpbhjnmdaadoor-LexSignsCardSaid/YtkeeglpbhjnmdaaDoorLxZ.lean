/- The document's token at a place: which it is. -/
import Derived.Test.YtkeeglpbhjnmdaaDoorLxY
namespace Go.Proofs.YtkeeglpbhjnmdaaDoor
open Go.RowKit Go.Lib

def OneSaid (c : UInt8) (r : List UInt8) (ln : Int) (w : World) (e : Ending) (w' : World) : Prop :=
  ∃ (k : Int) (b : ByteArray) (f : Bool) (x : Int), e = .returned (.tuple #[.agg #[.int .i64 k, .string b, .bool f, .int .u64 x, .int .i64 ln], .int .i64 (oneL c r).2]) ∧ ((oneL c r).2 = 0 → k = (oneL c r).1.k ∧ b.data.toList = (oneL c r).1.t ∧ f = (oneL c r).1.f ∧ x = (oneL c r).1.x) ∧ Below w.heap.size w w'
theorem OneSaid.mk {c : UInt8} {r : List UInt8} {ln : Int} {w w' : World} {k : Int} {b : ByteArray} {f : Bool} {x er : Int} (he : (oneL c r).2 = er) (h : er = 0 → k = (oneL c r).1.k ∧ b.data.toList = (oneL c r).1.t ∧ f = (oneL c r).1.f ∧ x = (oneL c r).1.x) (hb : Below w.heap.size w w') : OneSaid c r ln w (.returned (.tuple #[.agg #[.int .i64 k, .string b, .bool f, .int .u64 x, .int .i64 ln], .int .i64 er])) w' := by
  subst he
  exact ⟨k, b, f, x, rfl, h, hb⟩

/-- The two boxes that the call makes. -/
structure Two (w W : World) (kd : Int) (bt : ByteArray) (ff : Bool) (xx ln : Int) : Prop where
  b : Below w.heap.size w W
  q : Bx W w.heap.size 0 ⟨#[]⟩ false 0 0
  p : Bx W (w.heap.size + 1) kd bt ff xx ln
theorem Two.later {w W W' : World} {kd : Int} {bt : ByteArray} {ff : Bool} {xx ln : Int} (h : Two w W kd bt ff xx ln) (hb : Below W.heap.size W W') : Two w W' kd bt ff xx ln := ⟨onB' h.b hb, h.q.later hb, h.p.later hb⟩
theorem Two.text {w W : World} {kd : Int} {bt : ByteArray} {ff : Bool} {xx ln : Int} (h : Two w W kd bt ff xx ln) (v : ByteArray) : Two w (W.setCell ⟨w.heap.size + 1, 1, none⟩ (.string v)) kd v ff xx ln := ⟨h.b.setCell (p := ⟨w.heap.size + 1, 1, none⟩) (Nat.le_succ _) _, h.q.far (by omega) _, h.p.set1 v⟩
theorem Two.kind {w W : World} {kd : Int} {bt : ByteArray} {ff : Bool} {xx ln : Int} (h : Two w W kd bt ff xx ln) (v : Int) : Two w (W.setCell ⟨w.heap.size + 1, 0, none⟩ (.int .i64 v)) v bt ff xx ln := ⟨h.b.setCell (p := ⟨w.heap.size + 1, 0, none⟩) (Nat.le_succ _) _, h.q.far (by omega) _, h.p.set0 v⟩
theorem two_new (w : World) (ln : Int) : Two w ((w.alloc (.cells #[.int .i64 0, .string ⟨#[]⟩, .bool false, .int .u64 0, .int .i64 0] 35)).alloc (.cells #[.int .i64 0, .string ⟨#[]⟩, .bool false, .int .u64 0, .int .i64 ln] 35)) 0 ⟨#[]⟩ false 0 ln := by
  have tb := bx_new (w.alloc (.cells #[.int .i64 0, .string ⟨#[]⟩, .bool false, .int .u64 0, .int .i64 0] 35)) 0 ⟨#[]⟩ false 0 ln
  rw [World.size_alloc] at tb
  exact ⟨((Below.refl _ _).alloc (Nat.le_refl _) _).alloc (by simp) _, (bx_new w 0 ⟨#[]⟩ false 0 0).later ((Below.refl _ _).alloc (Nat.le_refl _) _), tb⟩
theorem run_text (s : ByteArray) (k n : Nat) (l : List UInt8) (h : (s.data.toList.drop k).take n = l) : (s.extract k (k + n)).data.toList = l := by
  rw [← h]
  simp [ByteArray.data_extract]
theorem run_fits (s : ByteArray) (k : Nat) (h : k ≤ s.size) : k + (runL (s.data.toList.drop k)).length ≤ s.size := by
  have h1 := run_le (s.data.toList.drop k)
  rw [List.length_drop, ← size_eq] at h1
  omega
theorem numT_two {t : List UInt8} {f : Bool} {x er : Int} (h : parseL (trimPrefix t [35]) = (f, x, er)) : (numT t).2 = er ∧ (er = 0 → (numT t).1 = ⟨3, t, f, x⟩) := by
  unfold numT
  rw [h]
  simp only
  split
  · rename_i g
    exact ⟨g.symm, fun _ => rfl⟩
  · rename_i g
    exact ⟨rfl, fun e => absurd e g⟩

set_option maxHeartbeats 8000000 in
set_option maxRecDepth 100000 in
theorem one_small (s : ByteArray) (hs : s.size ≤ 100000) (k : Nat) (hk : k < s.size) (ln : Int) (c : UInt8) (hd : s.data.toList.drop k = c :: s.data.toList.drop (k + 1)) (hsc : s[k] = c) (h1 : smB c = true) (w : World) :
    Calls Tryd.prog 19 #[.string s, .int .i64 k, .int .i64 ln] w (OneSaid c (s.data.toList.drop (k + 1)) ln w) := by
  have HT := Lib.hid (two_new w ln)
  have hk' : (k : Int) < (s.size : Int) := by omega
  have hk0 : (0 : Int) ≤ (k : Int) := by omega
  go_enter Tryd.func19, Tryd.ntmps19
  go_upto_region 3 with fail
  generalize ((w.alloc (.cells #[.int .i64 0, .string ⟨#[]⟩, .bool false, .int .u64 0, .int .i64 0] 35)).alloc (.cells #[.int .i64 0, .string ⟨#[]⟩, .bool false, .int .u64 0, .int .i64 ln] 35)) = W at *
  go_wp2_with fail
  refine (smB_any c _).mono ?_
  rintro e w2 ⟨rfl, rfl⟩
  rw [h1]
  have hfit := run_fits s k (by omega)
  have htx := run_text s k (runL (s.data.toList.drop k)).length _ (run_take _)
  generalize hrn : (runL (s.data.toList.drop k)).length = rn at *
  have TX := Lib.hid (And.intro htx hrn)
  clear htx
  have es : IntKind.i64.wrap ((k : Int) + (rn : Int)) = (k : Int) + (rn : Int) := by rw [IntKind.wrap_i64]; omega
  have es0 : (0 : Int) ≤ (k : Int) + (rn : Int) := by omega
  have es1 : (k : Int) ≤ (k : Int) + (rn : Int) := by omega
  have es2 : ((k : Int) + (rn : Int)).toNat = k + rn := by omega
  have es3 : (k : Int) + (rn : Int) ≤ (s.size : Int) := by omega
  have HRN := Lib.hid (fun W => run7_any s hs k (by omega) W)
  clear hrn
  go_wp2_with fail
  refine (HRN.out _).mono ?_
  rintro e w3 ⟨rfl, hb⟩
  rw [TX.out.2]
  have HT1 := Lib.hid (HT.out.later hb)
  clear hb
  obtain ⟨p0, p1, p2, p3, p4, pz⟩ := HT1.out.p
  have pz0 := pz 0
  have pz1 := pz 1
  clear pz
  go_upto_region 5 with fail
  clear p0 p1 p2 p3 p4 pz0 pz1
  have HT2 := Lib.hid (HT1.out.text (s.extract k (k + rn)))
  generalize w3.setCell ⟨w.heap.size + 1, 1, none⟩ (.string (s.extract k (k + rn))) = W4 at *
  generalize s.extract k (k + rn) = tx at *
  obtain ⟨t', ht'⟩ : ∃ t', tx.data.toList = c :: t' := by
    have hi : inRun c = true := by rw [inRun_eq]; simp [h1]
    exact ⟨_, by rw [TX.out.1, hd, run_cons, if_pos hi]⟩
  have HTX := Lib.hid ht'
  clear ht' es es0 es1 es2 es3 hfit
  obtain ⟨p0, p1, p2, p3, p4, pz⟩ := HT2.out.p
  have pz0 := pz 0
  have pz1 := pz 1
  clear pz
  go_wp2_with fail
  refine (kind_any tx c t' HTX.out _).mono ?_
  rintro e w5 ⟨rfl, hb⟩
  have HT3 := Lib.hid (HT2.out.later hb)
  clear hb
  clear p0 p1 p2 p3 p4 pz0 pz1
  obtain ⟨p0, p1, p2, p3, p4, pz⟩ := HT3.out.p
  have pz0 := pz 0
  have pz1 := pz 1
  clear pz
  go_upto_region 6 with fail
  clear p0 p1 p2 p3 p4 pz0 pz1
  have HT4 := Lib.hid (HT3.out.kind (refK (c :: t') c))
  generalize w5.setCell ⟨w.heap.size + 1, 0, none⟩ (.int .i64 (refK (c :: t') c)) = W6 at *
  have hon : oneL c (s.data.toList.drop (k + 1)) = if 16 < (c :: t').length then (.zero, 9) else (⟨refK (c :: t') c, c :: t', false, 0⟩, 0) := by
    have e1 : runL (c :: s.data.toList.drop (k + 1)) = c :: t' := by rw [← hd, ← TX.out.1, HTX.out]
    unfold oneL
    rw [if_pos (by exact Or.inl h1), e1]
  have hsz : tx.size = (c :: t').length := by rw [size_eq, HTX.out]
  generalize refK (c :: t') c = rk at *
  by_cases g16 : 16 < (c :: t').length
  · have f16 : decide ((16 : Int) < (tx.size : Int)) = true := decide_eq_true (by omega)
    rw [if_pos g16] at hon
    have HON := Lib.hid hon
    clear hon g16 hsz hd
    obtain ⟨x0, x1, x2, x3, x4, -⟩ := HT4.out.p
    obtain ⟨d0, d1, d2, d3, d4, dz⟩ := HT4.out.q
    go_wp2_with fail
    obtain ⟨q0, q1, q2, q3, q4⟩ := set5 d0 d1 d2 d3 d4 (.int .i64 rk) (.string tx) (.bool false) (.int .u64 0) (.int .i64 ln)
    refine bodyPost_ret (v := .tuple #[.agg #[.int .i64 rk, .string tx, .bool false, .int .u64 0, .int .i64 ln], .int .i64 9]) (by simp [results, Tryd.results19, go_sem, q0, q1, q2, q3, q4]) rfl ?_
    exact OneSaid.mk (by rw [HON.out]) (fun h => absurd h (by decide)) (below_set5 HT4.out.b (Nat.le_refl _) _ _ _ _ _)
  · have f16 : decide ((16 : Int) < (tx.size : Int)) = false := decide_eq_false (by omega)
    rw [if_neg g16] at hon
    have HON := Lib.hid hon
    clear hon g16 hsz hd
    obtain ⟨x0, x1, x2, x3, x4, -⟩ := HT4.out.p
    obtain ⟨d0, d1, d2, d3, d4, dz⟩ := HT4.out.q
    go_wp2_with fail
    obtain ⟨q0, q1, q2, q3, q4⟩ := set5 d0 d1 d2 d3 d4 (.int .i64 rk) (.string tx) (.bool false) (.int .u64 0) (.int .i64 ln)
    refine bodyPost_ret (v := .tuple #[.agg #[.int .i64 rk, .string tx, .bool false, .int .u64 0, .int .i64 ln], .int .i64 0]) (by simp [results, Tryd.results19, go_sem, q0, q1, q2, q3, q4]) rfl ?_
    exact OneSaid.mk (by rw [HON.out]) (fun _ => by rw [HON.out]; exact ⟨rfl, HTX.out, rfl, rfl⟩) (below_set5 HT4.out.b (Nat.le_refl _) _ _ _ _ _)

set_option maxHeartbeats 8000000 in
set_option maxRecDepth 100000 in
theorem one_cap (s : ByteArray) (hs : s.size ≤ 100000) (k : Nat) (hk : k < s.size) (ln : Int) (c : UInt8) (hd : s.data.toList.drop k = c :: s.data.toList.drop (k + 1)) (hsc : s[k] = c) (h1 : smB c = false) (h2 : cpB c = true) (w : World) :
    Calls Tryd.prog 19 #[.string s, .int .i64 k, .int .i64 ln] w (OneSaid c (s.data.toList.drop (k + 1)) ln w) := by
  have HT := Lib.hid (two_new w ln)
  have hk' : (k : Int) < (s.size : Int) := by omega
  have hk0 : (0 : Int) ≤ (k : Int) := by omega
  go_enter Tryd.func19, Tryd.ntmps19
  go_upto_region 3 with fail
  generalize ((w.alloc (.cells #[.int .i64 0, .string ⟨#[]⟩, .bool false, .int .u64 0, .int .i64 0] 35)).alloc (.cells #[.int .i64 0, .string ⟨#[]⟩, .bool false, .int .u64 0, .int .i64 ln] 35)) = W at *
  go_wp2_with fail
  refine (smB_any c _).mono ?_
  rintro e w2 ⟨rfl, rfl⟩
  rw [h1]
  go_wp2_with fail
  refine (cpB_any c _).mono ?_
  rintro e w2 ⟨rfl, rfl⟩
  rw [h2]
  have hfit := run_fits s k (by omega)
  have htx := run_text s k (runL (s.data.toList.drop k)).length _ (run_take _)
  generalize hrn : (runL (s.data.toList.drop k)).length = rn at *
  have TX := Lib.hid (And.intro htx hrn)
  clear htx
  have es : IntKind.i64.wrap ((k : Int) + (rn : Int)) = (k : Int) + (rn : Int) := by rw [IntKind.wrap_i64]; omega
  have es0 : (0 : Int) ≤ (k : Int) + (rn : Int) := by omega
  have es1 : (k : Int) ≤ (k : Int) + (rn : Int) := by omega
  have es2 : ((k : Int) + (rn : Int)).toNat = k + rn := by omega
  have es3 : (k : Int) + (rn : Int) ≤ (s.size : Int) := by omega
  have HRN := Lib.hid (fun W => run7_any s hs k (by omega) W)
  clear hrn
  go_wp2_with fail
  refine (HRN.out _).mono ?_
  rintro e w3 ⟨rfl, hb⟩
  rw [TX.out.2]
  have HT1 := Lib.hid (HT.out.later hb)
  clear hb
  obtain ⟨p0, p1, p2, p3, p4, pz⟩ := HT1.out.p
  have pz0 := pz 0
  have pz1 := pz 1
  clear pz
  go_upto_region 5 with fail
  clear p0 p1 p2 p3 p4 pz0 pz1
  have HT2 := Lib.hid (HT1.out.text (s.extract k (k + rn)))
  generalize w3.setCell ⟨w.heap.size + 1, 1, none⟩ (.string (s.extract k (k + rn))) = W4 at *
  generalize s.extract k (k + rn) = tx at *
  obtain ⟨t', ht'⟩ : ∃ t', tx.data.toList = c :: t' := by
    have hi : inRun c = true := by rw [inRun_eq]; simp [h1, h2]
    exact ⟨_, by rw [TX.out.1, hd, run_cons, if_pos hi]⟩
  have HTX := Lib.hid ht'
  clear ht' es es0 es1 es2 es3 hfit
  obtain ⟨p0, p1, p2, p3, p4, pz⟩ := HT2.out.p
  have pz0 := pz 0
  have pz1 := pz 1
  clear pz
  go_wp2_with fail
  refine (kind_any tx c t' HTX.out _).mono ?_
  rintro e w5 ⟨rfl, hb⟩
  have HT3 := Lib.hid (HT2.out.later hb)
  clear hb
  clear p0 p1 p2 p3 p4 pz0 pz1
  obtain ⟨p0, p1, p2, p3, p4, pz⟩ := HT3.out.p
  have pz0 := pz 0
  have pz1 := pz 1
  clear pz
  go_upto_region 6 with fail
  clear p0 p1 p2 p3 p4 pz0 pz1
  have HT4 := Lib.hid (HT3.out.kind (refK (c :: t') c))
  generalize w5.setCell ⟨w.heap.size + 1, 0, none⟩ (.int .i64 (refK (c :: t') c)) = W6 at *
  have hon : oneL c (s.data.toList.drop (k + 1)) = if 16 < (c :: t').length then (.zero, 9) else (⟨refK (c :: t') c, c :: t', false, 0⟩, 0) := by
    have e1 : runL (c :: s.data.toList.drop (k + 1)) = c :: t' := by rw [← hd, ← TX.out.1, HTX.out]
    unfold oneL
    rw [if_pos (by exact Or.inr h2), e1]
  have hsz : tx.size = (c :: t').length := by rw [size_eq, HTX.out]
  generalize refK (c :: t') c = rk at *
  by_cases g16 : 16 < (c :: t').length
  · have f16 : decide ((16 : Int) < (tx.size : Int)) = true := decide_eq_true (by omega)
    rw [if_pos g16] at hon
    have HON := Lib.hid hon
    clear hon g16 hsz hd
    obtain ⟨x0, x1, x2, x3, x4, -⟩ := HT4.out.p
    obtain ⟨d0, d1, d2, d3, d4, dz⟩ := HT4.out.q
    go_wp2_with fail
    obtain ⟨q0, q1, q2, q3, q4⟩ := set5 d0 d1 d2 d3 d4 (.int .i64 rk) (.string tx) (.bool false) (.int .u64 0) (.int .i64 ln)
    refine bodyPost_ret (v := .tuple #[.agg #[.int .i64 rk, .string tx, .bool false, .int .u64 0, .int .i64 ln], .int .i64 9]) (by simp [results, Tryd.results19, go_sem, q0, q1, q2, q3, q4]) rfl ?_
    exact OneSaid.mk (by rw [HON.out]) (fun h => absurd h (by decide)) (below_set5 HT4.out.b (Nat.le_refl _) _ _ _ _ _)
  · have f16 : decide ((16 : Int) < (tx.size : Int)) = false := decide_eq_false (by omega)
    rw [if_neg g16] at hon
    have HON := Lib.hid hon
    clear hon g16 hsz hd
    obtain ⟨x0, x1, x2, x3, x4, -⟩ := HT4.out.p
    obtain ⟨d0, d1, d2, d3, d4, dz⟩ := HT4.out.q
    go_wp2_with fail
    obtain ⟨q0, q1, q2, q3, q4⟩ := set5 d0 d1 d2 d3 d4 (.int .i64 rk) (.string tx) (.bool false) (.int .u64 0) (.int .i64 ln)
    refine bodyPost_ret (v := .tuple #[.agg #[.int .i64 rk, .string tx, .bool false, .int .u64 0, .int .i64 ln], .int .i64 0]) (by simp [results, Tryd.results19, go_sem, q0, q1, q2, q3, q4]) rfl ?_
    exact OneSaid.mk (by rw [HON.out]) (fun _ => by rw [HON.out]; exact ⟨rfl, HTX.out, rfl, rfl⟩) (below_set5 HT4.out.b (Nat.le_refl _) _ _ _ _ _)

set_option maxHeartbeats 8000000 in
set_option maxRecDepth 100000 in
theorem one_dig (s : ByteArray) (hs : s.size ≤ 100000) (k : Nat) (hk : k < s.size) (ln : Int) (c : UInt8) (hd : s.data.toList.drop k = c :: s.data.toList.drop (k + 1)) (hsc : s[k] = c) (h1 : smB c = false) (h2 : cpB c = false) (h3 : dgB c = true) (w : World) :
    Calls Tryd.prog 19 #[.string s, .int .i64 k, .int .i64 ln] w (OneSaid c (s.data.toList.drop (k + 1)) ln w) := by
  have HT := Lib.hid (two_new w ln)
  have hk' : (k : Int) < (s.size : Int) := by omega
  have hk0 : (0 : Int) ≤ (k : Int) := by omega
  go_enter Tryd.func19, Tryd.ntmps19
  go_upto_region 3 with fail
  generalize ((w.alloc (.cells #[.int .i64 0, .string ⟨#[]⟩, .bool false, .int .u64 0, .int .i64 0] 35)).alloc (.cells #[.int .i64 0, .string ⟨#[]⟩, .bool false, .int .u64 0, .int .i64 ln] 35)) = W at *
  go_wp2_with fail
  refine (smB_any c _).mono ?_
  rintro e w2 ⟨rfl, rfl⟩
  rw [h1]
  go_wp2_with fail
  refine (cpB_any c _).mono ?_
  rintro e w2 ⟨rfl, rfl⟩
  rw [h2]
  go_wp2_with fail
  refine (dgB_any c _).mono ?_
  rintro e w2 ⟨rfl, rfl⟩
  rw [h3]
  have hfit := run_fits s k (by omega)
  have htx := run_text s k (runL (s.data.toList.drop k)).length _ (run_take _)
  generalize hrn : (runL (s.data.toList.drop k)).length = rn at *
  have TX := Lib.hid (And.intro htx hrn)
  clear htx
  have es : IntKind.i64.wrap ((k : Int) + (rn : Int)) = (k : Int) + (rn : Int) := by rw [IntKind.wrap_i64]; omega
  have es0 : (0 : Int) ≤ (k : Int) + (rn : Int) := by omega
  have es1 : (k : Int) ≤ (k : Int) + (rn : Int) := by omega
  have es2 : ((k : Int) + (rn : Int)).toNat = k + rn := by omega
  have es3 : (k : Int) + (rn : Int) ≤ (s.size : Int) := by omega
  have HRN := Lib.hid (fun W => run7_any s hs k (by omega) W)
  clear hrn
  go_wp2_with fail
  refine (HRN.out _).mono ?_
  rintro e w3 ⟨rfl, hb⟩
  rw [TX.out.2]
  have HT1 := Lib.hid (HT.out.later hb)
  clear hb
  obtain ⟨p0, p1, p2, p3, p4, pz⟩ := HT1.out.p
  have pz0 := pz 0
  have pz1 := pz 1
  clear pz
  go_upto_region 11 with fail
  clear p0 p1 p2 p3 p4 pz0 pz1
  have HT2 := Lib.hid (HT1.out.text (s.extract k (k + rn)))
  generalize w3.setCell ⟨w.heap.size + 1, 1, none⟩ (.string (s.extract k (k + rn))) = W4 at *
  generalize s.extract k (k + rn) = tx at *
  obtain ⟨f, x, er, hp⟩ : ∃ f x er, parseL (trimPrefix tx.data.toList [35]) = (f, x, er) := ⟨_, _, _, rfl⟩
  have hi : inRun c = true := by rw [inRun_eq]; simp [h3]
  have hsz : 1 ≤ tx.size := by rw [size_eq, TX.out.1, hd, run_cons, if_pos hi]; simp
  have hsz2 : tx.size ≤ 100000 := by rw [size_eq, TX.out.1, TX.out.2]; omega
  have HN := Lib.hid (fun W => number7_any tx hsz2 hsz ln W f x er hp)
  have hon : oneL c (s.data.toList.drop (k + 1)) = numT tx.data.toList := by
    unfold oneL
    rw [if_neg (by rw [h1, h2]; decide), if_pos h3, ← hd, ← TX.out.1]
  have hn2 := numT_two hp
  rw [← hon] at hn2
  have HN2 := Lib.hid hn2
  clear hp hn2 hon hd es es0 es1 es2 es3 hfit hsz hsz2
  obtain ⟨x0, x1, x2, x3, x4, -⟩ := HT2.out.p
  go_wp2_with fail
  refine (HN.out _).mono ?_
  rintro e w5 ⟨rfl, hb⟩
  have HT3 := Lib.hid (HT2.out.later hb)
  clear hb x0 x1 x2 x3 x4
  obtain ⟨d0, d1, d2, d3, d4, dz⟩ := HT3.out.q
  go_wp2_with fail
  obtain ⟨q0, q1, q2, q3, q4⟩ := set5 d0 d1 d2 d3 d4 (.int .i64 3) (.string tx) (.bool f) (.int .u64 x) (.int .i64 ln)
  refine bodyPost_ret (v := .tuple #[.agg #[.int .i64 3, .string tx, .bool f, .int .u64 x, .int .i64 ln], .int .i64 er]) (by simp [results, Tryd.results19, go_sem, q0, q1, q2, q3, q4]) rfl ?_
  exact OneSaid.mk HN2.out.1 (fun e => by rw [HN2.out.2 e]; exact ⟨rfl, rfl, rfl, rfl⟩) (below_set5 HT3.out.b (Nat.le_refl _) _ _ _ _ _)

set_option maxHeartbeats 8000000 in
set_option maxRecDepth 100000 in
theorem one_minus (s : ByteArray) (hs : s.size ≤ 100000) (k : Nat) (hk : k < s.size) (ln : Int) (c : UInt8) (hd : s.data.toList.drop k = c :: s.data.toList.drop (k + 1)) (hsc : s[k] = c) (h1 : smB c = false) (h2 : cpB c = false) (h3 : dgB c = false) (h4 : c = 35) (h5 : k + 1 < s.size) (h6 : hasPrefix (s.data.toList.drop (k + 1)) [45] = true) (w : World) :
    Calls Tryd.prog 19 #[.string s, .int .i64 k, .int .i64 ln] w (OneSaid c (s.data.toList.drop (k + 1)) ln w) := by
  have HC := Lib.hid h4
  clear h4
  have HT := Lib.hid (two_new w ln)
  have hk' : (k : Int) < (s.size : Int) := by omega
  have hk0 : (0 : Int) ≤ (k : Int) := by omega
  go_enter Tryd.func19, Tryd.ntmps19
  go_upto_region 3 with fail
  generalize ((w.alloc (.cells #[.int .i64 0, .string ⟨#[]⟩, .bool false, .int .u64 0, .int .i64 0] 35)).alloc (.cells #[.int .i64 0, .string ⟨#[]⟩, .bool false, .int .u64 0, .int .i64 ln] 35)) = W at *
  go_wp2_with fail
  refine (smB_any c _).mono ?_
  rintro e w2 ⟨rfl, rfl⟩
  rw [h1]
  go_wp2_with fail
  refine (cpB_any c _).mono ?_
  rintro e w2 ⟨rfl, rfl⟩
  rw [h2]
  go_wp2_with fail
  refine (dgB_any c _).mono ?_
  rintro e w2 ⟨rfl, rfl⟩
  rw [h3]
  obtain ⟨d, hd2, hsd⟩ := drop_cons_of (s := s) (k := k + 1) h5
  have hd45 : d = 45 := by
    rw [hd2] at h6
    rw [has_cons, has_nil] at h6
    exact (by simpa using h6 : (45 : UInt8) = d).symm
  have q1 : ((d.toNat : Int) == 45) = true := by rw [hd45]; rfl
  have hr : s.data.toList.drop (k + 1) = 45 :: s.data.toList.drop (k + 2) := by rw [hd2, hd45]
  have htr : trimPrefix (s.data.toList.drop (k + 1)) [45] = s.data.toList.drop (k + 2) := by rw [hr]; simp [trimPrefix, hasPrefix]
  have hmk : markedL (c :: s.data.toList.drop (k + 1)) = (s.data.toList.drop k).take (2 + (runL (s.data.toList.drop (k + 2))).length) := by
    rw [hd, HC.out, hr, marked_minus, show 2 + (runL (s.data.toList.drop (k + 2))).length = (runL (s.data.toList.drop (k + 2))).length + 1 + 1 by omega, List.take_succ_cons, List.take_succ_cons, run_take]
  have hlt2 : (k : Int) + 1 < (s.size : Int) := by omega
  clear hd2 hd45 hr
  have c35 : ((c.toNat : Int) == 35) = true := by rw [HC.out]; rfl
  have hfit := run_fits s (k + 2) (by omega)
  have hon : oneL c (s.data.toList.drop (k + 1)) = if runL (s.data.toList.drop (k + 2)) = [] then (.zero, 3) else numT (markedL (c :: s.data.toList.drop (k + 1))) := by
    unfold oneL
    rw [if_neg (by rw [h1, h2]; decide), if_neg (by rw [h3]; decide), if_pos HC.out, htr]
  rw [hmk] at hon
  have hnil : runL (s.data.toList.drop (k + 2)) = [] ↔ (runL (s.data.toList.drop (k + 2))).length = 0 := by rw [List.length_eq_zero_iff]
  simp only [hnil] at hon
  have HRN := Lib.hid (fun W => run7_any s hs (k + 2) (by omega) W)
  generalize hrn : (runL (s.data.toList.drop (k + 2))).length = rn at *
  have ec : ((k + 2 : Nat) : Int) = (k : Int) + 2 := by omega
  rw [ec] at HRN
  have es : IntKind.i64.wrap ((k : Int) + 2) = (k : Int) + 2 := by rw [IntKind.wrap_i64]; omega
  have et : IntKind.i64.wrap ((k : Int) + 2 + (rn : Int)) = (k : Int) + 2 + (rn : Int) := by rw [IntKind.wrap_i64]; omega
  have es0 : (0 : Int) ≤ (k : Int) + 2 + (rn : Int) := by omega
  have es1 : (k : Int) ≤ (k : Int) + 2 + (rn : Int) := by omega
  have es2 : ((k : Int) + 2 + (rn : Int)).toNat = k + (2 + rn) := by omega
  have es3 : (k : Int) + 2 + (rn : Int) ≤ (s.size : Int) := by omega
  have HON := Lib.hid hon
  clear hon h6 hnil hrn ec hmk htr hd
  go_wp2_with fail
  refine (HRN.out _).mono ?_
  rintro e w3 ⟨rfl, hb⟩
  have HT1 := Lib.hid (HT.out.later hb)
  clear hb
  by_cases g0 : rn = 0
  · have f0 : ((rn : Int) == 0) = true := by rw [g0]; rfl
    have hon := HON.out
    rw [if_pos g0] at hon
    have HN2 := Lib.hid hon
    clear hon g0
    obtain ⟨x0, x1, x2, x3, x4, -⟩ := HT1.out.p
    obtain ⟨d0, d1, d2, d3, d4, dz⟩ := HT1.out.q
    go_wp2_with fail
    obtain ⟨q0, q1, q2, q3, q4⟩ := set5 d0 d1 d2 d3 d4 (.int .i64 0) (.string ⟨#[]⟩) (.bool false) (.int .u64 0) (.int .i64 ln)
    refine bodyPost_ret (v := .tuple #[.agg #[.int .i64 0, .string ⟨#[]⟩, .bool false, .int .u64 0, .int .i64 ln], .int .i64 3]) (by simp [results, Tryd.results19, go_sem, q0, q1, q2, q3, q4]) rfl ?_
    exact OneSaid.mk (by rw [HN2.out]) (fun h => absurd h (by decide)) (below_set5 HT1.out.b (Nat.le_refl _) _ _ _ _ _)
  · have f0 : ((rn : Int) == 0) = false := by simp; omega
    have hon := HON.out
    rw [if_neg g0] at hon
    have htx := run_text s k (2 + rn) _ rfl
    rw [← htx] at hon
    have hfit2 := run_fits s k (by omega)
    obtain ⟨f, x, er, hp⟩ : ∃ f x er, parseL (trimPrefix (s.extract k (k + (2 + rn))).data.toList [35]) = (f, x, er) := ⟨_, _, _, rfl⟩
    have hln : (s.extract k (k + (2 + rn))).size = 2 + rn := by rw [size_eq, htx, List.length_take, List.length_drop, ← size_eq]; omega
    have HN := Lib.hid (fun W => number7_any (s.extract k (k + (2 + rn))) (by omega) (by omega) ln W f x er hp)
    have hn2 := numT_two hp
    rw [← hon] at hn2
    have HN2 := Lib.hid hn2
    clear hp hn2 hon htx hfit2 hln g0
    go_wp2_with fail
    refine (HRN.out _).mono ?_
    rintro e w4 ⟨rfl, hb⟩
    have HT1b := Lib.hid (HT1.out.later hb)
    clear hb
    obtain ⟨p0, p1, p2, p3, p4, pz⟩ := HT1b.out.p
    have pz0 := pz 0
    have pz1 := pz 1
    clear pz
    go_upto_region 19 with fail
    clear p0 p1 p2 p3 p4 pz0 pz1
    have HT2 := Lib.hid (HT1b.out.text (s.extract k (k + (2 + rn))))
    generalize w4.setCell ⟨w.heap.size + 1, 1, none⟩ (.string (s.extract k (k + (2 + rn)))) = W4 at *
    generalize s.extract k (k + (2 + rn)) = tx at *
    obtain ⟨x0, x1, x2, x3, x4, -⟩ := HT2.out.p
    go_wp2_with fail
    refine (HN.out _).mono ?_
    rintro e w5 ⟨rfl, hb⟩
    have HT3 := Lib.hid (HT2.out.later hb)
    clear hb x0 x1 x2 x3 x4
    obtain ⟨d0, d1, d2, d3, d4, dz⟩ := HT3.out.q
    go_wp2_with fail
    obtain ⟨q0, q1, q2, q3, q4⟩ := set5 d0 d1 d2 d3 d4 (.int .i64 3) (.string tx) (.bool f) (.int .u64 x) (.int .i64 ln)
    refine bodyPost_ret (v := .tuple #[.agg #[.int .i64 3, .string tx, .bool f, .int .u64 x, .int .i64 ln], .int .i64 er]) (by simp [results, Tryd.results19, go_sem, q0, q1, q2, q3, q4]) rfl ?_
    exact OneSaid.mk HN2.out.1 (fun e => by rw [HN2.out.2 e]; exact ⟨rfl, rfl, rfl, rfl⟩) (below_set5 HT3.out.b (Nat.le_refl _) _ _ _ _ _)

set_option maxHeartbeats 8000000 in
set_option maxRecDepth 100000 in
theorem one_plain (s : ByteArray) (hs : s.size ≤ 100000) (k : Nat) (hk : k < s.size) (ln : Int) (c : UInt8) (hd : s.data.toList.drop k = c :: s.data.toList.drop (k + 1)) (hsc : s[k] = c) (h1 : smB c = false) (h2 : cpB c = false) (h3 : dgB c = false) (h4 : c = 35) (h6 : hasPrefix (s.data.toList.drop (k + 1)) [45] = false) (w : World) :
    Calls Tryd.prog 19 #[.string s, .int .i64 k, .int .i64 ln] w (OneSaid c (s.data.toList.drop (k + 1)) ln w) := by
  have HC := Lib.hid h4
  clear h4
  have HT := Lib.hid (two_new w ln)
  have hk' : (k : Int) < (s.size : Int) := by omega
  have hk0 : (0 : Int) ≤ (k : Int) := by omega
  go_enter Tryd.func19, Tryd.ntmps19
  go_upto_region 3 with fail
  generalize ((w.alloc (.cells #[.int .i64 0, .string ⟨#[]⟩, .bool false, .int .u64 0, .int .i64 0] 35)).alloc (.cells #[.int .i64 0, .string ⟨#[]⟩, .bool false, .int .u64 0, .int .i64 ln] 35)) = W at *
  go_wp2_with fail
  refine (smB_any c _).mono ?_
  rintro e w2 ⟨rfl, rfl⟩
  rw [h1]
  go_wp2_with fail
  refine (cpB_any c _).mono ?_
  rintro e w2 ⟨rfl, rfl⟩
  rw [h2]
  go_wp2_with fail
  refine (dgB_any c _).mono ?_
  rintro e w2 ⟨rfl, rfl⟩
  rw [h3]
  have hway : (∃ hlt : k + 1 < s.size, (((s[k + 1]'hlt).toNat : Int) == 45) = false) ∨ (s.size : Int) ≤ (k : Int) + 1 := by
    by_cases g : k + 1 < s.size
    · left
      refine ⟨g, ?_⟩
      obtain ⟨d, hd2, hsd⟩ := drop_cons_of (s := s) (k := k + 1) g
      rw [hsd]
      rw [hd2, has_cons, has_nil] at h6
      have : d ≠ 45 := by simpa using Ne.symm (by simpa using h6)
      have h7 : d.toNat ≠ 45 := fun e => this (UInt8.toNat_inj.1 (by rw [e]; rfl))
      simp
      omega
    · right
      omega
  have htr : trimPrefix (s.data.toList.drop (k + 1)) [45] = s.data.toList.drop (k + 1) := by simp [trimPrefix, h6]
  have hmk : markedL (c :: s.data.toList.drop (k + 1)) = (s.data.toList.drop k).take (1 + (runL (s.data.toList.drop (k + 1))).length) := by
    rw [hd, HC.out, marked_plain h6, show 1 + (runL (s.data.toList.drop (k + 1))).length = (runL (s.data.toList.drop (k + 1))).length + 1 by omega, List.take_succ_cons, run_take]
  have c35 : ((c.toNat : Int) == 35) = true := by rw [HC.out]; rfl
  have hfit := run_fits s (k + 1) (by omega)
  have hon : oneL c (s.data.toList.drop (k + 1)) = if runL (s.data.toList.drop (k + 1)) = [] then (.zero, 3) else numT (markedL (c :: s.data.toList.drop (k + 1))) := by
    unfold oneL
    rw [if_neg (by rw [h1, h2]; decide), if_neg (by rw [h3]; decide), if_pos HC.out, htr]
  rw [hmk] at hon
  have hnil : runL (s.data.toList.drop (k + 1)) = [] ↔ (runL (s.data.toList.drop (k + 1))).length = 0 := by rw [List.length_eq_zero_iff]
  simp only [hnil] at hon
  have HRN := Lib.hid (fun W => run7_any s hs (k + 1) (by omega) W)
  generalize hrn : (runL (s.data.toList.drop (k + 1))).length = rn at *
  have ec : ((k + 1 : Nat) : Int) = (k : Int) + 1 := by omega
  rw [ec] at HRN
  have es : IntKind.i64.wrap ((k : Int) + 1) = (k : Int) + 1 := by rw [IntKind.wrap_i64]; omega
  have et : IntKind.i64.wrap ((k : Int) + 1 + (rn : Int)) = (k : Int) + 1 + (rn : Int) := by rw [IntKind.wrap_i64]; omega
  have es0 : (0 : Int) ≤ (k : Int) + 1 + (rn : Int) := by omega
  have es1 : (k : Int) ≤ (k : Int) + 1 + (rn : Int) := by omega
  have es2 : ((k : Int) + 1 + (rn : Int)).toNat = k + (1 + rn) := by omega
  have es3 : (k : Int) + 1 + (rn : Int) ≤ (s.size : Int) := by omega
  have HON := Lib.hid hon
  clear hon h6 hnil hrn ec hmk htr hd
  rcases hway with ⟨hlt2, q1⟩ | hge
  · have hlt3 : (k : Int) + 1 < (s.size : Int) := by omega
    go_wp2_with fail
    refine (HRN.out _).mono ?_
    rintro e w3 ⟨rfl, hb⟩
    have HT1 := Lib.hid (HT.out.later hb)
    clear hb
    by_cases g0 : rn = 0
    · have f0 : ((rn : Int) == 0) = true := by rw [g0]; rfl
      have hon := HON.out
      rw [if_pos g0] at hon
      have HN2 := Lib.hid hon
      clear hon g0
      obtain ⟨x0, x1, x2, x3, x4, -⟩ := HT1.out.p
      obtain ⟨d0, d1, d2, d3, d4, dz⟩ := HT1.out.q
      go_wp2_with fail
      obtain ⟨q0, q1, q2, q3, q4⟩ := set5 d0 d1 d2 d3 d4 (.int .i64 0) (.string ⟨#[]⟩) (.bool false) (.int .u64 0) (.int .i64 ln)
      refine bodyPost_ret (v := .tuple #[.agg #[.int .i64 0, .string ⟨#[]⟩, .bool false, .int .u64 0, .int .i64 ln], .int .i64 3]) (by simp [results, Tryd.results19, go_sem, q0, q1, q2, q3, q4]) rfl ?_
      exact OneSaid.mk (by rw [HN2.out]) (fun h => absurd h (by decide)) (below_set5 HT1.out.b (Nat.le_refl _) _ _ _ _ _)
    · have f0 : ((rn : Int) == 0) = false := by simp; omega
      have hon := HON.out
      rw [if_neg g0] at hon
      have htx := run_text s k (1 + rn) _ rfl
      rw [← htx] at hon
      have hfit2 := run_fits s k (by omega)
      obtain ⟨f, x, er, hp⟩ : ∃ f x er, parseL (trimPrefix (s.extract k (k + (1 + rn))).data.toList [35]) = (f, x, er) := ⟨_, _, _, rfl⟩
      have hln : (s.extract k (k + (1 + rn))).size = 1 + rn := by rw [size_eq, htx, List.length_take, List.length_drop, ← size_eq]; omega
      have HN := Lib.hid (fun W => number7_any (s.extract k (k + (1 + rn))) (by omega) (by omega) ln W f x er hp)
      have hn2 := numT_two hp
      rw [← hon] at hn2
      have HN2 := Lib.hid hn2
      clear hp hn2 hon htx hfit2 hln g0
      go_wp2_with fail
      refine (HRN.out _).mono ?_
      rintro e w4 ⟨rfl, hb⟩
      have HT1b := Lib.hid (HT1.out.later hb)
      clear hb
      obtain ⟨p0, p1, p2, p3, p4, pz⟩ := HT1b.out.p
      have pz0 := pz 0
      have pz1 := pz 1
      clear pz
      go_upto_region 19 with fail
      clear p0 p1 p2 p3 p4 pz0 pz1
      have HT2 := Lib.hid (HT1b.out.text (s.extract k (k + (1 + rn))))
      generalize w4.setCell ⟨w.heap.size + 1, 1, none⟩ (.string (s.extract k (k + (1 + rn)))) = W4 at *
      generalize s.extract k (k + (1 + rn)) = tx at *
      obtain ⟨x0, x1, x2, x3, x4, -⟩ := HT2.out.p
      go_wp2_with fail
      refine (HN.out _).mono ?_
      rintro e w5 ⟨rfl, hb⟩
      have HT3 := Lib.hid (HT2.out.later hb)
      clear hb x0 x1 x2 x3 x4
      obtain ⟨d0, d1, d2, d3, d4, dz⟩ := HT3.out.q
      go_wp2_with fail
      obtain ⟨q0, q1, q2, q3, q4⟩ := set5 d0 d1 d2 d3 d4 (.int .i64 3) (.string tx) (.bool f) (.int .u64 x) (.int .i64 ln)
      refine bodyPost_ret (v := .tuple #[.agg #[.int .i64 3, .string tx, .bool f, .int .u64 x, .int .i64 ln], .int .i64 er]) (by simp [results, Tryd.results19, go_sem, q0, q1, q2, q3, q4]) rfl ?_
      exact OneSaid.mk HN2.out.1 (fun e => by rw [HN2.out.2 e]; exact ⟨rfl, rfl, rfl, rfl⟩) (below_set5 HT3.out.b (Nat.le_refl _) _ _ _ _ _)
  · go_wp2_with fail
    refine (HRN.out _).mono ?_
    rintro e w3 ⟨rfl, hb⟩
    have HT1 := Lib.hid (HT.out.later hb)
    clear hb
    by_cases g0 : rn = 0
    · have f0 : ((rn : Int) == 0) = true := by rw [g0]; rfl
      have hon := HON.out
      rw [if_pos g0] at hon
      have HN2 := Lib.hid hon
      clear hon g0
      obtain ⟨x0, x1, x2, x3, x4, -⟩ := HT1.out.p
      obtain ⟨d0, d1, d2, d3, d4, dz⟩ := HT1.out.q
      go_wp2_with fail
      obtain ⟨q0, q1, q2, q3, q4⟩ := set5 d0 d1 d2 d3 d4 (.int .i64 0) (.string ⟨#[]⟩) (.bool false) (.int .u64 0) (.int .i64 ln)
      refine bodyPost_ret (v := .tuple #[.agg #[.int .i64 0, .string ⟨#[]⟩, .bool false, .int .u64 0, .int .i64 ln], .int .i64 3]) (by simp [results, Tryd.results19, go_sem, q0, q1, q2, q3, q4]) rfl ?_
      exact OneSaid.mk (by rw [HN2.out]) (fun h => absurd h (by decide)) (below_set5 HT1.out.b (Nat.le_refl _) _ _ _ _ _)
    · have f0 : ((rn : Int) == 0) = false := by simp; omega
      have hon := HON.out
      rw [if_neg g0] at hon
      have htx := run_text s k (1 + rn) _ rfl
      rw [← htx] at hon
      have hfit2 := run_fits s k (by omega)
      obtain ⟨f, x, er, hp⟩ : ∃ f x er, parseL (trimPrefix (s.extract k (k + (1 + rn))).data.toList [35]) = (f, x, er) := ⟨_, _, _, rfl⟩
      have hln : (s.extract k (k + (1 + rn))).size = 1 + rn := by rw [size_eq, htx, List.length_take, List.length_drop, ← size_eq]; omega
      have HN := Lib.hid (fun W => number7_any (s.extract k (k + (1 + rn))) (by omega) (by omega) ln W f x er hp)
      have hn2 := numT_two hp
      rw [← hon] at hn2
      have HN2 := Lib.hid hn2
      clear hp hn2 hon htx hfit2 hln g0
      go_wp2_with fail
      refine (HRN.out _).mono ?_
      rintro e w4 ⟨rfl, hb⟩
      have HT1b := Lib.hid (HT1.out.later hb)
      clear hb
      obtain ⟨p0, p1, p2, p3, p4, pz⟩ := HT1b.out.p
      have pz0 := pz 0
      have pz1 := pz 1
      clear pz
      go_upto_region 19 with fail
      clear p0 p1 p2 p3 p4 pz0 pz1
      have HT2 := Lib.hid (HT1b.out.text (s.extract k (k + (1 + rn))))
      generalize w4.setCell ⟨w.heap.size + 1, 1, none⟩ (.string (s.extract k (k + (1 + rn)))) = W4 at *
      generalize s.extract k (k + (1 + rn)) = tx at *
      obtain ⟨x0, x1, x2, x3, x4, -⟩ := HT2.out.p
      go_wp2_with fail
      refine (HN.out _).mono ?_
      rintro e w5 ⟨rfl, hb⟩
      have HT3 := Lib.hid (HT2.out.later hb)
      clear hb x0 x1 x2 x3 x4
      obtain ⟨d0, d1, d2, d3, d4, dz⟩ := HT3.out.q
      go_wp2_with fail
      obtain ⟨q0, q1, q2, q3, q4⟩ := set5 d0 d1 d2 d3 d4 (.int .i64 3) (.string tx) (.bool f) (.int .u64 x) (.int .i64 ln)
      refine bodyPost_ret (v := .tuple #[.agg #[.int .i64 3, .string tx, .bool f, .int .u64 x, .int .i64 ln], .int .i64 er]) (by simp [results, Tryd.results19, go_sem, q0, q1, q2, q3, q4]) rfl ?_
      exact OneSaid.mk HN2.out.1 (fun e => by rw [HN2.out.2 e]; exact ⟨rfl, rfl, rfl, rfl⟩) (below_set5 HT3.out.b (Nat.le_refl _) _ _ _ _ _)

theorem ops3 : ∀ t, t ∈ opsB → t.size ≤ 3 := by decide
theorem pun3 : ∀ t, t ∈ punB → t.size ≤ 3 := by decide
set_option maxHeartbeats 8000000 in
set_option maxRecDepth 100000 in
theorem one_sign (s : ByteArray) (hs : s.size ≤ 100000) (k : Nat) (hk : k < s.size) (ln : Int) (c : UInt8) (hd : s.data.toList.drop k = c :: s.data.toList.drop (k + 1)) (hsc : s[k] = c) (h1 : smB c = false) (h2 : cpB c = false) (h3 : dgB c = false) (h4 : c ≠ 35) (w : World) :
    Calls Tryd.prog 19 #[.string s, .int .i64 k, .int .i64 ln] w (OneSaid c (s.data.toList.drop (k + 1)) ln w) := by
  have H35 := Lib.hid h4
  have c35 : ((c.toNat : Int) == 35) = false := by
    have h7 : c.toNat ≠ 35 := fun e => h4 (UInt8.toNat_inj.1 (by rw [e]; rfl))
    simp
    omega
  clear h4
  have HT := Lib.hid (two_new w ln)
  have hk' : (k : Int) < (s.size : Int) := by omega
  have hk0 : (0 : Int) ≤ (k : Int) := by omega
  go_enter Tryd.func19, Tryd.ntmps19
  go_upto_region 3 with fail
  generalize ((w.alloc (.cells #[.int .i64 0, .string ⟨#[]⟩, .bool false, .int .u64 0, .int .i64 0] 35)).alloc (.cells #[.int .i64 0, .string ⟨#[]⟩, .bool false, .int .u64 0, .int .i64 ln] 35)) = W at *
  go_wp2_with fail
  refine (smB_any c _).mono ?_
  rintro e w2 ⟨rfl, rfl⟩
  rw [h1]
  go_wp2_with fail
  refine (cpB_any c _).mono ?_
  rintro e w2 ⟨rfl, rfl⟩
  rw [h2]
  go_wp2_with fail
  refine (dgB_any c _).mono ?_
  rintro e w2 ⟨rfl, rfl⟩
  rw [h3]
  have hon : oneL c (s.data.toList.drop (k + 1)) = if (sgChosen (s.data.toList.drop k)).1.size = 0 then (.zero, 3) else (⟨(sgChosen (s.data.toList.drop k)).2, (sgChosen (s.data.toList.drop k)).1.data.toList, false, 0⟩, 0) := by
    unfold oneL
    rw [if_neg (by rw [h1, h2]; decide), if_neg (by rw [h3]; decide), if_neg H35.out, ← hd]
  have hch : sgChosen (s.data.toList.drop k) = if (longL (s.data.toList.drop k) opsB).size < (longL (s.data.toList.drop k) punB).size then (longL (s.data.toList.drop k) punB, 6) else (longL (s.data.toList.drop k) opsB, 4) := rfl
  rw [hch] at hon
  have HL1 := Lib.hid (fun b W h => longest_any s hs k (by omega) b opsB (by decide) ops3 W h)
  have HL2 := Lib.hid (fun b W h => longest_any s hs k (by omega) b punB (by decide) pun3 W h)
  generalize longL (s.data.toList.drop k) opsB = op at *
  generalize longL (s.data.toList.drop k) punB = pu at *
  have HON := Lib.hid hon
  clear hon hch hd
  go_wp2_with fail
  refine (ops_any _).mono ?_
  rintro e w3 ⟨b1, rfl, ht1, hb⟩
  have HT1 := Lib.hid (And.intro (HT.out.later hb) ht1)
  clear hb ht1
  go_wp2_with fail
  refine (HL1.out b1 _ HT1.out.2).mono ?_
  rintro e w4 ⟨rfl, hb⟩
  have HT2 := Lib.hid (HT1.out.1.later hb)
  clear hb HT1
  go_wp2_with fail
  refine (puncts_any _).mono ?_
  rintro e w5 ⟨b2, rfl, ht2, hb⟩
  have HT3 := Lib.hid (And.intro (HT2.out.later hb) ht2)
  clear hb ht2 HT2
  go_wp2_with fail
  refine (HL2.out b2 _ HT3.out.2).mono ?_
  rintro e w6 ⟨rfl, hb⟩
  have HT4 := Lib.hid (HT3.out.1.later hb)
  clear hb HT3
  obtain ⟨p0, p1, p2, p3, p4, pz⟩ := HT4.out.p
  have pz0 := pz 0
  have pz1 := pz 1
  clear pz
  go_upto_region 22 with fail
  clear p0 p1 p2 p3 p4 pz0 pz1
  have HT5 := Lib.hid ((HT4.out.kind 4).text op)
  generalize (w6.setCell ⟨w.heap.size + 1, 0, none⟩ (.int .i64 4)).setCell ⟨w.heap.size + 1, 1, none⟩ (.string op) = W7 at *
  by_cases g : op.size < pu.size
  · have fg : decide (op.size < pu.size) = true := decide_eq_true g
    have hon := HON.out
    rw [if_pos g] at hon
    have hne : pu.size ≠ 0 := by omega
    rw [if_neg hne] at hon
    have fe : (pu.toList == []) = false := by
      cases hl : pu.data.toList with
      | nil => exact absurd (by rw [size_eq, hl]; rfl) hne
      | cons a l => rw [ByteArray.toList_eq, hl]; rfl
    have HN2 := Lib.hid hon
    clear hon g hne
    obtain ⟨p0, p1, p2, p3, p4, pz⟩ := HT5.out.p
    have pz0 := pz 0
    have pz1 := pz 1
    clear pz
    go_upto_region 24 with fail
    clear p0 p1 p2 p3 p4 pz0 pz1
    have HT6 := Lib.hid ((HT5.out.kind 6).text pu)
    generalize (W7.setCell ⟨w.heap.size + 1, 0, none⟩ (.int .i64 6)).setCell ⟨w.heap.size + 1, 1, none⟩ (.string pu) = W8 at *
    obtain ⟨x0, x1, x2, x3, x4, -⟩ := HT6.out.p
    obtain ⟨d0, d1, d2, d3, d4, dz⟩ := HT6.out.q
    go_wp2_with fail
    obtain ⟨q0, q1, q2, q3, q4⟩ := set5 d0 d1 d2 d3 d4 (.int .i64 6) (.string pu) (.bool false) (.int .u64 0) (.int .i64 ln)
    refine bodyPost_ret (v := .tuple #[.agg #[.int .i64 6, .string pu, .bool false, .int .u64 0, .int .i64 ln], .int .i64 0]) (by simp [results, Tryd.results19, go_sem, q0, q1, q2, q3, q4]) rfl ?_
    exact OneSaid.mk (by rw [HN2.out]) (fun _ => by rw [HN2.out]; exact ⟨rfl, rfl, rfl, rfl⟩) (below_set5 HT6.out.b (Nat.le_refl _) _ _ _ _ _)
  · have fg : decide (op.size < pu.size) = false := decide_eq_false g
    have hon := HON.out
    rw [if_neg g] at hon
    by_cases h0 : op.size = 0
    · rw [if_pos h0] at hon
      have fe : (op.toList == []) = true := by
        have hl : op.data.toList = [] := List.length_eq_zero_iff.1 (by rw [← size_eq]; exact h0)
        rw [ByteArray.toList_eq, hl]
        rfl
      have HN2 := Lib.hid hon
      clear hon g h0
      obtain ⟨x0, x1, x2, x3, x4, -⟩ := HT5.out.p
      obtain ⟨d0, d1, d2, d3, d4, dz⟩ := HT5.out.q
      go_wp2_with fail
      obtain ⟨q0, q1, q2, q3, q4⟩ := set5 d0 d1 d2 d3 d4 (.int .i64 4) (.string op) (.bool false) (.int .u64 0) (.int .i64 ln)
      refine bodyPost_ret (v := .tuple #[.agg #[.int .i64 4, .string op, .bool false, .int .u64 0, .int .i64 ln], .int .i64 3]) (by simp [results, Tryd.results19, go_sem, q0, q1, q2, q3, q4]) rfl ?_
      exact OneSaid.mk (by rw [HN2.out]) (fun h => absurd h (by decide)) (below_set5 HT5.out.b (Nat.le_refl _) _ _ _ _ _)
    · rw [if_neg h0] at hon
      have fe : (op.toList == []) = false := by
        cases hl : op.data.toList with
        | nil => exact absurd (by rw [size_eq, hl]; rfl) h0
        | cons a l => rw [ByteArray.toList_eq, hl]; rfl
      have HN2 := Lib.hid hon
      clear hon g h0
      obtain ⟨x0, x1, x2, x3, x4, -⟩ := HT5.out.p
      obtain ⟨d0, d1, d2, d3, d4, dz⟩ := HT5.out.q
      go_wp2_with fail
      obtain ⟨q0, q1, q2, q3, q4⟩ := set5 d0 d1 d2 d3 d4 (.int .i64 4) (.string op) (.bool false) (.int .u64 0) (.int .i64 ln)
      refine bodyPost_ret (v := .tuple #[.agg #[.int .i64 4, .string op, .bool false, .int .u64 0, .int .i64 ln], .int .i64 0]) (by simp [results, Tryd.results19, go_sem, q0, q1, q2, q3, q4]) rfl ?_
      exact OneSaid.mk (by rw [HN2.out]) (fun _ => by rw [HN2.out]; exact ⟨rfl, rfl, rfl, rfl⟩) (below_set5 HT5.out.b (Nat.le_refl _) _ _ _ _ _)


theorem one_any (s : ByteArray) (hs : s.size ≤ 100000) (k : Nat) (hk : k < s.size) (ln : Int) (c : UInt8) (hd : s.data.toList.drop k = c :: s.data.toList.drop (k + 1)) (hsc : s[k] = c) (w : World) :
    Calls Tryd.prog 19 #[.string s, .int .i64 k, .int .i64 ln] w (OneSaid c (s.data.toList.drop (k + 1)) ln w) := by
  cases h1 : smB c with
  | true => exact one_small s hs k hk ln c hd hsc h1 w
  | false =>
    cases h2 : cpB c with
    | true => exact one_cap s hs k hk ln c hd hsc h1 h2 w
    | false =>
      cases h3 : dgB c with
      | true => exact one_dig s hs k hk ln c hd hsc h1 h2 h3 w
      | false =>
        by_cases h4 : c = 35
        · cases h6 : hasPrefix (s.data.toList.drop (k + 1)) [45] with
          | true =>
            have h5 : k + 1 < s.size := by
              by_cases g : k + 1 < s.size
              · exact g
              · rw [List.drop_eq_nil_of_le (by rw [← size_eq]; omega)] at h6
                cases h6
            exact one_minus s hs k hk ln c hd hsc h1 h2 h3 h4 h5 h6 w
          | false => exact one_plain s hs k hk ln c hd hsc h1 h2 h3 h4 h6 w
        · exact one_sign s hs k hk ln c hd hsc h1 h2 h3 h4 w

end Go.Proofs.YtkeeglpbhjnmdaaDoor
