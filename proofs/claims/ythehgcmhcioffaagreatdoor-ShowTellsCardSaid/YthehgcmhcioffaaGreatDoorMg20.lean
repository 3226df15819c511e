import Derived.Test.YthehgcmhcioffaaGreatDoorMg18
import Derived.Test.YthehgcmhcioffaaGreatDoorMg19
namespace Go.Proofs.YthehgcmhcioffaaGreatDoor
set_option maxHeartbeats 64000000
set_option maxRecDepth 100000
open Go.RowKit Go.Lib
def OneSaid (c : UInt8) (r : List UInt8) (ln : Int) (w : World) (e : Ending) (w' : World) : Prop :=
  ∃ (k : Int) (b : ByteArray) (f : Bool) (x : Int), e = .returned (.tuple #[.agg #[.int .i64 k, .string b, .bool f, .int .u64 x, .int .i64 ln], .int .i64 (oneL c r).2]) ∧ ((oneL c r).2 = 0 → k = (oneL c r).1.k ∧ b.data.toList = (oneL c r).1.t ∧ f = (oneL c r).1.f ∧ x = (oneL c r).1.x) ∧ Below w.heap.size w w'
theorem OneSaid.mk {c : UInt8} {r : List UInt8} {ln : Int} {w w' : World} {k : Int} {b : ByteArray} {f : Bool} {x er : Int} (he : (oneL c r).2 = er) (h : er = 0 → k = (oneL c r).1.k ∧ b.data.toList = (oneL c r).1.t ∧ f = (oneL c r).1.f ∧ x = (oneL c r).1.x) (hb : Below w.heap.size w w') : OneSaid c r ln w (.returned (.tuple #[.agg #[.int .i64 k, .string b, .bool f, .int .u64 x, .int .i64 ln], .int .i64 er])) w' := by
  subst he
  exact ⟨k, b, f, x, rfl, h, hb⟩
structure Two (w W : World) (kd : Int) (bt : ByteArray) (ff : Bool) (xx ln : Int) : Prop where
  b : Below w.heap.size w W
  q : Bxl W w.heap.size 0 ⟨#[]⟩ false 0 0
  p : Bxl W (w.heap.size + 1) kd bt ff xx ln
theorem Two.later {w W W' : World} {kd : Int} {bt : ByteArray} {ff : Bool} {xx ln : Int} (h : Two w W kd bt ff xx ln) (hb : Below W.heap.size W W') : Two w W' kd bt ff xx ln := ⟨onB' h.b hb, h.q.later hb, h.p.later hb⟩
theorem Two.text {w W : World} {kd : Int} {bt : ByteArray} {ff : Bool} {xx ln : Int} (h : Two w W kd bt ff xx ln) (v : ByteArray) : Two w (W.setCell ⟨w.heap.size + 1, 1, none⟩ (.string v)) kd v ff xx ln := ⟨h.b.setCell (p := ⟨w.heap.size + 1, 1, none⟩) (Nat.le_succ _) _, h.q.far (by omega) _, h.p.set1 v⟩
theorem Two.kind {w W : World} {kd : Int} {bt : ByteArray} {ff : Bool} {xx ln : Int} (h : Two w W kd bt ff xx ln) (v : Int) : Two w (W.setCell ⟨w.heap.size + 1, 0, none⟩ (.int .i64 v)) v bt ff xx ln := ⟨h.b.setCell (p := ⟨w.heap.size + 1, 0, none⟩) (Nat.le_succ _) _, h.q.far (by omega) _, h.p.set0 v⟩
theorem two_new (w : World) (ln : Int) : Two w ((w.alloc (.cells #[.int .i64 0, .string ⟨#[]⟩, .bool false, .int .u64 0, .int .i64 0] 93)).alloc (.cells #[.int .i64 0, .string ⟨#[]⟩, .bool false, .int .u64 0, .int .i64 ln] 93)) 0 ⟨#[]⟩ false 0 ln := by
  have tb := bxl_new (w.alloc (.cells #[.int .i64 0, .string ⟨#[]⟩, .bool false, .int .u64 0, .int .i64 0] 93)) 0 ⟨#[]⟩ false 0 ln
  rw [World.size_alloc] at tb
  exact ⟨(Br.alloc Nr _).alloc (by simp) _, (bxl_new w 0 ⟨#[]⟩ false 0 0).later (Br.alloc Nr _), tb⟩
theorem run_text (s : ByteArray) (k n : Nat) (l : List UInt8) (h : (s.data.toList.drop k).take n = l) : (s.extract k (k + n)).data.toList = l := by
  rw [← h]
  simp [ByteArray.data_extract]
theorem run_fits (s : ByteArray) (k : Nat) (h : k ≤ s.size) : k + (runL (s.data.toList.drop k)).length ≤ s.size := by
  have h1 := run_le (s.data.toList.drop k)
  rw [List.length_drop, ← size_eq] at h1
  omega
theorem numT_two {t : List UInt8} {f : Bool} {x er : Int} (h : parseL (trimPrefix t [35]) = (f, x, er)) : (numT t).2 = er ∧ (er = 0 → (numT t).1 = ⟨3, t, f, x⟩) := by
  unfold numT
  rw [h]
  simp only
  split
  · rename_i g
    exact ⟨g.symm, fun _ => rfl⟩
  · rename_i g
    exact ⟨rfl, fun e => absurd e g⟩
theorem one_small (s : ByteArray) (hs : s.size ≤ 100000) (k : Nat) (hk : k < s.size) (ln : Int) (c : UInt8) (hd : s.data.toList.drop k = c :: s.data.toList.drop (k + 1)) (hsc : s[k] = c) (h1 : smB c = true) (w : World) :
    Calls Tryz.prog 56 #[.string s, .int .i64 k, .int .i64 ln] w (OneSaid c (s.data.toList.drop (k + 1)) ln w) := by
  have HT := Hd (two_new w ln)
  have hk' : (k : Int) < (s.size : Int) := by omega
  have hk0 : (0 : Int) ≤ (k : Int) := by omega
  go_enter Tryz.func56, Tryz.ntmps56
  go_upto_region 3 with fail
  generalize ((w.alloc (.cells #[.int .i64 0, .string ⟨#[]⟩, .bool false, .int .u64 0, .int .i64 0] 93)).alloc (.cells #[.int .i64 0, .string ⟨#[]⟩, .bool false, .int .u64 0, .int .i64 ln] 93)) = W at *
  go_wp2_with fail
  refine (smB_any c _).mono ?_
  rintro e w2 ⟨rfl, rfl⟩
  rw [h1]
  have hfit := run_fits s k (by omega)
  have htx := run_text s k (runL (s.data.toList.drop k)).length _ (run_take _)
  generalize hrn : (runL (s.data.toList.drop k)).length = rn at *
  have TX := Hd (Ai htx hrn)
  clear htx
  have es : IntKind.i64.wrap ((k : Int) + (rn : Int)) = (k : Int) + (rn : Int) := by rw [IntKind.wrap_i64]; omega
  have es0 : (0 : Int) ≤ (k : Int) + (rn : Int) := by omega
  have es1 : (k : Int) ≤ (k : Int) + (rn : Int) := by omega
  have es2 : ((k : Int) + (rn : Int)).toNat = k + rn := by omega
  have es3 : (k : Int) + (rn : Int) ≤ (s.size : Int) := by omega
  have HRN := Hd (fun W => run7_any s hs k (by omega) W)
  clear hrn
  go_wp2_with fail
  refine (HRN.out _).mono ?_
  rintro e w3 ⟨rfl, hb⟩
  rw [TX.out.2]
  have HT1 := Hd (HT.out.later hb)
  clear hb
  obtain ⟨p0, p1, p2, p3, p4, pz⟩ := HT1.out.p
  have pz0 := pz 0
  have pz1 := pz 1
  clear pz
  go_upto_region 5 with fail
  clear p0 p1 p2 p3 p4 pz0 pz1
  have HT2 := Hd (HT1.out.text (s.extract k (k + rn)))
  generalize w3.setCell ⟨w.heap.size + 1, 1, none⟩ (.string (s.extract k (k + rn))) = W4 at *
  generalize s.extract k (k + rn) = tx at *
  obtain ⟨t', ht'⟩ : ∃ t', tx.data.toList = c :: t' := by
    have hi : inRun c = true := by rw [inRun_eq]; simp [h1]
    exact ⟨_, by rw [TX.out.1, hd, run_cons, if_pos hi]⟩
  have HTX := Hd ht'
  clear ht' es es0 es1 es2 es3 hfit
  obtain ⟨p0, p1, p2, p3, p4, pz⟩ := HT2.out.p
  have pz0 := pz 0
  have pz1 := pz 1
  clear pz
  go_wp2_with fail
  refine (kind_any tx c t' HTX.out _).mono ?_
  rintro e w5 ⟨rfl, hb⟩
  have HT3 := Hd (HT2.out.later hb)
  clear hb
  clear p0 p1 p2 p3 p4 pz0 pz1
  obtain ⟨p0, p1, p2, p3, p4, pz⟩ := HT3.out.p
  have pz0 := pz 0
  have pz1 := pz 1
  clear pz
  go_upto_region 6 with fail
  clear p0 p1 p2 p3 p4 pz0 pz1
  have HT4 := Hd (HT3.out.kind (refK (c :: t') c))
  generalize w5.setCell ⟨w.heap.size + 1, 0, none⟩ (.int .i64 (refK (c :: t') c)) = W6 at *
  have hon : oneL c (s.data.toList.drop (k + 1)) = if 16 < (c :: t').length then (.zero, 9) else (⟨refK (c :: t') c, c :: t', false, 0⟩, 0) := by
    have e1 : runL (c :: s.data.toList.drop (k + 1)) = c :: t' := by rw [← hd, ← TX.out.1, HTX.out]
    unfold oneL
    rw [if_pos (by exact Or.inl h1), e1]
  have hsz : tx.size = (c :: t').length := by rw [size_eq, HTX.out]
  generalize refK (c :: t') c = rk at *
  by_cases g16 : 16 < (c :: t').length
  · have f16 : decide ((16 : Int) < (tx.size : Int)) = true := decide_eq_true (by omega)
    rw [if_pos g16] at hon
    have HON := Hd hon
    clear hon g16 hsz hd
    obtain ⟨x0, x1, x2, x3, x4, -⟩ := HT4.out.p
    obtain ⟨d0, d1, d2, d3, d4, dz⟩ := HT4.out.q
    go_wp2_with fail
    obtain ⟨q0, q1, q2, q3, q4⟩ := set5 d0 d1 d2 d3 d4 (.int .i64 rk) (.string tx) (.bool false) (.int .u64 0) (.int .i64 ln)
    refine bodyPost_ret (v := .tuple #[.agg #[.int .i64 rk, .string tx, .bool false, .int .u64 0, .int .i64 ln], .int .i64 9]) (by simp [results, Tryz.results56, go_sem, q0, q1, q2, q3, q4]) rfl ?_
    exact OneSaid.mk (by rw [HON.out]) (fun h => absurd h (by decide)) (below_set5 HT4.out.b Nr _ _ _ _ _)
  · have f16 : decide ((16 : Int) < (tx.size : Int)) = false := decide_eq_false (by omega)
    rw [if_neg g16] at hon
    have HON := Hd hon
    clear hon g16 hsz hd
    obtain ⟨x0, x1, x2, x3, x4, -⟩ := HT4.out.p
    obtain ⟨d0, d1, d2, d3, d4, dz⟩ := HT4.out.q
    go_wp2_with fail
    obtain ⟨q0, q1, q2, q3, q4⟩ := set5 d0 d1 d2 d3 d4 (.int .i64 rk) (.string tx) (.bool false) (.int .u64 0) (.int .i64 ln)
    refine bodyPost_ret (v := .tuple #[.agg #[.int .i64 rk, .string tx, .bool false, .int .u64 0, .int .i64 ln], .int .i64 0]) (by simp [results, Tryz.results56, go_sem, q0, q1, q2, q3, q4]) rfl ?_
    exact OneSaid.mk (by rw [HON.out]) (fun _ => by rw [HON.out]; exact ⟨rfl, HTX.out, rfl, rfl⟩) (below_set5 HT4.out.b Nr _ _ _ _ _)
theorem one_cap (s : ByteArray) (hs : s.size ≤ 100000) (k : Nat) (hk : k < s.size) (ln : Int) (c : UInt8) (hd : s.data.toList.drop k = c :: s.data.toList.drop (k + 1)) (hsc : s[k] = c) (h1 : smB c = false) (h2 : cpB c = true) (w : World) :
    Calls Tryz.prog 56 #[.string s, .int .i64 k, .int .i64 ln] w (OneSaid c (s.data.toList.drop (k + 1)) ln w) := by
  have HT := Hd (two_new w ln)
  have hk' : (k : Int) < (s.size : Int) := by omega
  have hk0 : (0 : Int) ≤ (k : Int) := by omega
  go_enter Tryz.func56, Tryz.ntmps56
  go_upto_region 3 with fail
  generalize ((w.alloc (.cells #[.int .i64 0, .string ⟨#[]⟩, .bool false, .int .u64 0, .int .i64 0] 93)).alloc (.cells #[.int .i64 0, .string ⟨#[]⟩, .bool false, .int .u64 0, .int .i64 ln] 93)) = W at *
  go_wp2_with fail
  refine (smB_any c _).mono ?_
  rintro e w2 ⟨rfl, rfl⟩
  rw [h1]
  go_wp2_with fail
  refine (cpB_any c _).mono ?_
  rintro e w2 ⟨rfl, rfl⟩
  rw [h2]
  have hfit := run_fits s k (by omega)
  have htx := run_text s k (runL (s.data.toList.drop k)).length _ (run_take _)
  generalize hrn : (runL (s.data.toList.drop k)).length = rn at *
  have TX := Hd (Ai htx hrn)
  clear htx
  have es : IntKind.i64.wrap ((k : Int) + (rn : Int)) = (k : Int) + (rn : Int) := by rw [IntKind.wrap_i64]; omega
  have es0 : (0 : Int) ≤ (k : Int) + (rn : Int) := by omega
  have es1 : (k : Int) ≤ (k : Int) + (rn : Int) := by omega
  have es2 : ((k : Int) + (rn : Int)).toNat = k + rn := by omega
  have es3 : (k : Int) + (rn : Int) ≤ (s.size : Int) := by omega
  have HRN := Hd (fun W => run7_any s hs k (by omega) W)
  clear hrn
  go_wp2_with fail
  refine (HRN.out _).mono ?_
  rintro e w3 ⟨rfl, hb⟩
  rw [TX.out.2]
  have HT1 := Hd (HT.out.later hb)
  clear hb
  obtain ⟨p0, p1, p2, p3, p4, pz⟩ := HT1.out.p
  have pz0 := pz 0
  have pz1 := pz 1
  clear pz
  go_upto_region 5 with fail
  clear p0 p1 p2 p3 p4 pz0 pz1
  have HT2 := Hd (HT1.out.text (s.extract k (k + rn)))
  generalize w3.setCell ⟨w.heap.size + 1, 1, none⟩ (.string (s.extract k (k + rn))) = W4 at *
  generalize s.extract k (k + rn) = tx at *
  obtain ⟨t', ht'⟩ : ∃ t', tx.data.toList = c :: t' := by
    have hi : inRun c = true := by rw [inRun_eq]; simp [h1, h2]
    exact ⟨_, by rw [TX.out.1, hd, run_cons, if_pos hi]⟩
  have HTX := Hd ht'
  clear ht' es es0 es1 es2 es3 hfit
  obtain ⟨p0, p1, p2, p3, p4, pz⟩ := HT2.out.p
  have pz0 := pz 0
  have pz1 := pz 1
  clear pz
  go_wp2_with fail
  refine (kind_any tx c t' HTX.out _).mono ?_
  rintro e w5 ⟨rfl, hb⟩
  have HT3 := Hd (HT2.out.later hb)
  clear hb
  clear p0 p1 p2 p3 p4 pz0 pz1
  obtain ⟨p0, p1, p2, p3, p4, pz⟩ := HT3.out.p
  have pz0 := pz 0
  have pz1 := pz 1
  clear pz
  go_upto_region 6 with fail
  clear p0 p1 p2 p3 p4 pz0 pz1
  have HT4 := Hd (HT3.out.kind (refK (c :: t') c))
  generalize w5.setCell ⟨w.heap.size + 1, 0, none⟩ (.int .i64 (refK (c :: t') c)) = W6 at *
  have hon : oneL c (s.data.toList.drop (k + 1)) = if 16 < (c :: t').length then (.zero, 9) else (⟨refK (c :: t') c, c :: t', false, 0⟩, 0) := by
    have e1 : runL (c :: s.data.toList.drop (k + 1)) = c :: t' := by rw [← hd, ← TX.out.1, HTX.out]
    unfold oneL
    rw [if_pos (by exact Or.inr h2), e1]
  have hsz : tx.size = (c :: t').length := by rw [size_eq, HTX.out]
  generalize refK (c :: t') c = rk at *
  by_cases g16 : 16 < (c :: t').length
  · have f16 : decide ((16 : Int) < (tx.size : Int)) = true := decide_eq_true (by omega)
    rw [if_pos g16] at hon
    have HON := Hd hon
    clear hon g16 hsz hd
    obtain ⟨x0, x1, x2, x3, x4, -⟩ := HT4.out.p
    obtain ⟨d0, d1, d2, d3, d4, dz⟩ := HT4.out.q
    go_wp2_with fail
    obtain ⟨q0, q1, q2, q3, q4⟩ := set5 d0 d1 d2 d3 d4 (.int .i64 rk) (.string tx) (.bool false) (.int .u64 0) (.int .i64 ln)
    refine bodyPost_ret (v := .tuple #[.agg #[.int .i64 rk, .string tx, .bool false, .int .u64 0, .int .i64 ln], .int .i64 9]) (by simp [results, Tryz.results56, go_sem, q0, q1, q2, q3, q4]) rfl ?_
    exact OneSaid.mk (by rw [HON.out]) (fun h => absurd h (by decide)) (below_set5 HT4.out.b Nr _ _ _ _ _)
  · have f16 : decide ((16 : Int) < (tx.size : Int)) = false := decide_eq_false (by omega)
    rw [if_neg g16] at hon
    have HON := Hd hon
    clear hon g16 hsz hd
    obtain ⟨x0, x1, x2, x3, x4, -⟩ := HT4.out.p
    obtain ⟨d0, d1, d2, d3, d4, dz⟩ := HT4.out.q
    go_wp2_with fail
    obtain ⟨q0, q1, q2, q3, q4⟩ := set5 d0 d1 d2 d3 d4 (.int .i64 rk) (.string tx) (.bool false) (.int .u64 0) (.int .i64 ln)
    refine bodyPost_ret (v := .tuple #[.agg #[.int .i64 rk, .string tx, .bool false, .int .u64 0, .int .i64 ln], .int .i64 0]) (by simp [results, Tryz.results56, go_sem, q0, q1, q2, q3, q4]) rfl ?_
    exact OneSaid.mk (by rw [HON.out]) (fun _ => by rw [HON.out]; exact ⟨rfl, HTX.out, rfl, rfl⟩) (below_set5 HT4.out.b Nr _ _ _ _ _)
theorem one_dig (s : ByteArray) (hs : s.size ≤ 100000) (k : Nat) (hk : k < s.size) (ln : Int) (c : UInt8) (hd : s.data.toList.drop k = c :: s.data.toList.drop (k + 1)) (hsc : s[k] = c) (h1 : smB c = false) (h2 : cpB c = false) (h3 : dgB c = true) (w : World) :
    Calls Tryz.prog 56 #[.string s, .int .i64 k, .int .i64 ln] w (OneSaid c (s.data.toList.drop (k + 1)) ln w) := by
  have HT := Hd (two_new w ln)
  have hk' : (k : Int) < (s.size : Int) := by omega
  have hk0 : (0 : Int) ≤ (k : Int) := by omega
  go_enter Tryz.func56, Tryz.ntmps56
  go_upto_region 3 with fail
  generalize ((w.alloc (.cells #[.int .i64 0, .string ⟨#[]⟩, .bool false, .int .u64 0, .int .i64 0] 93)).alloc (.cells #[.int .i64 0, .string ⟨#[]⟩, .bool false, .int .u64 0, .int .i64 ln] 93)) = W at *
  go_wp2_with fail
  refine (smB_any c _).mono ?_
  rintro e w2 ⟨rfl, rfl⟩
  rw [h1]
  go_wp2_with fail
  refine (cpB_any c _).mono ?_
  rintro e w2 ⟨rfl, rfl⟩
  rw [h2]
  go_wp2_with fail
  refine (dgB_any c _).mono ?_
  rintro e w2 ⟨rfl, rfl⟩
  rw [h3]
  have hfit := run_fits s k (by omega)
  have htx := run_text s k (runL (s.data.toList.drop k)).length _ (run_take _)
  generalize hrn : (runL (s.data.toList.drop k)).length = rn at *
  have TX := Hd (Ai htx hrn)
  clear htx
  have es : IntKind.i64.wrap ((k : Int) + (rn : Int)) = (k : Int) + (rn : Int) := by rw [IntKind.wrap_i64]; omega
  have es0 : (0 : Int) ≤ (k : Int) + (rn : Int) := by omega
  have es1 : (k : Int) ≤ (k : Int) + (rn : Int) := by omega
  have es2 : ((k : Int) + (rn : Int)).toNat = k + rn := by omega
  have es3 : (k : Int) + (rn : Int) ≤ (s.size : Int) := by omega
  have HRN := Hd (fun W => run7_any s hs k (by omega) W)
  clear hrn
  go_wp2_with fail
  refine (HRN.out _).mono ?_
  rintro e w3 ⟨rfl, hb⟩
  rw [TX.out.2]
  have HT1 := Hd (HT.out.later hb)
  clear hb
  obtain ⟨p0, p1, p2, p3, p4, pz⟩ := HT1.out.p
  have pz0 := pz 0
  have pz1 := pz 1
  clear pz
  go_upto_region 11 with fail
  clear p0 p1 p2 p3 p4 pz0 pz1
  have HT2 := Hd (HT1.out.text (s.extract k (k + rn)))
  generalize w3.setCell ⟨w.heap.size + 1, 1, none⟩ (.string (s.extract k (k + rn))) = W4 at *
  generalize s.extract k (k + rn) = tx at *
  obtain ⟨f, x, er, hp⟩ : ∃ f x er, parseL (trimPrefix tx.data.toList [35]) = (f, x, er) := ⟨_, _, _, rfl⟩
  have hi : inRun c = true := by rw [inRun_eq]; simp [h3]
  have hsz : 1 ≤ tx.size := by rw [size_eq, TX.out.1, hd, run_cons, if_pos hi]; simp
  have hsz2 : tx.size ≤ 100000 := by rw [size_eq, TX.out.1, TX.out.2]; omega
  have HN := Hd (fun W => number7_any tx hsz2 hsz ln W f x er hp)
  have hon : oneL c (s.data.toList.drop (k + 1)) = numT tx.data.toList := by
    unfold oneL
    rw [if_neg (by rw [h1, h2]; decide), if_pos h3, ← hd, ← TX.out.1]
  have hn2 := numT_two hp
  rw [← hon] at hn2
  have HN2 := Hd hn2
  clear hp hn2 hon hd es es0 es1 es2 es3 hfit hsz hsz2
  obtain ⟨x0, x1, x2, x3, x4, -⟩ := HT2.out.p
  go_wp2_with fail
  refine (HN.out _).mono ?_
  rintro e w5 ⟨rfl, hb⟩
  have HT3 := Hd (HT2.out.later hb)
  clear hb x0 x1 x2 x3 x4
  obtain ⟨d0, d1, d2, d3, d4, dz⟩ := HT3.out.q
  go_wp2_with fail
  obtain ⟨q0, q1, q2, q3, q4⟩ := set5 d0 d1 d2 d3 d4 (.int .i64 3) (.string tx) (.bool f) (.int .u64 x) (.int .i64 ln)
  refine bodyPost_ret (v := .tuple #[.agg #[.int .i64 3, .string tx, .bool f, .int .u64 x, .int .i64 ln], .int .i64 er]) (by simp [results, Tryz.results56, go_sem, q0, q1, q2, q3, q4]) rfl ?_
  exact OneSaid.mk HN2.out.1 (fun e => by rw [HN2.out.2 e]; exact ⟨rfl, rfl, rfl, rfl⟩) (below_set5 HT3.out.b Nr _ _ _ _ _)
theorem one_minus (s : ByteArray) (hs : s.size ≤ 100000) (k : Nat) (hk : k < s.size) (ln : Int) (c : UInt8) (hd : s.data.toList.drop k = c :: s.data.toList.drop (k + 1)) (hsc : s[k] = c) (h1 : smB c = false) (h2 : cpB c = false) (h3 : dgB c = false) (h4 : c = 35) (h5 : k + 1 < s.size) (h6 : hasPrefix (s.data.toList.drop (k + 1)) [45] = true) (w : World) :
    Calls Tryz.prog 56 #[.string s, .int .i64 k, .int .i64 ln] w (OneSaid c (s.data.toList.drop (k + 1)) ln w) := by
  have HC := Hd h4
  clear h4
  have HT := Hd (two_new w ln)
  have hk' : (k : Int) < (s.size : Int) := by omega
  have hk0 : (0 : Int) ≤ (k : Int) := by omega
  go_enter Tryz.func56, Tryz.ntmps56
  go_upto_region 3 with fail
  generalize ((w.alloc (.cells #[.int .i64 0, .string ⟨#[]⟩, .bool false, .int .u64 0, .int .i64 0] 93)).alloc (.cells #[.int .i64 0, .string ⟨#[]⟩, .bool false, .int .u64 0, .int .i64 ln] 93)) = W at *
  go_wp2_with fail
  refine (smB_any c _).mono ?_
  rintro e w2 ⟨rfl, rfl⟩
  rw [h1]
  go_wp2_with fail
  refine (cpB_any c _).mono ?_
  rintro e w2 ⟨rfl, rfl⟩
  rw [h2]
  go_wp2_with fail
  refine (dgB_any c _).mono ?_
  rintro e w2 ⟨rfl, rfl⟩
  rw [h3]
  obtain ⟨d, hd2, hsd⟩ := drop_cons_of (s := s) (k := k + 1) h5
  have hd45 : d = 45 := by
    rw [hd2] at h6
    rw [has_cons, has_nil] at h6
    exact (by simpa using h6 : (45 : UInt8) = d).symm
  have q1 : ((d.toNat : Int) == 45) = true := by rw [hd45]; rfl
  have hr : s.data.toList.drop (k + 1) = 45 :: s.data.toList.drop (k + 2) := by rw [hd2, hd45]
  have htr : trimPrefix (s.data.toList.drop (k + 1)) [45] = s.data.toList.drop (k + 2) := by rw [hr]; simp [trimPrefix, hasPrefix]
  have hmk : markedL (c :: s.data.toList.drop (k + 1)) = (s.data.toList.drop k).take (2 + (runL (s.data.toList.drop (k + 2))).length) := by
    rw [hd, HC.out, hr, marked_minus, show 2 + (runL (s.data.toList.drop (k + 2))).length = (runL (s.data.toList.drop (k + 2))).length + 1 + 1 by omega, List.take_succ_cons, List.take_succ_cons, run_take]
  have hlt2 : (k : Int) + 1 < (s.size : Int) := by omega
  clear hd2 hd45 hr
  have c35 : ((c.toNat : Int) == 35) = true := by rw [HC.out]; rfl
  have hfit := run_fits s (k + 2) (by omega)
  have hon : oneL c (s.data.toList.drop (k + 1)) = if runL (s.data.toList.drop (k + 2)) = [] then (.zero, 3) else numT (markedL (c :: s.data.toList.drop (k + 1))) := by
    unfold oneL
    rw [if_neg (by rw [h1, h2]; decide), if_neg (by rw [h3]; decide), if_pos HC.out, htr]
  rw [hmk] at hon
  have hnil : runL (s.data.toList.drop (k + 2)) = [] ↔ (runL (s.data.toList.drop (k + 2))).length = 0 := by rw [List.length_eq_zero_iff]
  simp only [hnil] at hon
  have HRN := Hd (fun W => run7_any s hs (k + 2) (by omega) W)
  generalize hrn : (runL (s.data.toList.drop (k + 2))).length = rn at *
  have ec : ((k + 2 : Nat) : Int) = (k : Int) + 2 := by omega
  rw [ec] at HRN
  have es : IntKind.i64.wrap ((k : Int) + 2) = (k : Int) + 2 := by rw [IntKind.wrap_i64]; omega
  have et : IntKind.i64.wrap ((k : Int) + 2 + (rn : Int)) = (k : Int) + 2 + (rn : Int) := by rw [IntKind.wrap_i64]; omega
  have es0 : (0 : Int) ≤ (k : Int) + 2 + (rn : Int) := by omega
  have es1 : (k : Int) ≤ (k : Int) + 2 + (rn : Int) := by omega
  have es2 : ((k : Int) + 2 + (rn : Int)).toNat = k + (2 + rn) := by omega
  have es3 : (k : Int) + 2 + (rn : Int) ≤ (s.size : Int) := by omega
  have HON := Hd hon
  clear hon h6 hnil hrn ec hmk htr hd
  go_wp2_with fail
  refine (HRN.out _).mono ?_
  rintro e w3 ⟨rfl, hb⟩
  have HT1 := Hd (HT.out.later hb)
  clear hb
  by_cases g0 : rn = 0
  · have f0 : ((rn : Int) == 0) = true := by rw [g0]; rfl
    have hon := HON.out
    rw [if_pos g0] at hon
    have HN2 := Hd hon
    clear hon g0
    obtain ⟨x0, x1, x2, x3, x4, -⟩ := HT1.out.p
    obtain ⟨d0, d1, d2, d3, d4, dz⟩ := HT1.out.q
    go_wp2_with fail
    obtain ⟨q0, q1, q2, q3, q4⟩ := set5 d0 d1 d2 d3 d4 (.int .i64 0) (.string ⟨#[]⟩) (.bool false) (.int .u64 0) (.int .i64 ln)
    refine bodyPost_ret (v := .tuple #[.agg #[.int .i64 0, .string ⟨#[]⟩, .bool false, .int .u64 0, .int .i64 ln], .int .i64 3]) (by simp [results, Tryz.results56, go_sem, q0, q1, q2, q3, q4]) rfl ?_
    exact OneSaid.mk (by rw [HN2.out]) (fun h => absurd h (by decide)) (below_set5 HT1.out.b Nr _ _ _ _ _)
  · have f0 : ((rn : Int) == 0) = false := by simp; omega
    have hon := HON.out
    rw [if_neg g0] at hon
    have htx := run_text s k (2 + rn) _ rfl
    rw [← htx] at hon
    have hfit2 := run_fits s k (by omega)
    obtain ⟨f, x, er, hp⟩ : ∃ f x er, parseL (trimPrefix (s.extract k (k + (2 + rn))).data.toList [35]) = (f, x, er) := ⟨_, _, _, rfl⟩
    have hln : (s.extract k (k + (2 + rn))).size = 2 + rn := by rw [size_eq, htx, List.length_take, List.length_drop, ← size_eq]; omega
    have HN := Hd (fun W => number7_any (s.extract k (k + (2 + rn))) (by omega) (by omega) ln W f x er hp)
    have hn2 := numT_two hp
    rw [← hon] at hn2
    have HN2 := Hd hn2
    clear hp hn2 hon htx hfit2 hln g0
    go_wp2_with fail
    refine (HRN.out _).mono ?_
    rintro e w4 ⟨rfl, hb⟩
    have HT1b := Hd (HT1.out.later hb)
    clear hb
    obtain ⟨p0, p1, p2, p3, p4, pz⟩ := HT1b.out.p
    have pz0 := pz 0
    have pz1 := pz 1
    clear pz
    go_upto_region 19 with fail
    clear p0 p1 p2 p3 p4 pz0 pz1
    have HT2 := Hd (HT1b.out.text (s.extract k (k + (2 + rn))))
    generalize w4.setCell ⟨w.heap.size + 1, 1, none⟩ (.string (s.extract k (k + (2 + rn)))) = W4 at *
    generalize s.extract k (k + (2 + rn)) = tx at *
    obtain ⟨x0, x1, x2, x3, x4, -⟩ := HT2.out.p
    go_wp2_with fail
    refine (HN.out _).mono ?_
    rintro e w5 ⟨rfl, hb⟩
    have HT3 := Hd (HT2.out.later hb)
    clear hb x0 x1 x2 x3 x4
    obtain ⟨d0, d1, d2, d3, d4, dz⟩ := HT3.out.q
    go_wp2_with fail
    obtain ⟨q0, q1, q2, q3, q4⟩ := set5 d0 d1 d2 d3 d4 (.int .i64 3) (.string tx) (.bool f) (.int .u64 x) (.int .i64 ln)
    refine bodyPost_ret (v := .tuple #[.agg #[.int .i64 3, .string tx, .bool f, .int .u64 x, .int .i64 ln], .int .i64 er]) (by simp [results, Tryz.results56, go_sem, q0, q1, q2, q3, q4]) rfl ?_
    exact OneSaid.mk HN2.out.1 (fun e => by rw [HN2.out.2 e]; exact ⟨rfl, rfl, rfl, rfl⟩) (below_set5 HT3.out.b Nr _ _ _ _ _)
theorem one_plain (s : ByteArray) (hs : s.size ≤ 100000) (k : Nat) (hk : k < s.size) (ln : Int) (c : UInt8) (hd : s.data.toList.drop k = c :: s.data.toList.drop (k + 1)) (hsc : s[k] = c) (h1 : smB c = false) (h2 : cpB c = false) (h3 : dgB c = false) (h4 : c = 35) (h6 : hasPrefix (s.data.toList.drop (k + 1)) [45] = false) (w : World) :
    Calls Tryz.prog 56 #[.string s, .int .i64 k, .int .i64 ln] w (OneSaid c (s.data.toList.drop (k + 1)) ln w) := by
  have HC := Hd h4
  clear h4
  have HT := Hd (two_new w ln)
  have hk' : (k : Int) < (s.size : Int) := by omega
  have hk0 : (0 : Int) ≤ (k : Int) := by omega
  go_enter Tryz.func56, Tryz.ntmps56
  go_upto_region 3 with fail
  generalize ((w.alloc (.cells #[.int .i64 0, .string ⟨#[]⟩, .bool false, .int .u64 0, .int .i64 0] 93)).alloc (.cells #[.int .i64 0, .string ⟨#[]⟩, .bool false, .int .u64 0, .int .i64 ln] 93)) = W at *
  go_wp2_with fail
  refine (smB_any c _).mono ?_
  rintro e w2 ⟨rfl, rfl⟩
  rw [h1]
  go_wp2_with fail
  refine (cpB_any c _).mono ?_
  rintro e w2 ⟨rfl, rfl⟩
  rw [h2]
  go_wp2_with fail
  refine (dgB_any c _).mono ?_
  rintro e w2 ⟨rfl, rfl⟩
  rw [h3]
  have hway : (∃ hlt : k + 1 < s.size, (((s[k + 1]'hlt).toNat : Int) == 45) = false) ∨ (s.size : Int) ≤ (k : Int) + 1 := by
    by_cases g : k + 1 < s.size
    · left
      refine ⟨g, ?_⟩
      obtain ⟨d, hd2, hsd⟩ := drop_cons_of (s := s) (k := k + 1) g
      rw [hsd]
      rw [hd2, has_cons, has_nil] at h6
      have : d ≠ 45 := by simpa using Ne.symm (by simpa using h6)
      have h7 : d.toNat ≠ 45 := fun e => this (UInt8.toNat_inj.1 (by rw [e]; rfl))
      simp
      omega
    · right
      omega
  have htr : trimPrefix (s.data.toList.drop (k + 1)) [45] = s.data.toList.drop (k + 1) := by simp [trimPrefix, h6]
  have hmk : markedL (c :: s.data.toList.drop (k + 1)) = (s.data.toList.drop k).take (1 + (runL (s.data.toList.drop (k + 1))).length) := by
    rw [hd, HC.out, marked_plain h6, show 1 + (runL (s.data.toList.drop (k + 1))).length = (runL (s.data.toList.drop (k + 1))).length + 1 by omega, List.take_succ_cons, run_take]
  have c35 : ((c.toNat : Int) == 35) = true := by rw [HC.out]; rfl
  have hfit := run_fits s (k + 1) (by omega)
  have hon : oneL c (s.data.toList.drop (k + 1)) = if runL (s.data.toList.drop (k + 1)) = [] then (.zero, 3) else numT (markedL (c :: s.data.toList.drop (k + 1))) := by
    unfold oneL
    rw [if_neg (by rw [h1, h2]; decide), if_neg (by rw [h3]; decide), if_pos HC.out, htr]
  rw [hmk] at hon
  have hnil : runL (s.data.toList.drop (k + 1)) = [] ↔ (runL (s.data.toList.drop (k + 1))).length = 0 := by rw [List.length_eq_zero_iff]
  simp only [hnil] at hon
  have HRN := Hd (fun W => run7_any s hs (k + 1) (by omega) W)
  generalize hrn : (runL (s.data.toList.drop (k + 1))).length = rn at *
  have ec : ((k + 1 : Nat) : Int) = (k : Int) + 1 := by omega
  rw [ec] at HRN
  have es : IntKind.i64.wrap ((k : Int) + 1) = (k : Int) + 1 := by rw [IntKind.wrap_i64]; omega
  have et : IntKind.i64.wrap ((k : Int) + 1 + (rn : Int)) = (k : Int) + 1 + (rn : Int) := by rw [IntKind.wrap_i64]; omega
  have es0 : (0 : Int) ≤ (k : Int) + 1 + (rn : Int) := by omega
  have es1 : (k : Int) ≤ (k : Int) + 1 + (rn : Int) := by omega
  have es2 : ((k : Int) + 1 + (rn : Int)).toNat = k + (1 + rn) := by omega
  have es3 : (k : Int) + 1 + (rn : Int) ≤ (s.size : Int) := by omega
  have HON := Hd hon
  clear hon h6 hnil hrn ec hmk htr hd
  rcases hway with ⟨hlt2, q1⟩ | hge
  · have hlt3 : (k : Int) + 1 < (s.size : Int) := by omega
    go_wp2_with fail
    refine (HRN.out _).mono ?_
    rintro e w3 ⟨rfl, hb⟩
    have HT1 := Hd (HT.out.later hb)
    clear hb
    by_cases g0 : rn = 0
    · have f0 : ((rn : Int) == 0) = true := by rw [g0]; rfl
      have hon := HON.out
      rw [if_pos g0] at hon
      have HN2 := Hd hon
      clear hon g0
      obtain ⟨x0, x1, x2, x3, x4, -⟩ := HT1.out.p
      obtain ⟨d0, d1, d2, d3, d4, dz⟩ := HT1.out.q
      go_wp2_with fail
      obtain ⟨q0, q1, q2, q3, q4⟩ := set5 d0 d1 d2 d3 d4 (.int .i64 0) (.string ⟨#[]⟩) (.bool false) (.int .u64 0) (.int .i64 ln)
      refine bodyPost_ret (v := .tuple #[.agg #[.int .i64 0, .string ⟨#[]⟩, .bool false, .int .u64 0, .int .i64 ln], .int .i64 3]) (by simp [results, Tryz.results56, go_sem, q0, q1, q2, q3, q4]) rfl ?_
      exact OneSaid.mk (by rw [HN2.out]) (fun h => absurd h (by decide)) (below_set5 HT1.out.b Nr _ _ _ _ _)
    · have f0 : ((rn : Int) == 0) = false := by simp; omega
      have hon := HON.out
      rw [if_neg g0] at hon
      have htx := run_text s k (1 + rn) _ rfl
      rw [← htx] at hon
      have hfit2 := run_fits s k (by omega)
      obtain ⟨f, x, er, hp⟩ : ∃ f x er, parseL (trimPrefix (s.extract k (k + (1 + rn))).data.toList [35]) = (f, x, er) := ⟨_, _, _, rfl⟩
      have hln : (s.extract k (k + (1 + rn))).size = 1 + rn := by rw [size_eq, htx, List.length_take, List.length_drop, ← size_eq]; omega
      have HN := Hd (fun W => number7_any (s.extract k (k + (1 + rn))) (by omega) (by omega) ln W f x er hp)
      have hn2 := numT_two hp
      rw [← hon] at hn2
      have HN2 := Hd hn2
      clear hp hn2 hon htx hfit2 hln g0
      go_wp2_with fail
      refine (HRN.out _).mono ?_
      rintro e w4 ⟨rfl, hb⟩
      have HT1b := Hd (HT1.out.later hb)
      clear hb
      obtain ⟨p0, p1, p2, p3, p4, pz⟩ := HT1b.out.p
      have pz0 := pz 0
      have pz1 := pz 1
      clear pz
      go_upto_region 19 with fail
      clear p0 p1 p2 p3 p4 pz0 pz1
      have HT2 := Hd (HT1b.out.text (s.extract k (k + (1 + rn))))
      generalize w4.setCell ⟨w.heap.size + 1, 1, none⟩ (.string (s.extract k (k + (1 + rn)))) = W4 at *
      generalize s.extract k (k + (1 + rn)) = tx at *
      obtain ⟨x0, x1, x2, x3, x4, -⟩ := HT2.out.p
      go_wp2_with fail
      refine (HN.out _).mono ?_
      rintro e w5 ⟨rfl, hb⟩
      have HT3 := Hd (HT2.out.later hb)
      clear hb x0 x1 x2 x3 x4
      obtain ⟨d0, d1, d2, d3, d4, dz⟩ := HT3.out.q
      go_wp2_with fail
      obtain ⟨q0, q1, q2, q3, q4⟩ := set5 d0 d1 d2 d3 d4 (.int .i64 3) (.string tx) (.bool f) (.int .u64 x) (.int .i64 ln)
      refine bodyPost_ret (v := .tuple #[.agg #[.int .i64 3, .string tx, .bool f, .int .u64 x, .int .i64 ln], .int .i64 er]) (by simp [results, Tryz.results56, go_sem, q0, q1, q2, q3, q4]) rfl ?_
      exact OneSaid.mk HN2.out.1 (fun e => by rw [HN2.out.2 e]; exact ⟨rfl, rfl, rfl, rfl⟩) (below_set5 HT3.out.b Nr _ _ _ _ _)
  · go_wp2_with fail
    refine (HRN.out _).mono ?_
    rintro e w3 ⟨rfl, hb⟩
    have HT1 := Hd (HT.out.later hb)
    clear hb
    by_cases g0 : rn = 0
    · have f0 : ((rn : Int) == 0) = true := by rw [g0]; rfl
      have hon := HON.out
      rw [if_pos g0] at hon
      have HN2 := Hd hon
      clear hon g0
      obtain ⟨x0, x1, x2, x3, x4, -⟩ := HT1.out.p
      obtain ⟨d0, d1, d2, d3, d4, dz⟩ := HT1.out.q
      go_wp2_with fail
      obtain ⟨q0, q1, q2, q3, q4⟩ := set5 d0 d1 d2 d3 d4 (.int .i64 0) (.string ⟨#[]⟩) (.bool false) (.int .u64 0) (.int .i64 ln)
      refine bodyPost_ret (v := .tuple #[.agg #[.int .i64 0, .string ⟨#[]⟩, .bool false, .int .u64 0, .int .i64 ln], .int .i64 3]) (by simp [results, Tryz.results56, go_sem, q0, q1, q2, q3, q4]) rfl ?_
      exact OneSaid.mk (by rw [HN2.out]) (fun h => absurd h (by decide)) (below_set5 HT1.out.b Nr _ _ _ _ _)
    · have f0 : ((rn : Int) == 0) = false := by simp; omega
      have hon := HON.out
      rw [if_neg g0] at hon
      have htx := run_text s k (1 + rn) _ rfl
      rw [← htx] at hon
      have hfit2 := run_fits s k (by omega)
      obtain ⟨f, x, er, hp⟩ : ∃ f x er, parseL (trimPrefix (s.extract k (k + (1 + rn))).data.toList [35]) = (f, x, er) := ⟨_, _, _, rfl⟩
      have hln : (s.extract k (k + (1 + rn))).size = 1 + rn := by rw [size_eq, htx, List.length_take, List.length_drop, ← size_eq]; omega
      have HN := Hd (fun W => number7_any (s.extract k (k + (1 + rn))) (by omega) (by omega) ln W f x er hp)
      have hn2 := numT_two hp
      rw [← hon] at hn2
      have HN2 := Hd hn2
      clear hp hn2 hon htx hfit2 hln g0
      go_wp2_with fail
      refine (HRN.out _).mono ?_
      rintro e w4 ⟨rfl, hb⟩
      have HT1b := Hd (HT1.out.later hb)
      clear hb
      obtain ⟨p0, p1, p2, p3, p4, pz⟩ := HT1b.out.p
      have pz0 := pz 0
      have pz1 := pz 1
      clear pz
      go_upto_region 19 with fail
      clear p0 p1 p2 p3 p4 pz0 pz1
      have HT2 := Hd (HT1b.out.text (s.extract k (k + (1 + rn))))
      generalize w4.setCell ⟨w.heap.size + 1, 1, none⟩ (.string (s.extract k (k + (1 + rn)))) = W4 at *
      generalize s.extract k (k + (1 + rn)) = tx at *
      obtain ⟨x0, x1, x2, x3, x4, -⟩ := HT2.out.p
      go_wp2_with fail
      refine (HN.out _).mono ?_
      rintro e w5 ⟨rfl, hb⟩
      have HT3 := Hd (HT2.out.later hb)
      clear hb x0 x1 x2 x3 x4
      obtain ⟨d0, d1, d2, d3, d4, dz⟩ := HT3.out.q
      go_wp2_with fail
      obtain ⟨q0, q1, q2, q3, q4⟩ := set5 d0 d1 d2 d3 d4 (.int .i64 3) (.string tx) (.bool f) (.int .u64 x) (.int .i64 ln)
      refine bodyPost_ret (v := .tuple #[.agg #[.int .i64 3, .string tx, .bool f, .int .u64 x, .int .i64 ln], .int .i64 er]) (by simp [results, Tryz.results56, go_sem, q0, q1, q2, q3, q4]) rfl ?_
      exact OneSaid.mk HN2.out.1 (fun e => by rw [HN2.out.2 e]; exact ⟨rfl, rfl, rfl, rfl⟩) (below_set5 HT3.out.b Nr _ _ _ _ _)
theorem ops3 : ∀ t, t ∈ opsB → t.size ≤ 3 := by decide
theorem pun3 : ∀ t, t ∈ punB → t.size ≤ 3 := by decide
theorem one_sign (s : ByteArray) (hs : s.size ≤ 100000) (k : Nat) (hk : k < s.size) (ln : Int) (c : UInt8) (hd : s.data.toList.drop k = c :: s.data.toList.drop (k + 1)) (hsc : s[k] = c) (h1 : smB c = false) (h2 : cpB c = false) (h3 : dgB c = false) (h4 : c ≠ 35) (w : World) :
    Calls Tryz.prog 56 #[.string s, .int .i64 k, .int .i64 ln] w (OneSaid c (s.data.toList.drop (k + 1)) ln w) := by
  have H35 := Hd h4
  have c35 : ((c.toNat : Int) == 35) = false := by
    have h7 : c.toNat ≠ 35 := fun e => h4 (UInt8.toNat_inj.1 (by rw [e]; rfl))
    simp
    omega
  clear h4
  have HT := Hd (two_new w ln)
  have hk' : (k : Int) < (s.size : Int) := by omega
  have hk0 : (0 : Int) ≤ (k : Int) := by omega
  go_enter Tryz.func56, Tryz.ntmps56
  go_upto_region 3 with fail
  generalize ((w.alloc (.cells #[.int .i64 0, .string ⟨#[]⟩, .bool false, .int .u64 0, .int .i64 0] 93)).alloc (.cells #[.int .i64 0, .string ⟨#[]⟩, .bool false, .int .u64 0, .int .i64 ln] 93)) = W at *
  go_wp2_with fail
  refine (smB_any c _).mono ?_
  rintro e w2 ⟨rfl, rfl⟩
  rw [h1]
  go_wp2_with fail
  refine (cpB_any c _).mono ?_
  rintro e w2 ⟨rfl, rfl⟩
  rw [h2]
  go_wp2_with fail
  refine (dgB_any c _).mono ?_
  rintro e w2 ⟨rfl, rfl⟩
  rw [h3]
  have hon : oneL c (s.data.toList.drop (k + 1)) = if (sgChosen (s.data.toList.drop k)).1.size = 0 then (.zero, 3) else (⟨(sgChosen (s.data.toList.drop k)).2, (sgChosen (s.data.toList.drop k)).1.data.toList, false, 0⟩, 0) := by
    unfold oneL
    rw [if_neg (by rw [h1, h2]; decide), if_neg (by rw [h3]; decide), if_neg H35.out, ← hd]
  have hch : sgChosen (s.data.toList.drop k) = if (longL (s.data.toList.drop k) opsB).size < (longL (s.data.toList.drop k) punB).size then (longL (s.data.toList.drop k) punB, 6) else (longL (s.data.toList.drop k) opsB, 4) := rfl
  rw [hch] at hon
  have HL1 := Hd (fun b W h => longest_any s hs k (by omega) b opsB (by decide) ops3 W h)
  have HL2 := Hd (fun b W h => longest_any s hs k (by omega) b punB (by decide) pun3 W h)
  generalize longL (s.data.toList.drop k) opsB = op at *
  generalize longL (s.data.toList.drop k) punB = pu at *
  have HON := Hd hon
  clear hon hch hd
  go_wp2_with fail
  refine (ops_any _).mono ?_
  rintro e w3 ⟨b1, rfl, ht1, hb⟩
  have HT1 := Hd (Ai (HT.out.later hb) ht1)
  clear hb ht1
  go_wp2_with fail
  refine (HL1.out b1 _ HT1.out.2).mono ?_
  rintro e w4 ⟨rfl, hb⟩
  have HT2 := Hd (HT1.out.1.later hb)
  clear hb HT1
  go_wp2_with fail
  refine (puncts_any _).mono ?_
  rintro e w5 ⟨b2, rfl, ht2, hb⟩
  have HT3 := Hd (Ai (HT2.out.later hb) ht2)
  clear hb ht2 HT2
  go_wp2_with fail
  refine (HL2.out b2 _ HT3.out.2).mono ?_
  rintro e w6 ⟨rfl, hb⟩
  have HT4 := Hd (HT3.out.1.later hb)
  clear hb HT3
  obtain ⟨p0, p1, p2, p3, p4, pz⟩ := HT4.out.p
  have pz0 := pz 0
  have pz1 := pz 1
  clear pz
  go_upto_region 22 with fail
  clear p0 p1 p2 p3 p4 pz0 pz1
  have HT5 := Hd ((HT4.out.kind 4).text op)
  generalize (w6.setCell ⟨w.heap.size + 1, 0, none⟩ (.int .i64 4)).setCell ⟨w.heap.size + 1, 1, none⟩ (.string op) = W7 at *
  by_cases g : op.size < pu.size
  · have fg : decide (op.size < pu.size) = true := decide_eq_true g
    have hon := HON.out
    rw [if_pos g] at hon
    have hne : pu.size ≠ 0 := by omega
    rw [if_neg hne] at hon
    have fe : (pu.toList == []) = false := by
      cases hl : pu.data.toList with
      | nil => exact absurd (by rw [size_eq, hl]; rfl) hne
      | cons a l => rw [ByteArray.toList_eq, hl]; rfl
    have HN2 := Hd hon
    clear hon g hne
    obtain ⟨p0, p1, p2, p3, p4, pz⟩ := HT5.out.p
    have pz0 := pz 0
    have pz1 := pz 1
    clear pz
    go_upto_region 24 with fail
    clear p0 p1 p2 p3 p4 pz0 pz1
    have HT6 := Hd ((HT5.out.kind 6).text pu)
    generalize (W7.setCell ⟨w.heap.size + 1, 0, none⟩ (.int .i64 6)).setCell ⟨w.heap.size + 1, 1, none⟩ (.string pu) = W8 at *
    obtain ⟨x0, x1, x2, x3, x4, -⟩ := HT6.out.p
    obtain ⟨d0, d1, d2, d3, d4, dz⟩ := HT6.out.q
    go_wp2_with fail
    obtain ⟨q0, q1, q2, q3, q4⟩ := set5 d0 d1 d2 d3 d4 (.int .i64 6) (.string pu) (.bool false) (.int .u64 0) (.int .i64 ln)
    refine bodyPost_ret (v := .tuple #[.agg #[.int .i64 6, .string pu, .bool false, .int .u64 0, .int .i64 ln], .int .i64 0]) (by simp [results, Tryz.results56, go_sem, q0, q1, q2, q3, q4]) rfl ?_
    exact OneSaid.mk (by rw [HN2.out]) (fun _ => by rw [HN2.out]; exact ⟨rfl, rfl, rfl, rfl⟩) (below_set5 HT6.out.b Nr _ _ _ _ _)
  · have fg : decide (op.size < pu.size) = false := decide_eq_false g
    have hon := HON.out
    rw [if_neg g] at hon
    by_cases h0 : op.size = 0
    · rw [if_pos h0] at hon
      have fe : (op.toList == []) = true := by
        have hl : op.data.toList = [] := List.length_eq_zero_iff.1 (by rw [← size_eq]; exact h0)
        rw [ByteArray.toList_eq, hl]
        rfl
      have HN2 := Hd hon
      clear hon g h0
      obtain ⟨x0, x1, x2, x3, x4, -⟩ := HT5.out.p
      obtain ⟨d0, d1, d2, d3, d4, dz⟩ := HT5.out.q
      go_wp2_with fail
      obtain ⟨q0, q1, q2, q3, q4⟩ := set5 d0 d1 d2 d3 d4 (.int .i64 4) (.string op) (.bool false) (.int .u64 0) (.int .i64 ln)
      refine bodyPost_ret (v := .tuple #[.agg #[.int .i64 4, .string op, .bool false, .int .u64 0, .int .i64 ln], .int .i64 3]) (by simp [results, Tryz.results56, go_sem, q0, q1, q2, q3, q4]) rfl ?_
      exact OneSaid.mk (by rw [HN2.out]) (fun h => absurd h (by decide)) (below_set5 HT5.out.b Nr _ _ _ _ _)
    · rw [if_neg h0] at hon
      have fe : (op.toList == []) = false := by
        cases hl : op.data.toList with
        | nil => exact absurd (by rw [size_eq, hl]; rfl) h0
        | cons a l => rw [ByteArray.toList_eq, hl]; rfl
      have HN2 := Hd hon
      clear hon g h0
      obtain ⟨x0, x1, x2, x3, x4, -⟩ := HT5.out.p
      obtain ⟨d0, d1, d2, d3, d4, dz⟩ := HT5.out.q
      go_wp2_with fail
      obtain ⟨q0, q1, q2, q3, q4⟩ := set5 d0 d1 d2 d3 d4 (.int .i64 4) (.string op) (.bool false) (.int .u64 0) (.int .i64 ln)
      refine bodyPost_ret (v := .tuple #[.agg #[.int .i64 4, .string op, .bool false, .int .u64 0, .int .i64 ln], .int .i64 0]) (by simp [results, Tryz.results56, go_sem, q0, q1, q2, q3, q4]) rfl ?_
      exact OneSaid.mk (by rw [HN2.out]) (fun _ => by rw [HN2.out]; exact ⟨rfl, rfl, rfl, rfl⟩) (below_set5 HT5.out.b Nr _ _ _ _ _)
theorem one_any (s : ByteArray) (hs : s.size ≤ 100000) (k : Nat) (hk : k < s.size) (ln : Int) (c : UInt8) (hd : s.data.toList.drop k = c :: s.data.toList.drop (k + 1)) (hsc : s[k] = c) (w : World) :
    Calls Tryz.prog 56 #[.string s, .int .i64 k, .int .i64 ln] w (OneSaid c (s.data.toList.drop (k + 1)) ln w) := by
  cases h1 : smB c with
  | true => exact one_small s hs k hk ln c hd hsc h1 w
  | false =>
    cases h2 : cpB c with
    | true => exact one_cap s hs k hk ln c hd hsc h1 h2 w
    | false =>
      cases h3 : dgB c with
      | true => exact one_dig s hs k hk ln c hd hsc h1 h2 h3 w
      | false =>
        by_cases h4 : c = 35
        · cases h6 : hasPrefix (s.data.toList.drop (k + 1)) [45] with
          | true =>
            have h5 : k + 1 < s.size := by
              by_cases g : k + 1 < s.size
              · exact g
              · rw [List.drop_eq_nil_of_le (by rw [← size_eq]; omega)] at h6
                cases h6
            exact one_minus s hs k hk ln c hd hsc h1 h2 h3 h4 h5 h6 w
          | false => exact one_plain s hs k hk ln c hd hsc h1 h2 h3 h4 h6 w
        · exact one_sign s hs k hk ln c hd hsc h1 h2 h3 h4 w
structure Skips (s : ByteArray) (at0 : Nat) (line0 : Int) (k : Nat) (ln : Int) : Prop where
  le : k ≤ s.size
  ge : at0 ≤ k
  l0 : line0 ≤ ln
  l1 : ln ≤ line0 + (k - at0)
  eq : ∀ acc, lexF (s.data.toList.drop at0) line0 acc = lexF (s.data.toList.drop k) ln acc
def SkipSaid (s : ByteArray) (at0 : Nat) (line0 : Int) (w : World) (e : Ending) (w' : World) : Prop := ∃ (k : Nat) (ln : Int), e = .returned (.tuple #[.int .i64 k, .int .i64 ln]) ∧ Skips s at0 line0 k ln ∧ Starts (s.data.toList.drop k) ∧ Below w.heap.size w w'
theorem SkipSaid.mk {s : ByteArray} {at0 : Nat} {line0 : Int} {w w' : World} {k : Nat} {ln : Int} (h : Skips s at0 line0 k ln) (hs : Starts (s.data.toList.drop k)) (hb : Below w.heap.size w w') : SkipSaid s at0 line0 w (.returned (.tuple #[.int .i64 k, .int .i64 ln])) w' := ⟨k, ln, rfl, h, hs, hb⟩
theorem Skips.line {s : ByteArray} {at0 : Nat} {line0 : Int} {k : Nat} {ln : Int} (h : Skips s at0 line0 k ln) {r : List UInt8} (hd : s.data.toList.drop k = 10 :: r) (hr : r = s.data.toList.drop (k + 1)) (hk : k < s.size) : Skips s at0 line0 (k + 1) (ln + 1) := by
  refine ⟨by omega, by have := h.ge; omega, by have := h.l0; omega, by have := h.l1; have := h.ge; omega, fun acc => ?_⟩
  rw [h.eq, hd, lexF_nl, hr]
theorem Skips.blank {s : ByteArray} {at0 : Nat} {line0 : Int} {k : Nat} {ln : Int} (h : Skips s at0 line0 k ln) {c : UInt8} {r : List UInt8} (hd : s.data.toList.drop k = c :: r) (hr : r = s.data.toList.drop (k + 1)) (hk : k < s.size) (h10 : c ≠ 10) (hb : c = 9 ∨ c = 13 ∨ c = 32) : Skips s at0 line0 (k + 1) ln := by
  refine ⟨by omega, by have := h.ge; omega, h.l0, by have := h.l1; have := h.ge; omega, fun acc => ?_⟩
  rw [h.eq, hd, lexF_blank r ln acc h10 hb, hr]
theorem Skips.rem {s : ByteArray} {at0 : Nat} {line0 : Int} {k m : Nat} {ln : Int} (h : Skips s at0 line0 k ln) {c : UInt8} {r : List UInt8} (hd : s.data.toList.drop k = c :: r) (hp : hasPrefix (c :: r) [45, 45] = true) (hm : (s.data.toList.drop k).dropWhile (fun c => c != 10) = s.data.toList.drop m) (hkm : k ≤ m) (hms : m ≤ s.size) : Skips s at0 line0 m ln := by
  refine ⟨hms, by have := h.ge; omega, h.l0, by have := h.l1; have := h.ge; omega, fun acc => ?_⟩
  rw [h.eq, ← hm, hd, lexF_rem ln acc hp]
theorem byte_eq (c : UInt8) (z : Int) (n : Nat) (hz : z = (n : Int)) (hn : n < 256) : (((c.toNat : Int) == z) = true ∧ ((c.toNat : Int) != z) = false ∧ c = UInt8.ofNat n) ∨ (((c.toNat : Int) == z) = false ∧ ((c.toNat : Int) != z) = true ∧ c ≠ UInt8.ofNat n) := by
  subst hz
  by_cases g : c.toNat = n
  · refine Or.inl ⟨by simp [g], by simp [g], ?_⟩
    rw [← g]
    simp
  · refine Or.inr ⟨by simp; omega, by simp; omega, ?_⟩
    rintro rfl
    apply g
    simp
    omega
theorem skip_any_l7 (s : ByteArray) (hs : s.size ≤ 100000) (at0 : Nat) (h0 : at0 ≤ s.size) (line0 : Int) (hl0 : 0 ≤ line0) (hl1 : line0 ≤ 100001) (w : World) :
    Calls Tryz.prog 55 #[.string s, .int .i64 at0, .int .i64 line0] w (SkipSaid s at0 line0 w) := by
  have HL := Hd (Ai hl0 hl1)
  clear hl0 hl1
  go_enter Tryz.func55, Tryz.ntmps55
  go_wp2_with fail
  go_loopw [1, 2] (fun s4 s5 wr => ∃ (k : Nat) (ln : Int), s4 = .int .i64 k ∧ s5 = .int .i64 ln ∧ k ≤ s.size ∧ Skips s at0 line0 k ln ∧ Below w.heap.size w wr) (fun s4 _ _ => s.size - (RowKit.intOf s4).toNat)
  case atStart => exact ⟨at0, line0, rfl, rfl, h0, ⟨h0, Nat.le_refl _, Int.le_refl _, by omega, fun _ => rfl⟩, Below.refl _ _⟩
  case round =>
    obtain ⟨k, ln, rfl, rfl, hk, hsk, hb⟩ := hrel
    have hn0 := hsk.l0
    have hn1 := hsk.l1
    have hn2 := hsk.ge
    have hn3 := HL.out
    have HB := Hd (Ai hsk hb)
    clear hsk hb
    have ln0 : 0 ≤ ln := by omega
    have ln1 : ln ≤ 300000 := by omega
    clear hn0 hn1 hn2 hn3
    by_cases hlt : k < s.size
    · obtain ⟨c, hd, hsc⟩ := drop_cons_of hlt
      have hlt' : (k : Int) < (s.size : Int) := by omega
      have b0 : (0 : Int) ≤ (k : Int) := by omega
      have HD := Hd hd
      clear hd
      have eln : IntKind.i64.wrap (ln + 1) = ln + 1 := by rw [IntKind.wrap_i64]; omega
      have ek : IntKind.i64.wrap ((k : Int) + 1) = (k : Int) + 1 := by rw [IntKind.wrap_i64]; omega
      have ek0 : (0 : Int) ≤ (k : Int) + 1 := by omega
      have mkS : ∀ (hne : c ≠ 10) (hbl : ¬ (c = 9 ∨ c = 13 ∨ c = 32)) (hp : hasPrefix (c :: s.data.toList.drop (k + 1)) [45, 45] = false), Starts (s.data.toList.drop k) := by
        intro hne hbl hp c' r' e
        rw [HD.out] at e
        obtain ⟨rfl, rfl⟩ := List.cons.inj e
        rw [HD.out]
        exact ⟨hne, hbl, hp⟩
      have HMK := Hd mkS
      clear mkS
      rcases byte_eq c 45 45 rfl (by decide) with ⟨a1, a2, a3⟩ | ⟨a1, a2, a3⟩
      · have a0 : (c.toNat : Int) = 45 := by simpa using a1
        by_cases h2 : k + 1 < s.size
        · obtain ⟨d, hd2, hsd⟩ := drop_cons_of h2
          have h2' : (k : Int) + 1 < (s.size : Int) := by omega
          have HD2 := Hd hd2
          clear hd2
          rcases byte_eq d 45 45 rfl (by decide) with ⟨d1, d2, d3⟩ | ⟨d1, d2, d3⟩
          · have d0 : (d.toNat : Int) = 45 := by simpa using d1
            have hp : hasPrefix (c :: s.data.toList.drop (k + 1)) [45, 45] = true := by
              rw [HD2.out, has_cons, has_cons, has_nil, a3, d3]
              decide
            have HP := Hd (Ai hp a3)
            clear hp a1 a2 a3 d1 d2 d3
            go_wp2_with fail
            go_loopw [1] (fun s1 wr => ∃ m : Nat, s1 = .int .i64 m ∧ k ≤ m ∧ m ≤ s.size ∧ Hid ((s.data.toList.drop k).dropWhile (fun c => c != 10) = (s.data.toList.drop m).dropWhile (fun c => c != 10)) ∧ Below w.heap.size w wr) (fun s1 _ => s.size - (RowKit.intOf s1).toNat)
            case atStart => exact ⟨k, rfl, Nat.le_refl _, hk, Hd rfl, HB.out.2⟩
            case round =>
              obtain ⟨m, rfl, hm1, hm2, hm3, hbm⟩ := hrel
              have HM := Hd (Ai hm3.out hbm)
              clear hm3 hbm
              have em : IntKind.i64.wrap ((m : Int) + 1) = (m : Int) + 1 := by rw [IntKind.wrap_i64]; omega
              have em0 : (0 : Int) ≤ (m : Int) := by omega
              by_cases hml : m < s.size
              · obtain ⟨x, hdx, hsx⟩ := drop_cons_of hml
                have hml' : (m : Int) < (s.size : Int) := by omega
                have hmr := HM.out.1
                rw [hdx, List.dropWhile_cons] at hmr
                rcases byte_eq x 10 10 rfl (by decide) with ⟨x1, x2, x3⟩ | ⟨x1, x2, x3⟩
                · have hx10 : (x != 10) = false := by rw [x3]; decide
                  rw [hx10, if_neg (by decide), ← hdx] at hmr
                  have hkm : k ≠ m := by
                    intro e
                    subst e
                    rw [HD.out] at hdx
                    have := (List.cons.inj hdx).1
                    rw [HP.out.2, x3] at this
                    revert this
                    decide
                  have HS := Hd (Ai (HB.out.1.rem HD.out HP.out.1 hmr hm1 hm2) HM.out.2)
                  clear hdx hmr hx10 x3 a0 d0
                  go_wp2_with fail
                  exact ⟨⟨m, ln, rfl, rfl, hm2, HS.out.1, HS.out.2⟩, by simp [RowKit.intOf]; omega⟩
                · have hx10 : (x != 10) = true := by simpa using x3
                  rw [if_pos hx10] at hmr
                  have HS := Hd (Ai hmr HM.out.2)
                  clear hdx hmr hx10 x3 a0 d0
                  go_wp2_with fail
                  exact ⟨⟨m + 1, by go_num, by omega, by omega, Hd HS.out.1, HS.out.2⟩, by simp [RowKit.intOf]; omega⟩
              · obtain rfl : m = s.size := by omega
                have hmr := HM.out.1
                have hnil : s.data.toList.drop s.size = [] := List.drop_eq_nil_of_le (by rw [← size_eq]; exact Nat.le_refl _)
                have hmr2 : (s.data.toList.drop k).dropWhile (fun c => c != 10) = s.data.toList.drop s.size := by rw [hmr, hnil]; rfl
                have HS := Hd (Ai (HB.out.1.rem HD.out HP.out.1 hmr2 hm1 hm2) HM.out.2)
                clear hmr hnil hmr2 a0 d0
                go_wp2_with fail
                exact ⟨⟨s.size, ln, rfl, rfl, Nat.le_refl _, HS.out.1, HS.out.2⟩, by simp [RowKit.intOf]; omega⟩
          · have HS := Hd (HMK.out (by rw [a3]; decide) (by rw [a3]; decide) (by
              rw [HD2.out, has_cons, has_cons]
              have : (45 == d) = false := by simpa using Ne.symm d3
              rw [this]
              simp))
            clear a1 a2 a3 d3
            go_wp2_with fail
            go_ret2
            exact SkipSaid.mk HB.out.1 HS.out HB.out.2
        · have h2' : ¬ (k : Int) + 1 < (s.size : Int) := by omega
          have HS := Hd (HMK.out (by rw [a3]; decide) (by rw [a3]; decide) (by
              rw [List.drop_eq_nil_of_le (by rw [← size_eq]; omega), has_cons]
              simp [has_nil']))
          clear a1 a2 a3
          go_wp2_with fail
          go_ret2
          exact SkipSaid.mk HB.out.1 HS.out HB.out.2
      · have hnp : hasPrefix (c :: s.data.toList.drop (k + 1)) [45, 45] = false := by
          rw [has_cons]
          have : (45 == c) = false := by simpa using Ne.symm a3
          rw [this, Bool.false_and]
        have HNP := Hd hnp
        clear hnp a3
        rcases byte_eq c 9 9 rfl (by decide) with ⟨b1, b2, b3⟩ | ⟨b1, b2, b3⟩
        · have c0 : (c.toNat : Int) = 9 := by simpa using b1
          have HS := Hd (HB.out.1.blank HD.out rfl hlt (by rw [b3]; decide) (Or.inl b3))
          clear a1 a2 b1 b2 b3
          go_wp2_with fail
          exact ⟨⟨k + 1, ln, by go_num, rfl, by omega, HS.out, HB.out.2⟩, by simp [RowKit.intOf]; omega⟩
        · have B3 := Hd b3
          clear b3
          rcases byte_eq c 10 10 rfl (by decide) with ⟨c1, c2, c3⟩ | ⟨c1, c2, c3⟩
          · have c0 : (c.toNat : Int) = 10 := by simpa using c1
            have HS := Hd (HB.out.1.line (r := s.data.toList.drop (k + 1)) (by rw [HD.out, c3]; rfl) rfl hlt)
            clear a1 a2 b1 b2 c1 c2 c3
            go_wp2_with fail
            exact ⟨⟨k + 1, ln + 1, by go_num, by go_num, by omega, HS.out, HB.out.2⟩, by simp [RowKit.intOf]; omega⟩
          · have C3 := Hd c3
            clear c3
            rcases byte_eq c 13 13 rfl (by decide) with ⟨e1, e2, e3⟩ | ⟨e1, e2, e3⟩
            · have c0 : (c.toNat : Int) = 13 := by simpa using e1
              have HS := Hd (HB.out.1.blank HD.out rfl hlt C3.out (Or.inr (Or.inl e3)))
              clear a1 a2 b1 b2 c1 c2 e1 e2 e3
              go_wp2_with fail
              exact ⟨⟨k + 1, ln, by go_num, rfl, by omega, HS.out, HB.out.2⟩, by simp [RowKit.intOf]; omega⟩
            · have E3 := Hd e3
              clear e3
              rcases byte_eq c 32 32 rfl (by decide) with ⟨g1, g2, g3⟩ | ⟨g1, g2, g3⟩
              · have c0 : (c.toNat : Int) = 32 := by simpa using g1
                have HS := Hd (HB.out.1.blank HD.out rfl hlt C3.out (Or.inr (Or.inr g3)))
                clear a1 a2 b1 b2 c1 c2 e1 e2 g1 g2 g3
                go_wp2_with fail
                exact ⟨⟨k + 1, ln, by go_num, rfl, by omega, HS.out, HB.out.2⟩, by simp [RowKit.intOf]; omega⟩
              · have HS := Hd (HMK.out C3.out (by rintro (h | h | h); exact B3.out h; exact E3.out h; exact g3 h) HNP.out)
                clear g3
                go_wp2_with fail
                go_ret2
                exact SkipSaid.mk HB.out.1 HS.out HB.out.2
    · obtain rfl : k = s.size := by omega
      have hst : Starts (s.data.toList.drop s.size) := by
        intro c r e
        rw [List.drop_eq_nil_of_le (by rw [← size_eq]; exact Nat.le_refl _)] at e
        cases e
      have HST := Hd hst
      clear hst
      go_wp2_with fail
      go_ret2
      exact SkipSaid.mk HB.out.1 HST.out HB.out.2
theorem tail_of {s : ByteArray} {k : Nat} {c : UInt8} (h : s.data.toList.drop k = c :: s.data.toList.drop (k + 1)) (m : Nat) : (c :: s.data.toList.drop (k + 1)).drop m = s.data.toList.drop (k + m) := by
  rw [← h, List.drop_drop]
theorem slice_form {base : Nat} {v : Value} {n : Nat} {xs : List Value} {W : World} (h : W.ownsRow base 93 5 v n xs) : ∃ a c, v = .slice a n c := by
  rcases h.2 with ⟨e, e2⟩ | ⟨g, cap, cur, e, _⟩
  · subst e2
    exact ⟨_, _, e⟩
  · exact ⟨_, _, e⟩
theorem reflex_any (s : ByteArray) (hs : s.size ≤ 100000) (w : World) : Calls Tryz.prog 34 #[.string s] w (LexSaid (lexL s.data.toList) w) := by
  obtain ⟨i0, hi0, hz0, hzs, hzb⟩ := info_parts Tryz.info_token
  have HSK := Hd (fun W => skip_any_l7 s hs 0 (by omega) 1 (by omega) (by omega) W)
  go_enter Tryz.func34, Tryz.ntmps34
  go_wp2_with fail
  refine (HSK.out _).mono ?_
  rintro e W ⟨k0, ln0, rfl, hsk, hst, hb⟩
  have hF0 : lexF (s.data.toList.drop k0) ln0 [] = lexL s.data.toList := by
    rw [← hsk.eq, List.drop_zero]
    rfl
  have HW := Hd hb
  have HF0 := Hd (Ai hF0 (Ai hst (Ai hsk.le (Ai hsk.l0 hsk.l1))))
  clear hb hF0 hst hsk HSK
  go_wp2_with fail
  go_loopw [5, 6, 7] (fun s5 s6 s7 wr => ∃ (k : Nat) (ln : Int) (acc : List (Tk × Int)) (vv : Value), k ≤ s.size ∧ vv = s5 ∧ s6 = .int .i64 k ∧ s7 = .int .i64 ln ∧ lexF (s.data.toList.drop k) ln acc = lexL s.data.toList ∧ Starts (s.data.toList.drop k) ∧ wr.ownsRow W.heap.size 93 5 vv acc.length (flatT acc) ∧ Below W.heap.size W wr ∧ 0 ≤ ln ∧ ln ≤ 1 + k ∧ acc.length ≤ 4096) (fun _ s6 _ _ => s.size - (RowKit.intOf s6).toNat)
  case atStart => exact ⟨k0, ln0, [], _, HF0.out.2.2.1, rfl, rfl, rfl, HF0.out.1, HF0.out.2.1, World.ownsRow_nil _ _ _ _, Below.refl _ _, by have := HF0.out.2.2.2.1; omega, by have := HF0.out.2.2.2.2; omega, by simp⟩
  case round =>
    clear HF0
    obtain ⟨k, ln, acc, vv, hk, rfl, rfl, rfl, hR, hst, hown, hbw, hl0, hl1, hacc⟩ := hrel
    obtain ⟨aa, cc, rfl⟩ := slice_form hown
    have HQ := Hd (Ai hR (Ai hown (Ai hbw hst)))
    clear hR hown hbw hst
    by_cases hlt : k < s.size
    · have hlt' : (k : Int) < (s.size : Int) := by omega
      obtain ⟨c, hd, hsc⟩ := drop_cons_of hlt
      obtain ⟨h10, hbl, hp⟩ := HQ.out.2.2.2 c _ hd
      have hstep := HQ.out.1
      rw [hd] at hp hstep
      rw [lexF_tok ln acc h10 hbl hp] at hstep
      have hlen : (readL (c :: s.data.toList.drop (k + 1))).2 = 0 → 1 ≤ (readL (c :: s.data.toList.drop (k + 1))).1.t.length ∧ (readL (c :: s.data.toList.drop (k + 1))).1.t.length ≤ s.size - k := fun e => by
        have h1 := read_len e
        have h2 := congrArg List.length hd
        rw [List.length_drop, ← size_eq] at h2
        omega
      have ht := tail_of hd
      have HO := Hd (fun W => one_any s hs k hlt ln c hd hsc W)
      rw [one_read] at hstep hlen
      have HST := Hd (Ai hstep (Ai hlen ht))
      clear hstep hlen ht hd hp h10 hbl hsc
      go_wp2_with fail
      refine (HO.out _).mono ?_
      rintro e w2 ⟨kd, bb, ff, xx, rfl, hgood, hb⟩
      have hQ2 := Ai (onB' HQ.out.2.2.1 hb) (own_below HQ.out.2.1 hb)
      obtain ⟨⟨yk, yt, yf, yx⟩, er, hone⟩ : ∃ y er, oneL c (s.data.toList.drop (k + 1)) = (y, er) := ⟨_, _, rfl⟩
      rw [hone] at hgood
      simp only at hgood
      have hstep := HST.out.1
      have hlen := HST.out.2.1
      rw [hone] at hstep hlen
      simp only at hstep hlen
      rw [hone]
      simp only
      have HG := Hd (Ai hgood hlen)
      have HN := Hd hstep
      have HQ2 := Hd hQ2
      clear hgood hb hQ2 hone hstep hlen HO
      go_upto_region 5 with fail
      have hx3 := (Below.refl w2.heap.size w2).alloc Nr (.cells #[.int .i64 kd, .string bb, .bool ff, .int .u64 xx, .int .i64 ln] 93)
      have t3 := bxl_new w2 kd bb ff xx ln
      have hlt3 : ∀ g, (Value.slice aa acc.length cc).ownBlock = some g → g < w2.heap.size := fun g hg => (HQ2.out.2.lt g hg).2
      have H3 := Hd (Ai (onB' HQ2.out.1 hx3) (Ai (own_below HQ2.out.2 hx3) (Ai t3 hlt3)))
      clear hx3 t3 hlt3
      generalize (w2.alloc (.cells #[.int .i64 kd, .string bb, .bool ff, .int .u64 xx, .int .i64 ln] 93)) = W3 at *
      generalize w2.heap.size = p at *
      by_cases g0 : er = 0
      · subst g0
        obtain ⟨rfl, hbt, rfl, rfl⟩ := HG.out.1 rfl
        obtain ⟨hy1, hy2⟩ := HG.out.2 rfl
        by_cases g4 : acc.length = 4096
        · have f4 : ((acc.length : Int) == 4096) = true := by rw [g4]; rfl
          have hgd := HN.out
          rw [if_pos rfl, if_pos g4] at hgd
          have HGD := Hd hgd
          clear hgd g4 hbt
          go_wp2_with fail
          refine bodyPost_ret (v := .tuple #[.slice none 0 0, .int .i64 2, .int .i64 ln]) (by simp [results, Tryz.results34, go_sem]) rfl ?_
          rw [← HGD.out]
          exact ⟨onB' HW.out H3.out.1, rfl⟩
        · have f4 : ((acc.length : Int) == 4096) = false := by simp; omega
          have hgd := HN.out
          rw [if_pos rfl, if_neg g4, HST.out.2.2] at hgd
          have hbz : bb.size = yt.length := by rw [size_eq, hbt]
          rw [← hbz] at hgd
          have hb1 : 1 ≤ bb.size := by omega
          have hb2 : bb.size ≤ s.size - k := by omega
          have hbb := ba_of hbt
          clear hbz hy1 hy2
          have HGD := Hd (Ai hgd hbb)
          clear hgd hbb hbt
          obtain ⟨x0, x1, x2, x3, x4, -⟩ := H3.out.2.2.1
          have m9 : acc.length + 1 ≤ maxLen := by unfold maxLen; omega
          have m48 : (acc.length + 1) * 48 ≤ 140737488355328 := by omega
          have one5 : ∀ y ∈ [Value.int .i64 kd, .string bb, .bool ff, .int .u64 xx, .int .i64 ln], y.oneCell' = true := by intro y hy; simp at hy; rcases hy with rfl | rfl | rfl | rfl | rfl <;> rfl
          go_upto_region 10 with (at_builtin; refine wpList_append_lies _ rfl _ _ 72 rfl W.heap.size 93 i0 (.agg #[.int .i64 0, .string ⟨#[]⟩, .bool false, .int .u64 0, .int .i64 0]) 5 48 Tryz.underlying72 hi0 hz0 hzs hzb rfl (by decide) (.slice aa acc.length cc) acc.length (flatT acc) rfl (H3.out.2.1.alloc _) ⟨W3.heap.size, 0, none⟩ 1 1 [.int .i64 kd, .string bb, .bool ff, .int .u64 xx, .int .i64 ln] rfl rfl (World.news_of_block (heap_alloc_new _ _)) one5 (by decide) m9 m48 (by simp; have := H3.out.1.size; omega) _ rfl ?_; intro g9 cap9 w11 o1 o2 o3 o4)
          have hxx := (Below.refl W3.heap.size W3).alloc Nr (.cells #[.int .i64 kd, .string bb, .bool ff, .int .u64 xx, .int .i64 ln] 93)
          have hob : ∀ g, (Value.slice aa acc.length cc).ownBlock = some g → W.heap.size ≤ g := fun g hg => (H3.out.2.1.lt g hg).1
          have hne : some p ≠ (Value.slice aa acc.length cc).ownBlock := fun e => by
            have := H3.out.2.2.2 p e.symm
            omega
          have hB11 : Below W.heap.size W w11 := by
            have h0 := onB' H3.out.1 hxx
            have hs0 := H3.out.1.size
            exact ⟨o2.os.trans h0.os, o2.tape.trans h0.tape, o2.output.trans h0.output, Nt h0.size o2.size, fun q hq => (o2.block q (by have := h0.size; omega) (fun e => by have := hob q e.symm; omega)).trans (h0.block q hq)⟩
          have e1 := o2.cell (later' hxx x1) (by simpa using hne)
          have HO := Hd (Ai o1 hB11)
          have hkb : k + bb.size ≤ s.size := by omega
          have hsk := fun W => skip_any_l7 s hs (k + bb.size) hkb ln hl0 (by omega) W
          have ec : ((k + bb.size : Nat) : Int) = (k : Int) + (bb.size : Int) := by omega
          rw [ec] at hsk
          have HSK := Hd hsk
          have es : IntKind.i64.wrap ((k : Int) + (bb.size : Int)) = (k : Int) + (bb.size : Int) := by rw [IntKind.wrap_i64]; omega
          clear o1 o2 o3 o4 hB11 hxx hob hne x0 x1 x2 x3 x4 hsk ec one5
          go_wp2_with fail
          refine (HSK.out _).mono ?_
          rintro e w12 ⟨k2, ln2, rfl, hsk, hst, hb⟩
          have hz2 := hsk.le
          have hz3 := hsk.ge
          have hz4 := hsk.l0
          have hz5 := hsk.l1
          have HK := Hd (Ai ((hsk.eq _).symm.trans HGD.out.1) (Ai hst (Ai (onB' HO.out.2 hb) (own_below HO.out.1 hb))))
          clear hsk hst hb e1
          go_wp2_with fail
          refine ⟨⟨k2, ln2, acc ++ [(⟨kd, yt, ff, xx⟩, ln)], _, hz2, rfl, rfl, rfl, HK.out.1, HK.out.2.1, ?_, HK.out.2.2.1, by omega, by omega, by simp; omega⟩, by simp [RowKit.intOf]; omega⟩
          rw [flatT_append]
          have hlen : (acc ++ [((⟨kd, yt, ff, xx⟩ : Tk), ln)]).length = acc.length + 1 := by simp
          rw [hlen]
          have := HK.out.2.2.2
          rw [HGD.out.2] at this
          exact this
      · have f0 : (er == 0) = false := by simpa using g0
        have f1 : (er != 0) = true := by simpa using g0
        have hgd := HN.out
        rw [if_neg g0] at hgd
        have HGD := Hd hgd
        clear hgd
        go_wp2_with fail
        refine bodyPost_ret (v := .tuple #[.slice none 0 0, .int .i64 er, .int .i64 ln]) (by simp [results, Tryz.results34, go_sem]) rfl ?_
        rw [← HGD.out]
        exact ⟨onB' HW.out H3.out.1, rfl⟩
    · obtain rfl : k = s.size := by omega
      have hgd : lexL s.data.toList = .good acc := by
        rw [← HQ.out.1, List.drop_of_length_le (by simp), lexF_nil]
      have HGD := Hd hgd
      clear hgd
      go_wp2_with fail
      refine bodyPost_ret (v := .tuple #[.slice aa acc.length cc, .int .i64 0, .int .i64 0]) (by simp [results, Tryz.results34, go_sem]) rfl ?_
      rw [HGD.out]
      exact ⟨onB' HW.out HQ.out.2.2.1, aa, acc.length, cc, rfl, own_base HQ.out.2.1 HW.out.size⟩
def ParseV (lo : Nat) (R : Res) (e : Ending) (w' : World) : Prop :=
  match R with
  | .bad k line => e = .returned (.tuple #[.agg #[.slice none 0 0, .slice none 0 0], .int .i64 k, .int .i64 line])
  | .good T => TokensV lo (moduleD (lastOf 1 T) (T.length + 1) [] [] ⟨T, 0, 0⟩) e w'
theorem dparse_any (s : ByteArray) (hs : s.size ≤ 100000) (w : World) : Calls Tryz.prog 13 #[.string s] w (fun e w' => Below w.heap.size w w' ∧ ParseV w.heap.size (lexL s.data.toList) e w') := by
  have hx1 := (Below.refl w.heap.size w).alloc Nr (.cells #[.slice none 0 0, .slice none 0 0] 26)
  have HRB := Hd (BoxW.alloc w #[.slice none 0 0, .slice none 0 0] 26)
  have HBl := Hd hx1
  have HZ := Hd (show (w.alloc (.cells #[.slice none 0 0, .slice none 0 0] 26)).heap.size = w.heap.size + 1 by simp)
  clear hx1
  go_enter Tryz.func13, Tryz.ntmps13
  go_upto_region 1 with fail
  generalize (w.alloc (.cells #[.slice none 0 0, .slice none 0 0] 26)) = W at *
  have HLx := Hd (reflex_any s hs W)
  go_wp2_with fail
  refine HLx.out.mono ?_
  rintro e w1 ⟨hb1, hm⟩
  have HB1 := Hd hb1
  have hsz1 : W.heap.size ≤ w1.heap.size := hb1.size
  have HR1 := Hd (HRB.out.below hb1)
  have d0 : w1.cell? ⟨w.heap.size, 0, none⟩ = some _ := HR1.out.1 0 _ rfl
  have d1 : w1.cell? ⟨w.heap.size, 1, none⟩ = some _ := HR1.out.1 1 _ rfl
  have z0 := HR1.out.2 0
  have z1 := HR1.out.2 1
  cases hR : lexL s.data.toList with
  | bad k line =>
    rw [hR] at hm
    subst hm
    have hk := lexL_bad hR
    have f0 : (k != 0) = true := by simp [hk]
    have HBb := Hd hb1
    clear hb1
    go_wp2_with fail
    have v0 : ((w1.setCell ⟨w.heap.size, 0, none⟩ (.slice none 0 0)).setCell ⟨w.heap.size, 1, none⟩ (.slice none 0 0)).cell? ⟨w.heap.size, 0, none⟩ = some (.slice none 0 0) := (at_oth _ _ _ _ _ (by decide)).trans (at_sam _ d0)
    have v1 : ((w1.setCell ⟨w.heap.size, 0, none⟩ (.slice none 0 0)).setCell ⟨w.heap.size, 1, none⟩ (.slice none 0 0)).cell? ⟨w.heap.size, 1, none⟩ = some (.slice none 0 0) := at_sam _ ((at_oth _ _ _ _ _ (by decide)).trans d1)
    refine bodyPost_ret (v := .tuple #[.agg #[.slice none 0 0, .slice none 0 0], .int .i64 k, .int .i64 line]) (by simp [results, Tryz.results13, go_sem, v0, v1]) rfl ?_
    rw [hR]
    have hz := HZ.out
    exact ⟨below_pq (below_pq (HBl.out.trans (HBb.out.mono (by omega))) (set_grown ..) (by omega) Nr) (set_grown ..) (by simp; omega) Nr, rfl⟩
  | good T =>
    rw [hR] at hm
    obtain ⟨a, n, c, rfl, hown⟩ := hm
    obtain rfl : n = T.length := by obtain ⟨a', c', h, _⟩ := own_shape hown; injection h
    have HRi := Hd (RestIn.of_own hown (Nat.le_refl w1.heap.size))
    have hXx := lexL_x hR
    have hln := (lexL_own hR).2.1
    clear hown hb1
    have HTk := Hd (dtokens_any T hXx (by omega) w1 a c HRi.out)
    go_wp2_with fail
    refine HTk.out.mono ?_
    rintro e w2 ⟨⟨vd, vb, rfl, hV⟩, hb2⟩
    generalize hO : moduleD (lastOf 1 T) (T.length + 1) [] [] ⟨T, 0, 0⟩ = O at *
    generalize hli : (if O.2.e = 0 then (0 : Int) else O.2.ln) = li at *
    obtain ⟨ad, nd, cd, rfl⟩ : ∃ a n c, vd = .slice a n c := by
      rcases hV with ⟨_, h, _⟩ | ⟨_, B, _, h1, cs, h2, _⟩
      · exact ⟨_, _, _, h⟩
      · obtain ⟨a, c, h, _⟩ := own_shape h1
        exact ⟨_, _, _, h⟩
    obtain ⟨ab, nb, cb, rfl⟩ : ∃ a n c, vb = .slice a n c := by
      rcases hV with ⟨_, _, h⟩ | ⟨_, B, _, h1, cs, h2, _⟩
      · exact ⟨_, _, _, h⟩
      · obtain ⟨a, c, h, _⟩ := own_shape h2
        exact ⟨_, _, _, h⟩
    have HV := Hd hV
    have HB2 := Hd hb2
    have HR2 := Hd (HR1.out.below hb2)
    have d0 : w2.cell? ⟨w.heap.size, 0, none⟩ = some _ := HR2.out.1 0 _ rfl
    have d1 : w2.cell? ⟨w.heap.size, 1, none⟩ = some _ := HR2.out.1 1 _ rfl
    have z0 := HR2.out.2 0
    have z1 := HR2.out.2 1
    clear hV hb2
    go_wp2_with fail
    have v0 : ((w2.setCell ⟨w.heap.size, 0, none⟩ (.slice ad nd cd)).setCell ⟨w.heap.size, 1, none⟩ (.slice ab nb cb)).cell? ⟨w.heap.size, 0, none⟩ = some (.slice ad nd cd) := (at_oth _ _ _ _ _ (by decide)).trans (at_sam _ d0)
    have v1 : ((w2.setCell ⟨w.heap.size, 0, none⟩ (.slice ad nd cd)).setCell ⟨w.heap.size, 1, none⟩ (.slice ab nb cb)).cell? ⟨w.heap.size, 1, none⟩ = some (.slice ab nb cb) := at_sam _ ((at_oth _ _ _ _ _ (by decide)).trans d1)
    refine bodyPost_ret (v := .tuple #[.agg #[.slice ad nd cd, .slice ab nb cb], .int .i64 O.2.e, .int .i64 li]) (by simp [results, Tryz.results13, go_sem, v0, v1]) rfl ?_
    have hz := HZ.out
    have hsz2 : w1.heap.size ≤ w2.heap.size := HB2.out.size
    rw [hR]
    refine ⟨below_pq (below_pq ((HBl.out.trans (HB1.out.mono (by omega))).trans (HB2.out.mono (by omega))) (set_grown ..) (by omega) Nr) (set_grown ..) (by simp; omega) Nr, ?_⟩
    show TokensV _ (moduleD (lastOf 1 T) (T.length + 1) [] [] ⟨T, 0, 0⟩) _ _
    rw [hO]
    refine ⟨.slice ad nd cd, .slice ab nb cb, by rw [hli], ?_⟩
    rcases HV.out with h | ⟨h0, B, hB, h1, cs, h2, h3⟩
    · exact Or.inl h
    · have hfr : ∀ g, B ≤ g → ((w2.setCell ⟨w.heap.size, 0, none⟩ (.slice ad nd cd)).setCell ⟨w.heap.size, 1, none⟩ (.slice ab nb cb)).heap[g]? = w2.heap[g]? := fun g h => (Below.heap_setCell _ _ _ _ (by simp only; omega)).trans (Below.heap_setCell _ _ _ _ (by simp only; omega))
      refine Or.inr ⟨h0, B, by omega, ?_, cs, ?_, h3.move fun g hg lt => ⟨hg, hfr g hg.1⟩⟩
      · exact own_o (own_o h1 (set_grown ..) (fun g e e2 => by have := (h1.lt g e).1; have := Oi e2; omega)) (set_grown ..) (fun g e e2 => by have := (h1.lt g e).1; have := Oi e2; omega)
      · exact own_o (own_o h2 (set_grown ..) (fun g e e2 => by have := (h2.lt g e).1; have := Oi e2; omega)) (set_grown ..) (fun g e e2 => by have := (h2.lt g e).1; have := Oi e2; omega)
end Go.Proofs.YthehgcmhcioffaaGreatDoor
