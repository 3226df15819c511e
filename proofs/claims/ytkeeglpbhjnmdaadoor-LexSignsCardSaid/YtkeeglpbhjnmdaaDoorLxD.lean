/- What a token is, of lists of bytes; runs, marked numbers, numbers. -/
import Derived.Test.YtkeeglpbhjnmdaaDoorLxC
import Derived.Test.YtkeeglpbhjnmdaaDoorBackV
namespace Go.Proofs.YtkeeglpbhjnmdaaDoor
open Go.RowKit Go.Lib

/-- A token's kind, its text, and its number. -/
structure Tk where
  k : Int
  t : List UInt8
  f : Bool
  x : Int
def Tk.zero : Tk := ⟨0, [], false, 0⟩

def runsB : ByteArray := ⟨#[97, 98, 99, 100, 101, 102, 103, 104, 105, 106, 107, 108, 109, 110, 111, 112, 113, 114, 115, 116, 117, 118, 119, 120, 121, 122, 65, 66, 67, 68, 69, 70, 71, 72, 73, 74, 75, 76, 77, 78, 79, 80, 81, 82, 83, 84, 85, 86, 87, 88, 89, 90, 48, 49, 50, 51, 52, 53, 54, 55, 56, 57, 95]⟩
def inRun (c : UInt8) : Bool := runsB.data.toList.contains c
/-- The run that a text begins with. -/
def runL (l : List UInt8) : List UInt8 := l.takeWhile inRun
/-- The mark that a text begins with, and what is behind it. -/
def markedL (l : List UInt8) : List UInt8 := l.take (l.length - (trimPrefix (l.drop 1) [45]).length + (runL (trimPrefix (l.drop 1) [45])).length)
/-- The token of a number's text; an error. -/
def numT (t : List UInt8) : Tk × Int := if (parseL (trimPrefix t [35])).2.2 = 0 then (⟨3, t, (parseL (trimPrefix t [35])).1, (parseL (trimPrefix t [35])).2.1⟩, 0) else (.zero, (parseL (trimPrefix t [35])).2.2)

theorem runs_small : ∀ (j : Nat) b, runsB.data.toList[j]? = some b → b.toNat < 128 := ascii_of_all (by decide)
theorem take_drop {α : Type} (p : α → Bool) (l : List α) : l.take (l.length - (l.dropWhile p).length) = l.takeWhile p := by
  have h := List.takeWhile_append_dropWhile (p := p) (l := l)
  have hl := congrArg List.length h
  rw [List.length_append] at hl
  have e : l.length - (l.dropWhile p).length = (l.takeWhile p).length := by omega
  rw [e]
  exact (List.prefix_iff_eq_take.1 (List.takeWhile_prefix p)).symm
theorem run_trim (l : List UInt8) : l.take (l.length - (trimLeftS l runsB.data.toList).length) = runL l := take_drop inRun l
theorem trim_le (l cs : List UInt8) : (trimLeftS l cs).length ≤ l.length := (List.dropWhile_sublist _).length_le
theorem trimP_le (l p : List UInt8) : (trimPrefix l p).length ≤ l.length := by
  unfold trimPrefix
  split
  · simp
  · exact Nat.le_refl _
theorem run_le (l : List UInt8) : (runL l).length ≤ l.length := (List.takeWhile_sublist _).length_le
theorem head_list (s : ByteArray) (n : Nat) : (s.extract 0 n).data.toList = s.data.toList.take n := by simp [ByteArray.data_extract]
theorem tail_list (s : ByteArray) (k : Nat) : (s.extract k s.size).data.toList = s.data.toList.drop k := by
  have e : (s.extract k s.size).data.toList = (s.data.toList.drop k).take (s.size - k) := by simp [ByteArray.data_extract]
  rw [e, List.take_of_length_le]
  rw [List.length_drop, size_eq s]
  omega
theorem back_list (l : List UInt8) : (⟨l.toArray⟩ : ByteArray).data.toList = l := by simp
theorem back_size (l : List UInt8) : (⟨l.toArray⟩ : ByteArray).size = l.length := by simp [ByteArray.size]

/-- A text is answered. -/
def TextSaid (l : List UInt8) (w : World) (e : Ending) (w' : World) : Prop := ∃ r : ByteArray, e = .returned (.string r) ∧ r.data.toList = l ∧ Below w.heap.size w w'

set_option maxHeartbeats 2000000 in
set_option maxRecDepth 100000 in
theorem run_any (s : ByteArray) (hs : s.size ≤ 100000) (w : World) : Calls Tryd.prog 27 #[.string s] w (TextSaid (runL s.data.toList) w) := by
  have hz := size_eq s
  have hT := Lib.hid (fun W => trimLeft_laid s runsB W (by decide) runs_small)
  have hle := trim_le s.data.toList runsB.data.toList
  have hrt := run_trim s.data.toList
  obtain ⟨d, hd⟩ : ∃ d : ByteArray, d = ⟨(trimLeftS s.data.toList runsB.data.toList).toArray⟩ := ⟨_, rfl⟩
  have hdz : d.size = (trimLeftS s.data.toList runsB.data.toList).length := by rw [hd, back_size]
  have HR : Hid ((s.extract 0 (s.size - d.size)).data.toList = runL s.data.toList) := by
    refine Lib.hid ?_
    rw [head_list, hdz, hz]
    exact hrt
  have hdle : d.size ≤ s.size := by omega
  have e1 : IntKind.i64.wrap ((s.size : Int) - (d.size : Int)) = ((s.size - d.size : Nat) : Int) := by rw [IntKind.wrap_i64]; omega
  have hD := Lib.hid hd
  clear hd hdz hrt hle hz
  go_enter Tryd.func27, Tryd.ntmps27
  go_wp2_with fail
  refine (hT.out w).mono ?_
  rintro e w2 ⟨rfl, hb⟩
  rw [← hD.out]
  have HB := Lib.hid hb
  clear hb
  have b1 : (0 : Int) ≤ ((s.size - d.size : Nat) : Int) := by omega
  have b2 : ((s.size - d.size : Nat) : Int) ≤ (s.size : Int) := by omega
  go_wp2_with fail
  go_ret
  exact ⟨_, rfl, HR.out, HB.out⟩

set_option maxHeartbeats 2000000 in
set_option maxRecDepth 100000 in
theorem marked_any (s : ByteArray) (hs : s.size ≤ 100000) (h1 : 1 ≤ s.size) (w : World) : Calls Tryd.prog 26 #[.string s] w (TextSaid (markedL s.data.toList) w) := by
  have hz := size_eq s
  have ht1 := tail_list s 1
  obtain ⟨s1, hs1⟩ : ∃ s1 : ByteArray, s.extract 1 s.size = s1 := ⟨_, rfl⟩
  rw [hs1] at ht1
  have hT := Lib.hid (fun W => Tryd.strings_TrimPrefix s1 ⟨#[45]⟩ W)
  obtain ⟨d, hd⟩ : ∃ d : ByteArray, d = ⟨(trimPrefix s1.data.toList [45]).toArray⟩ := ⟨_, rfl⟩
  have hdl : d.data.toList = trimPrefix (s.data.toList.drop 1) [45] := by rw [hd, back_list, ht1]
  have hdle : d.size ≤ s.size - 1 := by
    have := trimP_le s1.data.toList [45]
    rw [size_eq d, hd, back_list]
    rw [ht1, List.length_drop] at this
    rw [ht1]
    omega
  have hrun := Lib.hid (run_any d (by omega))
  have hrle := run_le d.data.toList
  have hdz := size_eq d
  have hm : markedL s.data.toList = s.data.toList.take (s.size - d.size + (runL d.data.toList).length) := by
    unfold markedL
    rw [← hdl, ← hz, ← hdz]
  have HM := Lib.hid hm
  have hD := Lib.hid hd
  have HS1 := Lib.hid hs1
  have c1 : (1 : Int) ≤ (s.size : Int) := by omega
  have ed : IntKind.i64.wrap ((s.size : Int) - (d.size : Int)) = ((s.size - d.size : Nat) : Int) := by rw [IntKind.wrap_i64]; omega
  generalize hrl : (runL d.data.toList).length = rl at *
  have er : IntKind.i64.wrap (((s.size - d.size : Nat) : Int) + (rl : Int)) = ((s.size - d.size + rl : Nat) : Int) := by rw [IntKind.wrap_i64]; omega
  have b1 : (0 : Int) ≤ ((s.size - d.size + rl : Nat) : Int) := by omega
  have b2 : ((s.size - d.size + rl : Nat) : Int) ≤ (s.size : Int) := by omega
  have HRL := Lib.hid hrl
  clear hz ht1 hd hdl hm hdz hrl
  go_enter Tryd.func26, Tryd.ntmps26
  go_wp2_with fail
  refine (hT.out w).mono ?_
  rintro e w2 ⟨rfl, rfl⟩
  rw [← hD.out]
  clear hs1
  go_wp2_with fail
  refine (hrun.out w2).mono ?_
  rintro e w3 ⟨r, rfl, hr, hb⟩
  have hrz : r.size = rl := by rw [size_eq r, hr, HRL.out]
  have HB := Lib.hid (And.intro hb hr)
  clear hb hr
  subst hrz
  go_wp2_with fail
  go_ret
  exact ⟨_, rfl, by rw [head_list, HM.out], HB.out.1⟩

theorem clone_any (s : ByteArray) (hs : s.size ≤ 100000) (w : World) : Calls Tryd.prog 28 #[.string s] w fun e w' => e = .returned (.string s) ∧ Below w.heap.size w w' := by
  have h1 := Lib.hid (fun W => Tryd.stringslite_Clone s W (by omega))
  go_enter Tryd.func28, Tryd.ntmps28
  go_wp2_with fail
  refine (h1.out w).mono ?_
  rintro e w2 ⟨rfl, hb⟩
  have HB := Lib.hid hb
  clear hb
  go_wp2_with fail
  go_ret
  exact ⟨rfl, HB.out⟩

def vTk (t : Tk) (line : Int) (b : ByteArray) : Value := .agg #[.int .i64 t.k, .string b, .bool t.f, .int .u64 t.x, .int .i64 line]
/-- A token is answered, on no line. -/
def TkSaid (r : Tk × Int) (w : World) (e : Ending) (w' : World) : Prop := ∃ b : ByteArray, e = .returned (.tuple #[vTk r.1 0 b, .int .i64 r.2]) ∧ b.data.toList = r.1.t ∧ Below w.heap.size w w'

theorem set5 {W : World} {b : Nat} {u0 u1 u2 u3 u4 : Value} (h0 : W.cell? ⟨b, 0, none⟩ = some u0) (h1 : W.cell? ⟨b, 1, none⟩ = some u1) (h2 : W.cell? ⟨b, 2, none⟩ = some u2) (h3 : W.cell? ⟨b, 3, none⟩ = some u3) (h4 : W.cell? ⟨b, 4, none⟩ = some u4) (v0 v1 v2 v3 v4 : Value) :
    (((((W.setCell ⟨b, 0, none⟩ v0).setCell ⟨b, 1, none⟩ v1).setCell ⟨b, 2, none⟩ v2).setCell ⟨b, 3, none⟩ v3).setCell ⟨b, 4, none⟩ v4).cell? ⟨b, 0, none⟩ = some v0 ∧
    (((((W.setCell ⟨b, 0, none⟩ v0).setCell ⟨b, 1, none⟩ v1).setCell ⟨b, 2, none⟩ v2).setCell ⟨b, 3, none⟩ v3).setCell ⟨b, 4, none⟩ v4).cell? ⟨b, 1, none⟩ = some v1 ∧
    (((((W.setCell ⟨b, 0, none⟩ v0).setCell ⟨b, 1, none⟩ v1).setCell ⟨b, 2, none⟩ v2).setCell ⟨b, 3, none⟩ v3).setCell ⟨b, 4, none⟩ v4).cell? ⟨b, 2, none⟩ = some v2 ∧
    (((((W.setCell ⟨b, 0, none⟩ v0).setCell ⟨b, 1, none⟩ v1).setCell ⟨b, 2, none⟩ v2).setCell ⟨b, 3, none⟩ v3).setCell ⟨b, 4, none⟩ v4).cell? ⟨b, 3, none⟩ = some v3 ∧
    (((((W.setCell ⟨b, 0, none⟩ v0).setCell ⟨b, 1, none⟩ v1).setCell ⟨b, 2, none⟩ v2).setCell ⟨b, 3, none⟩ v3).setCell ⟨b, 4, none⟩ v4).cell? ⟨b, 4, none⟩ = some v4 := by
  have o : ∀ (W : World) (i j : Nat) (v : Value), i ≠ j → (W.setCell ⟨b, i, none⟩ v).cell? ⟨b, j, none⟩ = W.cell? ⟨b, j, none⟩ := fun W i j v h => World.cell?_setCell_other _ _ _ _ (by first | (intro e; cases e; exact h rfl) | simp [h])
  refine ⟨?_, ?_, ?_, ?_, ?_⟩
  · rw [o _ _ _ _ (by decide), o _ _ _ _ (by decide), o _ _ _ _ (by decide), o _ _ _ _ (by decide)]
    exact World.cell?_setCell_same _ _ _ h0
  · rw [o _ _ _ _ (by decide), o _ _ _ _ (by decide), o _ _ _ _ (by decide)]
    exact World.cell?_setCell_same _ _ _ (u := u1) (by rw [o _ _ _ _ (by decide)]; exact h1)
  · rw [o _ _ _ _ (by decide), o _ _ _ _ (by decide)]
    exact World.cell?_setCell_same _ _ _ (u := u2) (by rw [o _ _ _ _ (by decide), o _ _ _ _ (by decide)]; exact h2)
  · rw [o _ _ _ _ (by decide)]
    exact World.cell?_setCell_same _ _ _ (u := u3) (by rw [o _ _ _ _ (by decide), o _ _ _ _ (by decide), o _ _ _ _ (by decide)]; exact h3)
  · exact World.cell?_setCell_same _ _ _ (u := u4) (by rw [o _ _ _ _ (by decide), o _ _ _ _ (by decide), o _ _ _ _ (by decide), o _ _ _ _ (by decide)]; exact h4)
theorem below_set5 {n : Nat} {w W : World} (h : Below n w W) {b : Nat} (hb : n ≤ b) (v0 v1 v2 v3 v4 : Value) : Below n w (((((W.setCell ⟨b, 0, none⟩ v0).setCell ⟨b, 1, none⟩ v1).setCell ⟨b, 2, none⟩ v2).setCell ⟨b, 3, none⟩ v3).setCell ⟨b, 4, none⟩ v4) :=
  ((((h.setCell hb _).setCell hb _).setCell hb _).setCell hb _).setCell hb _

set_option maxHeartbeats 4000000 in
set_option maxRecDepth 100000 in
theorem number_any (s : ByteArray) (hs : s.size ≤ 100000) (w : World) (hE : EE w) : Calls Tryd.prog 25 #[.string s] w (TkSaid (numT s.data.toList) w) := by
  have hT := Lib.hid (fun W => Tryd.strings_TrimPrefix s ⟨#[35]⟩ W)
  obtain ⟨d, hd⟩ : ∃ d : ByteArray, d = ⟨(trimPrefix s.data.toList [35]).toArray⟩ := ⟨_, rfl⟩
  have hdl : d.data.toList = trimPrefix s.data.toList [35] := by rw [hd, back_list]
  have hdle : d.size ≤ 100000 := by
    have := trimP_le s.data.toList [35]
    rw [size_eq d, hdl]
    rw [size_eq s] at hs
    omega
  obtain ⟨b, x, e0, hr⟩ : ∃ b x e0, parseL (trimPrefix s.data.toList [35]) = (b, x, e0) := ⟨_, _, _, rfl⟩
  have hP := Lib.hid (fun W hE => parse_any d hdle W hE b x e0 (by rw [hdl]; exact hr))
  have hN : numT s.data.toList = if e0 = 0 then (⟨3, s.data.toList, b, x⟩, 0) else (.zero, e0) := by unfold numT; rw [hr]
  have hx0 := (Below.refl w.heap.size w).alloc (Nat.le_refl _) (.cells #[.int .i64 0, .string ⟨#[]⟩, .bool false, .int .u64 0, .int .i64 0] 35)
  have HE := Lib.hid (And.intro hx0 (hE.below hx0))
  have c0 : ∀ j, (w.alloc (.cells #[.int .i64 0, .string ⟨#[]⟩, .bool false, .int .u64 0, .int .i64 0] 35)).frozen? ⟨w.heap.size, j, none⟩ = false := fun j => by simp
  have k0 : ∀ j u, [Value.int .i64 0, .string ⟨#[]⟩, .bool false, .int .u64 0, .int .i64 0][j]? = some u → (w.alloc (.cells #[.int .i64 0, .string ⟨#[]⟩, .bool false, .int .u64 0, .int .i64 0] 35)).cell? ⟨w.heap.size, j, none⟩ = some u := fun j u hu => by
    have hj := (List.getElem?_eq_some_iff.1 hu).1
    simp only [List.length_cons, List.length_nil] at hj
    obtain rfl | rfl | rfl | rfl | rfl : j = 0 ∨ j = 1 ∨ j = 2 ∨ j = 3 ∨ j = 4 := by omega
    all_goals (simp at hu; subst hu; simp [go_sem])
  have HK0 := Lib.hid k0
  have HC0 := Lib.hid c0
  have hcl := Lib.hid (clone_any s hs)
  have HN := Lib.hid hN
  have hD := Lib.hid hd
  clear hd hdl hr hN hx0 hE k0 c0
  go_enter Tryd.func25, Tryd.ntmps25
  go_upto_region 1 with fail
  have hz0 : (w.alloc (.cells #[.int .i64 0, .string ⟨#[]⟩, .bool false, .int .u64 0, .int .i64 0] 35)).heap.size = w.heap.size + 1 := by simp
  generalize (w.alloc (.cells #[.int .i64 0, .string ⟨#[]⟩, .bool false, .int .u64 0, .int .i64 0] 35)) = W at *
  go_wp2_with fail
  refine (hT.out W).mono ?_
  rintro e w2 ⟨rfl, rfl⟩
  rw [← hD.out]
  go_wp2_with fail
  refine (hP.out w2 HE.out.2).mono ?_
  rintro e w3 ⟨rfl, hb⟩
  have hs3 := hb.size
  have d0 := later' hb (HK0.out 0 _ rfl)
  have d1 := later' hb (HK0.out 1 _ rfl)
  have d2 := later' hb (HK0.out 2 _ rfl)
  have d3 := later' hb (HK0.out 3 _ rfl)
  have d4 := later' hb (HK0.out 4 _ rfl)
  have z0 : ∀ j, w3.frozen? ⟨w.heap.size, j, none⟩ = false := fun j => (World.frozen?_of_block (w := w2) (hb.block _ (by simp only; omega))).trans (HC0.out j)
  have hx := (Below.refl w3.heap.size w3).alloc (Nat.le_refl _) (.cells #[.bool b, .int .u64 x] 33)
  have HB := Lib.hid (onB' (onB' HE.out.1 hb) hx)
  replace d0 := later' hx d0
  replace d1 := later' hx d1
  replace d2 := later' hx d2
  replace d3 := later' hx d3
  replace d4 := later' hx d4
  replace z0 : ∀ j, (w3.alloc (.cells #[.bool b, .int .u64 x] 33)).frozen? ⟨w.heap.size, j, none⟩ = false := fun j => (World.frozen?_of_block (w := w3) (hx.block _ (by simp only; omega))).trans (z0 j)
  have n0 : (w3.alloc (.cells #[.bool b, .int .u64 x] 33)).cell? ⟨w3.heap.size, 0, none⟩ = some (.bool b) := by simp [go_sem]
  have n1 : (w3.alloc (.cells #[.bool b, .int .u64 x] 33)).cell? ⟨w3.heap.size, 1, none⟩ = some (.int .u64 x) := by simp [go_sem]
  clear hb hx HK0 HC0
  by_cases g : e0 = 0
  · subst g
    go_upto_region 4 with fail
    generalize (w3.alloc (.cells #[.bool b, .int .u64 x] 33)) = W4 at *
    have hd : Below W4.heap.size W4 W4.drew := ⟨rfl, rfl, rfl, Nat.le_refl _, fun _ _ => rfl⟩
    have lz : w.heap.size < W4.heap.size := World.block_lt_of_cell? _ _ d0
    have HD := Lib.hid (And.intro (onB' HB.out hd) HB.out.size)
    replace d0 := later' hd d0
    replace d1 := later' hd d1
    replace d2 := later' hd d2
    replace d3 := later' hd d3
    replace d4 := later' hd d4
    replace n0 := later' hd n0
    replace n1 := later' hd n1
    replace z0 : ∀ j, W4.drew.frozen? ⟨w.heap.size, j, none⟩ = false := z0
    have HC := Lib.hid (hcl.out W4.drew)
    have HZ := Lib.hid z0
    have lz' : w.heap.size < W4.drew.heap.size := lz
    clear hd z0 HB
    go_region_with (go_at_call 28; refine HC.out.mono ?_; rintro e w7 ⟨rfl, hb7⟩; have p0 := later' hb7 d0; have p1 := later' hb7 d1; have p2 := later' hb7 d2; have p3 := later' hb7 d3; have p4 := later' hb7 d4; have m0 := later' hb7 n0; have m1 := later' hb7 n1; have y0 : ∀ j, w7.frozen? ⟨w.heap.size, j, none⟩ = false := (fun j => (World.frozen?_of_block (w := W4.drew) (hb7.block _ (by simp only; omega))).trans (HZ.out j)); have H7 := Lib.hid (onB' HD.out.1 hb7); clear hb7)
    all_goals go_wp2_with fail
    all_goals
      obtain ⟨q0, q1, q2, q3, q4⟩ := set5 p0 p1 p2 p3 p4 (.int .i64 3) (.string s) (.bool b) (.int .u64 x) (.int .i64 0)
      refine bodyPost_ret (v := .tuple #[vTk ⟨3, s.data.toList, b, x⟩ 0 s, .int .i64 0]) (by simp [results, Tryd.results25, go_sem, q0, q1, q2, q3, q4, vTk]) rfl ?_
      rw [HN.out, if_pos trivial]
      exact ⟨s, rfl, rfl, below_set5 H7.out (Nat.le_refl _) _ _ _ _ _⟩
  · have g2 : (e0 != 0) = true := by simpa using g
    have g3 : (e0 == 0) = false := by simpa using g
    go_upto_region 3 with fail
    generalize (w3.alloc (.cells #[.bool b, .int .u64 x] 33)) = W4 at *
    go_wp2_with fail
    obtain ⟨q0, q1, q2, q3, q4⟩ := set5 d0 d1 d2 d3 d4 (.int .i64 0) (.string ⟨#[]⟩) (.bool false) (.int .u64 0) (.int .i64 0)
    refine bodyPost_ret (v := .tuple #[vTk .zero 0 ⟨#[]⟩, .int .i64 e0]) (by simp [results, Tryd.results25, go_sem, q0, q1, q2, q3, q4, vTk, Tk.zero]) rfl ?_
    rw [HN.out, if_neg g]
    exact ⟨⟨#[]⟩, rfl, rfl, below_set5 HB.out (Nat.le_refl _) _ _ _ _ _⟩

end Go.Proofs.YtkeeglpbhjnmdaaDoor
