/- The ring's iterator: each cell, with its row's number, once around. -/
import Derived.Test.YtbjlpmjalidfkaaRiH
namespace Go.Proofs.Ytbjlpmjalidfkaa
open Go.RowKit Go.Shelf

attribute [local go_sem] Oper.semAt_some

def Rows.row (R : Rows) : Nat → List Int
  | 0 => R.white
  | 1 => R.frm
  | 2 => R.grey
  | _ => R.black

def tag (i : Int) (l : List Int) : List (Int × Int) := l.map fun c => (i, c)
/-- The cells of the rows from number i on, each with its row's number. -/
def Rows.on (R : Rows) : Nat → List (Int × Int)
  | 0 => tag 0 R.white ++ (tag 1 R.frm ++ (tag 2 R.grey ++ tag 3 R.black))
  | 1 => tag 1 R.frm ++ (tag 2 R.grey ++ tag 3 R.black)
  | 2 => tag 2 R.grey ++ tag 3 R.black
  | 3 => tag 3 R.black
  | _ => []
def Rows.pairs (R : Rows) : List (Int × Int) := R.on 0

theorem on_step (R : Rows) (i : Nat) (h : i < 4) : R.on i = tag i (R.row i) ++ R.on (i + 1) := by
  obtain rfl | rfl | rfl | rfl : i = 0 ∨ i = 1 ∨ i = 2 ∨ i = 3 := by omega
  all_goals simp [Rows.on, Rows.row]
theorem pairs_snd (R : Rows) : R.pairs.map Prod.snd = R.all := by
  simp [Rows.pairs, Rows.on, Rows.all, tag, List.map_map, Function.comp_def]

theorem pick4 (a b c d : Int) (i : Nat) (h : i < 4) (W : World) :
    (Instr.index 128 (.agg #[.int .i64 a, .int .i64 b, .int .i64 c, .int .i64 d]) (.int .i64 i)).run Try.prog W = .ok (.int .i64 (if i = 0 then a else if i = 1 then b else if i = 2 then c else d)) W := by
  have h' : Try.prog.underlying 128 = some (.array 4 3) := by kernel_rfl
  obtain rfl | rfl | rfl | rfl : i = 0 ∨ i = 1 ∨ i = 2 ∨ i = 3 := by omega
  all_goals simp [Instr.index, run_underlying h', asIntOf, part, Try.isAgg3, Try.sizeOf3, go_sem]

theorem cyc_at {D : Nat → Int} {a b l : List Int} {x y : Int} (h : Cyc D l) (e : l = a ++ x :: y :: b) : D (x + 1).toNat = y := by
  subst e
  cases a with
  | nil => exact cyc_next h
  | cons z a =>
    have h' : Chain D ((z :: a) ++ x :: y :: (b ++ [z])) := by simpa [Cyc] using h
    exact (chain_at h').1

/-- What stands next, when some are over. -/
def Nxt (x : Int) (l : List (Int × Int)) : Prop := ∀ p m, l = p :: m → x = p.2

theorem nxt_start {n : Nat} {D C F : Nat → Int} {R : Rows} (h : Inv n D C F R) : Nxt (start0 C F) R.pairs := by
  intro p m e
  rw [h.start0, ← pairs_snd, e]
  rfl
theorem nxt_step {n : Nat} {D C F : Nat → Int} {R : Rows} (h : Inv n D C F R) {pre l : List (Int × Int)} {x : Int × Int} (e : R.pairs = pre ++ x :: l) : Nxt (D (x.2 + 1).toNat) l := by
  intro p m e'
  subst e'
  refine cyc_at (a := pre.map Prod.snd) (b := m.map Prod.snd) h.cyc ?_
  rw [← pairs_snd, e]
  simp

set_option maxRecDepth 100000 in
set_option maxHeartbeats 4000000 in
theorem around_each (n : Nat) (hn : 2 ≤ n) (l bx : Nat) (s : Spot) (C F D : Nat → Int) (R : Rows) (hI : Inv s.n D C F R) (J : List (Int × Int) → World → Prop)
    (hJ : ∀ pre W, J pre W → Lies s C F D W ∧ W.cell? ⟨bx, 0, none⟩ = some (.pointer (some ⟨s.r, 0, none⟩)))
    (hT : ∀ pre W W', J pre W → Lies s C F D W' → Turn s W W' → J pre W')
    (hY : ∀ pre x W, J pre W → pre ++ [x] <+: R.pairs → YieldAt Fence.wide (n - 1) Try.prog l #[.int .i64 (x : Int × Int).1, .int .i64 x.2] W fun e W' => e = .returned (.bool true) ∧ J (pre ++ [x]) W')
    (W : World) (h0 : J [] W) :
    CallsIn Fence.wide n Try.prog 80 #[.func (.yield l) #[] #[], .pointer (some ⟨bx, 0, none⟩)] W fun e W' => (∃ v, e = .returned v) ∧ J R.pairs W' := by
  obtain ⟨hL0, hbx0⟩ := hJ _ _ h0
  have h1n : 1 ≤ n := by omega
  have c0 : W.cell? ⟨s.r, 5, none⟩ = some (.int .i64 (C 0)) := hL0.count 0 (by decide)
  have c1 : W.cell? ⟨s.r, 6, none⟩ = some (.int .i64 (C 1)) := hL0.count 1 (by decide)
  have c2 : W.cell? ⟨s.r, 7, none⟩ = some (.int .i64 (C 2)) := hL0.count 2 (by decide)
  have c3 : W.cell? ⟨s.r, 8, none⟩ = some (.int .i64 (C 3)) := hL0.count 3 (by decide)
  have hs := start_0 s C F D W hL0
  have hx0 := nxt_start hI
  generalize start0 C F = x0 at hs hx0
  have hp := pick4 (C 0) (C 1) (C 2) (C 3)
  have hcnt : ∀ i : Nat, i < 4 → (if i = 0 then C 0 else if i = 1 then C 1 else if i = 2 then C 2 else C 3) = (R.row i).length := fun i hi => by
    obtain rfl | rfl | rfl | rfl : i = 0 ∨ i = 1 ∨ i = 2 ∨ i = 3 := by omega
    · exact hI.c0
    · exact hI.c1
    · exact hI.c2
    · exact hI.c3
  have HP := Lib.hid hp
  have HCNT := Lib.hid hcnt
  have HX0 := Lib.hid hx0
  have HJ := Lib.hid hJ
  have HT := Lib.hid hT
  have HY := Lib.hid hY
  have H0 := Lib.hid h0
  have HI := Lib.hid hI
  clear hp hcnt hx0 hJ hT hY h0 hI hL0
  refine callsIn_of_wp Try.func80 rfl trivial ?_ rfl
  simp only [Try.ntmps80, List.size_toArray, List.length_cons, List.length_nil, Nat.reduceAdd, Nat.reduceSub, Array.replicate_succ, Array.replicate_zero, List.push_toArray, List.append_toArray, List.nil_append, List.cons_append]
  gi_wp2_with fail
  refine ⟨trivial, ?_⟩
  refine (callsIn_wide.2 hs).mono ?_
  clear hs
  rintro e w' ⟨rfl, rfl⟩
  gi_wp2_with fail
  clear c0 c1 c2 c3 hbx0
  gi_loopw [3, 12] (fun s3 s12 wr => ∃ (i : Nat) (x : Int) (pre : List (Int × Int)), i ≤ 4 ∧ s12 = .int .i64 i ∧ s3 = .int .i64 x ∧ R.pairs = pre ++ R.on i ∧ Nxt x (R.on i) ∧ J pre wr) (fun _ s12 _ => 4 - (intOf s12).toNat)
  case atStart => exact ⟨0, x0, [], by decide, rfl, rfl, rfl, HX0.out, H0.out⟩
  case round =>
    obtain ⟨i, x, pre, hi, rfl, rfl, hpre, hx, hj⟩ := hrel
    have HR := Lib.hid (And.intro hpre (And.intro hx hj))
    clear hpre hx hj
    by_cases hlt : i < 4
    · have hlt' : (i : Int) < 4 := by omega
      have hpi := fun W => HP.out i hlt W
      rw [HCNT.out i hlt] at hpi
      have hst := on_step R i hlt
      obtain ⟨row, hrow⟩ : ∃ row, R.row i = row := ⟨_, rfl⟩
      rw [hrow] at hpi hst
      have hsm : row.length ≤ 1000 := by
        have h1 := congrArg List.length (pairs_snd R)
        have h2 := HI.out.small
        rw [HR.out.1, hst] at h1
        simp [tag] at h1
        omega
      have HST := Lib.hid hst
      clear hst
      gi_wp2_with fail
      gi_loopw [3, 17] (fun s3 s17 wr => ∃ (j : Nat) (x : Int) (a b : List Int), row = a ++ b ∧ a.length = j ∧ s17 = .int .i64 j ∧ s3 = .int .i64 x ∧ Nxt x (tag i b ++ R.on (i + 1)) ∧ J (pre ++ tag i a) wr) (fun _ s17 _ => row.length - (intOf s17).toNat)
      case atStart =>
        obtain ⟨_, h2, h3⟩ := HR.out
        exact ⟨0, x, [], row, rfl, rfl, rfl, rfl, by rw [← HST.out]; exact h2, by simpa [tag] using h3⟩
      case round =>
        obtain ⟨j, y, a, b, hab, haj, rfl, rfl, hy2, hj2⟩ := hrel
        cases b with
        | nil =>
          have hjl : row.length = j := by rw [hab]; simpa using haj
          have HE := Lib.hid (And.intro hab (And.intro hy2 hj2))
          clear hab haj hy2 hj2
          gi_wp2_with fail
          obtain ⟨e1, e2, e3⟩ := HE.out
          rw [List.append_nil] at e1
          subst e1
          exact ⟨⟨i + 1, y, pre ++ tag i row, by omega, by go_num, rfl, by rw [HR.out.1, HST.out, List.append_assoc], e2, e3⟩, by simp [intOf]; omega⟩
        | cons c b =>
          have hjl : (j : Int) < row.length := by rw [hab]; simp; omega
          obtain rfl : y = c := hy2 (i, c) _ rfl
          have hpx : (pre ++ tag i a) ++ [((i : Int), y)] <+: R.pairs := ⟨tag i b ++ R.on (i + 1), by rw [HR.out.1, HST.out, hab]; simp [tag]⟩
          have hnx := nxt_step HI.out (pre := pre ++ tag i a) (l := tag i b ++ R.on (i + 1)) (x := ((i : Int), y)) (by rw [HR.out.1, HST.out, hab]; simp [tag])
          obtain ⟨fn, tmps, assign, body, hyy, hRR⟩ := HY.out _ _ _ hj2 hpx
          dsimp only at hyy hnx
          have hrg : Rng s.n y := HI.out.rng (by rw [← pairs_snd, HR.out.1, HST.out, hab]; simp [tag])
          have HE := Lib.hid (And.intro hab (And.intro haj (And.intro hnx hrg)))
          clear hab haj hy2 hj2 hpx hnx hrg
          gi_wp2_with fail
          refine hRR.mono ?_
          rintro e W3 ⟨rfl, hj3⟩
          obtain ⟨hL3, hb3⟩ := HJ.out _ _ hj3
          have cn := keep_one hL3
          have hc := next_any s C F D W3 hL3 y HE.out.2.2.2.1 HE.out.2.2.2.2
          have HC := Lib.hid hc
          have HJ3 := Lib.hid hj3
          clear hL3 hj3 hc hRR hyy
          gi_wp2_with fail
          refine ⟨trivial, ?_⟩
          refine (callsIn_wide.2 HC.out).mono ?_
          rintro e W4 ⟨rfl, hL4, hq4⟩
          have HJ4 := Lib.hid (HT.out _ _ _ HJ3.out hL4 hq4)
          clear HC HJ3 hL4 hq4 cn hb3
          gi_wp2_with fail
          obtain ⟨e1, e2, e3, _⟩ := HE.out
          refine ⟨⟨j + 1, D (y + 1).toNat, a ++ [y], b, by simp [e1], by simp [e2], by go_num, rfl, e3, ?_⟩, ?_⟩
          · have := HJ4.out
            simpa [tag] using this
          · simp [intOf]
            omega
    · obtain rfl : i = 4 := by omega
      gi_wp2_with fail
      go_end0
      refine ⟨⟨_, rfl⟩, ?_⟩
      obtain ⟨h1, _, h3⟩ := HR.out
      have : pre = R.pairs := by simpa [Rows.on] using h1.symm
      rwa [this] at h3

end Go.Proofs.Ytbjlpmjalidfkaa
