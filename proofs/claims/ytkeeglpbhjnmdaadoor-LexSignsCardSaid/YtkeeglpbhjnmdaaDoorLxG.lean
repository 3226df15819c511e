/- The closure that reads a token. -/
import Derived.Test.YtkeeglpbhjnmdaaDoorLxF
namespace Go.Proofs.YtkeeglpbhjnmdaaDoor
open Go.RowKit Go.Lib

/-- The kind of what begins with a run. -/
def kindOf (l : List UInt8) : Int := if (kindF (runL l)).isSome = true then (kindF (runL l)).getD 0 else (kindF (l.take 1)).getD 0
def readR (l : List UInt8) : Tk × Int := if kindOf l = 0 then (.zero, 3) else if kindOf l = 3 then numT (runL l) else if 16 < (runL l).length then (.zero, 9) else (⟨kindOf l, runL l, false, 0⟩, 0)
/-- The token that a text begins with; an error. -/
def readL (l : List UInt8) : Tk × Int :=
  match signL l with
  | some x => (⟨x.2, x.1.data.toList, false, 0⟩, 0)
  | none => if hasPrefix l [35] = true then numT (markedL l) else readR l

structure Tok0 (W : World) (b : Nat) : Prop where
  d0 : W.cell? ⟨b, 0, none⟩ = some (.int .i64 0)
  d1 : W.cell? ⟨b, 1, none⟩ = some (.string ⟨#[]⟩)
  d2 : W.cell? ⟨b, 2, none⟩ = some (.bool false)
  d3 : W.cell? ⟨b, 3, none⟩ = some (.int .u64 0)
  d4 : W.cell? ⟨b, 4, none⟩ = some (.int .i64 0)
  z : ∀ j, W.frozen? ⟨b, j, none⟩ = false
theorem Tok0.later {W W' : World} {b : Nat} (h : Tok0 W b) (hb : Below W.heap.size W W') : Tok0 W' b := by
  have lt := World.block_lt_of_cell? _ _ h.d0
  exact ⟨later' hb h.d0, later' hb h.d1, later' hb h.d2, later' hb h.d3, later' hb h.d4, fun j => (World.frozen?_of_block (w := W) (hb.block _ (by simpa using lt))).trans (h.z j)⟩
theorem tok0_new (w : World) : Tok0 (w.alloc (.cells #[.int .i64 0, .string ⟨#[]⟩, .bool false, .int .u64 0, .int .i64 0] 35)) w.heap.size := ⟨by simp [go_sem], by simp [go_sem], by simp [go_sem], by simp [go_sem], by simp [go_sem], fun j => by simp⟩

/-- What the reader leans on. -/
structure Rd (b kb : Nat) (w : World) : Prop where
  m : w.cell? ⟨b, 0, none⟩ = some (.map (some kb))
  k : KMap w kb 72 kindF
  s : SG w
  e : EE w
theorem Rd.later {b kb : Nat} {w w' : World} (h : Rd b kb w) (hb : Below w.heap.size w w') : Rd b kb w' := ⟨later' hb h.m, h.k.later hb, h.s.below hb, h.e.below hb⟩

theorem number_tk (s : ByteArray) (hs : s.size ≤ 100000) (w : World) (hE : EE w) (k : Int) (t : List UInt8) (f : Bool) (x err : Int) (hn : numT s.data.toList = (⟨k, t, f, x⟩, err)) :
    Calls Tryd.prog 25 #[.string s] w fun e w' => ∃ b : ByteArray, e = .returned (.tuple #[.agg #[.int .i64 k, .string b, .bool f, .int .u64 x, .int .i64 0], .int .i64 err]) ∧ b.data.toList = t ∧ Below w.heap.size w w' := by
  refine (number_any s hs w hE).mono ?_
  rw [hn]
  rintro e w' ⟨b, he, hb, h⟩
  exact ⟨b, he, hb, h⟩

set_option maxHeartbeats 16000000 in
set_option maxRecDepth 100000 in
theorem read_any (s : ByteArray) (hs : s.size ≤ 100000) (h1 : 1 ≤ s.size) (b kb : Nat) (w : World) (hR : Rd b kb w) :
    Calls Tryd.prog 23 #[.string s, .pointer (some ⟨b, 0, none⟩)] w (TkSaid (readL s.data.toList) w) := by
  have hx := (Below.refl w.heap.size w).alloc (Nat.le_refl _) (.cells #[.int .i64 0, .string ⟨#[]⟩, .bool false, .int .u64 0, .int .i64 0] 35)
  have HB := Lib.hid hx
  have HT := Lib.hid (tok0_new w)
  have HR := Lib.hid (hR.later hx)
  clear hx hR
  have HP := Lib.hid (fun W => Tryd.strings_HasPrefix s ⟨#[35]⟩ W)
  go_enter Tryd.func23, Tryd.ntmps23
  go_upto_region 1 with fail
  generalize (w.alloc (.cells #[.int .i64 0, .string ⟨#[]⟩, .bool false, .int .u64 0, .int .i64 0] 35)) = W at *
  go_wp2_with fail
  refine (sign_any s W HR.out.s).mono ?_
  rintro e w2 (⟨⟨t, kd⟩, hsg, rfl, hb⟩ | ⟨hsg, rfl, hb⟩)
  · have hrd : readL s.data.toList = (⟨kd, t.data.toList, false, 0⟩, 0) := by unfold readL; rw [hsg]
    have HRD := Lib.hid hrd
    have hx := (Below.refl w2.heap.size w2).alloc (Nat.le_refl _) (.cells #[.string t, .int .i64 kd] 56)
    have HT2 := (HT.out.later hb).later hx
    have HB2 := Lib.hid (onB' (onB' HB.out hb) hx)
    have c0 : (w2.alloc (.cells #[.string t, .int .i64 kd] 56)).cell? ⟨w2.heap.size, 0, none⟩ = some (.string t) := by simp [go_sem]
    have c1 : (w2.alloc (.cells #[.string t, .int .i64 kd] 56)).cell? ⟨w2.heap.size, 1, none⟩ = some (.int .i64 kd) := by simp [go_sem]
    clear hb hx hsg hrd
    obtain ⟨d0, d1, d2, d3, d4, z⟩ := HT2
    go_upto_region 3 with fail
    generalize (w2.alloc (.cells #[.string t, .int .i64 kd] 56)) = W4 at *
    go_wp2_with fail
    obtain ⟨q0, q1, q2, q3, q4⟩ := set5 d0 d1 d2 d3 d4 (.int .i64 kd) (.string t) (.bool false) (.int .u64 0) (.int .i64 0)
    refine bodyPost_ret (v := .tuple #[vTk ⟨kd, t.data.toList, false, 0⟩ 0 t, .int .i64 0]) (by simp [results, Tryd.results23, go_sem, q0, q1, q2, q3, q4, vTk]) rfl ?_
    rw [HRD.out]
    exact ⟨t, rfl, rfl, below_set5 HB2.out (Nat.le_refl _) _ _ _ _ _⟩
  · have hx := (Below.refl w2.heap.size w2).alloc (Nat.le_refl _) (.cells #[.string ⟨#[]⟩, .int .i64 0] 56)
    have HSG := Lib.hid hsg
    have HT2 := Lib.hid ((HT.out.later hb).later hx)
    have HB2 := Lib.hid (onB' (onB' HB.out hb) hx)
    have HR2 := Lib.hid ((HR.out.later hb).later hx)
    clear hb hx hsg HT HB HR
    go_upto_region 4 with fail
    generalize (w2.alloc (.cells #[.string ⟨#[]⟩, .int .i64 0] 56)) = W4 at *
    go_wp2_with fail
    refine (HP.out W4).mono ?_
    rintro e W5 ⟨rfl, rfl⟩
    cases hpp : hasPrefix s.data.toList [35] with
    | true =>
      have hrd : readL s.data.toList = numT (markedL s.data.toList) := by unfold readL; rw [HSG.out, if_pos hpp]
      have HRD := Lib.hid hrd
      clear hpp hrd
      go_wp2_with fail
      refine (marked_any s hs h1 W5).mono ?_
      rintro e w6 ⟨r, rfl, hr, hb⟩
      have HR6 := HR2.out.later hb
      have HT6 := HT2.out.later hb
      have hb6 := onB' HB2.out hb
      have hml : r.size ≤ 100000 := by
        rw [size_eq r, hr]
        unfold markedL
        rw [List.length_take, ← size_eq s]
        omega
      obtain ⟨⟨k, tt, f, x⟩, err, hn⟩ : ∃ tk err, numT (markedL s.data.toList) = (tk, err) := ⟨_, _, rfl⟩
      have HN := Lib.hid (number_tk r hml w6 HR6.e k tt f x err (by rw [hr]; exact hn))
      have HRD2 := Lib.hid (HRD.out.trans hn)
      have H6 := Lib.hid (And.intro HT6 hb6)
      clear hb hr hn HR6 HT6 hb6 HRD hml
      go_wp2_with fail
      refine HN.out.mono ?_
      rintro e w7 ⟨bb, rfl, hbb, hb⟩
      have hb7 := Lib.hid (onB' H6.out.2 hb)
      obtain ⟨d0, d1, d2, d3, d4, z⟩ := H6.out.1.later hb
      have HBB := Lib.hid hbb
      clear hb hbb
      go_wp2_with fail
      obtain ⟨q0, q1, q2, q3, q4⟩ := set5 d0 d1 d2 d3 d4 (.int .i64 k) (.string bb) (.bool f) (.int .u64 x) (.int .i64 0)
      refine bodyPost_ret (v := .tuple #[vTk ⟨k, tt, f, x⟩ 0 bb, .int .i64 err]) (by simp [results, Tryd.results23, go_sem, q0, q1, q2, q3, q4, vTk]) rfl ?_
      rw [HRD2.out]
      exact ⟨bb, rfl, HBB.out, below_set5 hb7.out (Nat.le_refl _) _ _ _ _ _⟩
    | false =>
      have hrd : readL s.data.toList = readR s.data.toList := by unfold readL; rw [HSG.out, if_neg (by rw [hpp]; decide)]
      have HRD := Lib.hid hrd
      clear hpp hrd
      go_wp2_with fail
      refine (run_any s hs W5).mono ?_
      rintro e w6 ⟨r, rfl, hr, hb⟩
      have HR6 := HR2.out.later hb
      have hc6 := HR6.m
      have hrs : r.size ≤ 100000 := by
        have := run_le s.data.toList
        rw [size_eq r, hr]
        rw [size_eq s] at hs
        omega
      have hlk := HR6.k.look_ok r (by unfold maxLen; omega)
      rw [hr] at hlk
      have HT6 := HT2.out.later hb
      have H6 := Lib.hid (And.intro HT6 (And.intro (onB' HB2.out hb) HR6))
      have HRL := Lib.hid hr
      clear hb hr HR6 HT6
      have hko : kindOf s.data.toList = if (kindF (runL s.data.toList)).isSome = true then (kindF (runL s.data.toList)).getD 0 else (kindF (s.data.toList.take 1)).getD 0 := rfl
      cases hkq : kindF (runL s.data.toList) with
      | some kq =>
        rw [hkq] at hlk hko
        simp only [Option.getD_some, Option.isSome_some, if_true] at hlk hko
        have HKO := Lib.hid hko
        clear hkq hko
        go_upto_region 10 with fail
        have H9 := Lib.hid H6.out
        clear H6 hlk hc6
        generalize w6 = W9 at *
        have hrr : readL s.data.toList = if kq = 0 then (.zero, 3) else if kq = 3 then numT r.data.toList else if 16 < r.data.toList.length then (.zero, 9) else (⟨kq, r.data.toList, false, 0⟩, 0) := by
          rw [HRD.out]
          unfold readR
          rw [HKO.out, HRL.out]
        have HRR := Lib.hid hrr
        clear hrr HRD HKO HRL HR2 HT2 HB2 HSG HP
        by_cases k0 : kq = 0
        · subst k0
          obtain ⟨d0, d1, d2, d3, d4, z⟩ := H9.out.1
          go_wp2_with fail
          obtain ⟨q0, q1, q2, q3, q4⟩ := set5 d0 d1 d2 d3 d4 (.int .i64 0) (.string ⟨#[]⟩) (.bool false) (.int .u64 0) (.int .i64 0)
          refine bodyPost_ret (v := .tuple #[vTk .zero 0 ⟨#[]⟩, .int .i64 3]) (by simp [results, Tryd.results23, go_sem, q0, q1, q2, q3, q4, vTk, Tk.zero]) rfl ?_
          rw [HRR.out, if_pos (by trivial)]
          exact ⟨⟨#[]⟩, rfl, rfl, below_set5 H9.out.2.1 (Nat.le_refl _) _ _ _ _ _⟩
        · have k0' : (kq == 0) = false := by simpa using k0
          by_cases k3 : kq = 3
          · subst k3
            obtain ⟨⟨k, tt, f, x⟩, err, hn⟩ : ∃ tk err, numT r.data.toList = (tk, err) := ⟨_, _, rfl⟩
            have HN := Lib.hid (number_tk r hrs W9 H9.out.2.2.e k tt f x err hn)
            have HRD2 := Lib.hid (show readL s.data.toList = (⟨k, tt, f, x⟩, err) by rw [HRR.out, if_neg (by decide), if_pos (by trivial)]; exact hn)
            clear hn
            go_wp2_with fail
            refine HN.out.mono ?_
            rintro e w7 ⟨bb, rfl, hbb, hb⟩
            have hb7 := Lib.hid (onB' H9.out.2.1 hb)
            obtain ⟨d0, d1, d2, d3, d4, z⟩ := H9.out.1.later hb
            have HBB := Lib.hid hbb
            clear hb hbb
            go_wp2_with fail
            obtain ⟨q0, q1, q2, q3, q4⟩ := set5 d0 d1 d2 d3 d4 (.int .i64 k) (.string bb) (.bool f) (.int .u64 x) (.int .i64 0)
            refine bodyPost_ret (v := .tuple #[vTk ⟨k, tt, f, x⟩ 0 bb, .int .i64 err]) (by simp [results, Tryd.results23, go_sem, q0, q1, q2, q3, q4, vTk]) rfl ?_
            rw [HRD2.out]
            exact ⟨bb, rfl, HBB.out, below_set5 hb7.out (Nat.le_refl _) _ _ _ _ _⟩
          · have k3' : (kq == 3) = false := by simpa using k3
            have hrz := size_eq r
            by_cases k16 : 16 < r.size
            · have k16' : decide ((16 : Int) < (r.size : Int)) = true := decide_eq_true (by omega)
              have HRD2 := Lib.hid (show readL s.data.toList = (.zero, 9) by rw [HRR.out, if_neg k0, if_neg k3, if_pos (by omega)])
              clear hrz HRR
              obtain ⟨d0, d1, d2, d3, d4, z⟩ := H9.out.1
              go_wp2_with fail
              obtain ⟨q0, q1, q2, q3, q4⟩ := set5 d0 d1 d2 d3 d4 (.int .i64 0) (.string ⟨#[]⟩) (.bool false) (.int .u64 0) (.int .i64 0)
              refine bodyPost_ret (v := .tuple #[vTk .zero 0 ⟨#[]⟩, .int .i64 9]) (by simp [results, Tryd.results23, go_sem, q0, q1, q2, q3, q4, vTk, Tk.zero]) rfl ?_
              rw [HRD2.out]
              exact ⟨⟨#[]⟩, rfl, rfl, below_set5 H9.out.2.1 (Nat.le_refl _) _ _ _ _ _⟩
            · have k16' : decide ((16 : Int) < (r.size : Int)) = false := decide_eq_false (by omega)
              have HRD2 := Lib.hid (show readL s.data.toList = (⟨kq, r.data.toList, false, 0⟩, 0) by rw [HRR.out, if_neg k0, if_neg k3, if_neg (by omega)])
              clear hrz HRR
              have HC := Lib.hid (clone_any r hrs W9)
              go_wp2_with fail
              refine HC.out.mono ?_
              rintro e w7 ⟨rfl, hb⟩
              have hb7 := Lib.hid (onB' H9.out.2.1 hb)
              obtain ⟨d0, d1, d2, d3, d4, z⟩ := H9.out.1.later hb
              clear hb
              go_wp2_with fail
              obtain ⟨q0, q1, q2, q3, q4⟩ := set5 d0 d1 d2 d3 d4 (.int .i64 kq) (.string r) (.bool false) (.int .u64 0) (.int .i64 0)
              refine bodyPost_ret (v := .tuple #[vTk ⟨kq, r.data.toList, false, 0⟩ 0 r, .int .i64 0]) (by simp [results, Tryd.results23, go_sem, q0, q1, q2, q3, q4, vTk]) rfl ?_
              rw [HRD2.out]
              exact ⟨r, rfl, rfl, below_set5 hb7.out (Nat.le_refl _) _ _ _ _ _⟩
      | none =>
        rw [hkq] at hlk hko
        simp only [Option.getD_none, Option.isSome_none] at hlk hko
        rw [if_neg (by decide)] at hko
        have hl1 := head_list s 1
        have hsz1 : (s.extract 0 1).size ≤ maxLen := by
          rw [size_eq, hl1, List.length_take]
          exact Nat.le_trans (Nat.min_le_left _ _) (by unfold maxLen; omega)
        have hdr : Below w6.heap.size w6 w6.drew := ⟨rfl, rfl, rfl, Nat.le_refl _, fun _ _ => rfl⟩
        have hlk2 := ((H6.out.2.2.later hdr).k).look (s.extract 0 1) hsz1
        rw [hl1, ← hko] at hlk2
        generalize hkk : kindOf s.data.toList = kq at *
        have HKO := Lib.hid hkk
        have c1 : (1 : Int) ≤ (s.size : Int) := by omega
        have hc6d : w6.drew.cell? ⟨b, 0, none⟩ = some (.map (some kb)) := hc6
        clear hkq hko hkk hl1
        go_upto_region 9 with fail
        go_region
        have H9 := Lib.hid (show Tok0 w6.drew w.heap.size ∧ Below w.heap.size w w6.drew ∧ Rd b kb w6.drew from ⟨H6.out.1.later hdr, onB' H6.out.2.1 hdr, H6.out.2.2.later hdr⟩)
        clear H6 hlk hc6 hc6d hlk2 hdr hsz1 c1
        generalize w6.drew = W9 at *
        have hrr : readL s.data.toList = if kq = 0 then (.zero, 3) else if kq = 3 then numT r.data.toList else if 16 < r.data.toList.length then (.zero, 9) else (⟨kq, r.data.toList, false, 0⟩, 0) := by
          rw [HRD.out]
          unfold readR
          rw [HKO.out, HRL.out]
        have HRR := Lib.hid hrr
        clear hrr HRD HKO HRL HR2 HT2 HB2 HSG HP
        by_cases k0 : kq = 0
        · subst k0
          obtain ⟨d0, d1, d2, d3, d4, z⟩ := H9.out.1
          go_wp2_with fail
          obtain ⟨q0, q1, q2, q3, q4⟩ := set5 d0 d1 d2 d3 d4 (.int .i64 0) (.string ⟨#[]⟩) (.bool false) (.int .u64 0) (.int .i64 0)
          refine bodyPost_ret (v := .tuple #[vTk .zero 0 ⟨#[]⟩, .int .i64 3]) (by simp [results, Tryd.results23, go_sem, q0, q1, q2, q3, q4, vTk, Tk.zero]) rfl ?_
          rw [HRR.out, if_pos (by trivial)]
          exact ⟨⟨#[]⟩, rfl, rfl, below_set5 H9.out.2.1 (Nat.le_refl _) _ _ _ _ _⟩
        · have k0' : (kq == 0) = false := by simpa using k0
          by_cases k3 : kq = 3
          · subst k3
            obtain ⟨⟨k, tt, f, x⟩, err, hn⟩ : ∃ tk err, numT r.data.toList = (tk, err) := ⟨_, _, rfl⟩
            have HN := Lib.hid (number_tk r hrs W9 H9.out.2.2.e k tt f x err hn)
            have HRD2 := Lib.hid (show readL s.data.toList = (⟨k, tt, f, x⟩, err) by rw [HRR.out, if_neg (by decide), if_pos (by trivial)]; exact hn)
            clear hn
            go_wp2_with fail
            refine HN.out.mono ?_
            rintro e w7 ⟨bb, rfl, hbb, hb⟩
            have hb7 := Lib.hid (onB' H9.out.2.1 hb)
            obtain ⟨d0, d1, d2, d3, d4, z⟩ := H9.out.1.later hb
            have HBB := Lib.hid hbb
            clear hb hbb
            go_wp2_with fail
            obtain ⟨q0, q1, q2, q3, q4⟩ := set5 d0 d1 d2 d3 d4 (.int .i64 k) (.string bb) (.bool f) (.int .u64 x) (.int .i64 0)
            refine bodyPost_ret (v := .tuple #[vTk ⟨k, tt, f, x⟩ 0 bb, .int .i64 err]) (by simp [results, Tryd.results23, go_sem, q0, q1, q2, q3, q4, vTk]) rfl ?_
            rw [HRD2.out]
            exact ⟨bb, rfl, HBB.out, below_set5 hb7.out (Nat.le_refl _) _ _ _ _ _⟩
          · have k3' : (kq == 3) = false := by simpa using k3
            have hrz := size_eq r
            by_cases k16 : 16 < r.size
            · have k16' : decide ((16 : Int) < (r.size : Int)) = true := decide_eq_true (by omega)
              have HRD2 := Lib.hid (show readL s.data.toList = (.zero, 9) by rw [HRR.out, if_neg k0, if_neg k3, if_pos (by omega)])
              clear hrz HRR
              obtain ⟨d0, d1, d2, d3, d4, z⟩ := H9.out.1
              go_wp2_with fail
              obtain ⟨q0, q1, q2, q3, q4⟩ := set5 d0 d1 d2 d3 d4 (.int .i64 0) (.string ⟨#[]⟩) (.bool false) (.int .u64 0) (.int .i64 0)
              refine bodyPost_ret (v := .tuple #[vTk .zero 0 ⟨#[]⟩, .int .i64 9]) (by simp [results, Tryd.results23, go_sem, q0, q1, q2, q3, q4, vTk, Tk.zero]) rfl ?_
              rw [HRD2.out]
              exact ⟨⟨#[]⟩, rfl, rfl, below_set5 H9.out.2.1 (Nat.le_refl _) _ _ _ _ _⟩
            · have k16' : decide ((16 : Int) < (r.size : Int)) = false := decide_eq_false (by omega)
              have HRD2 := Lib.hid (show readL s.data.toList = (⟨kq, r.data.toList, false, 0⟩, 0) by rw [HRR.out, if_neg k0, if_neg k3, if_neg (by omega)])
              clear hrz HRR
              have HC := Lib.hid (clone_any r hrs W9)
              go_wp2_with fail
              refine HC.out.mono ?_
              rintro e w7 ⟨rfl, hb⟩
              have hb7 := Lib.hid (onB' H9.out.2.1 hb)
              obtain ⟨d0, d1, d2, d3, d4, z⟩ := H9.out.1.later hb
              clear hb
              go_wp2_with fail
              obtain ⟨q0, q1, q2, q3, q4⟩ := set5 d0 d1 d2 d3 d4 (.int .i64 kq) (.string r) (.bool false) (.int .u64 0) (.int .i64 0)
              refine bodyPost_ret (v := .tuple #[vTk ⟨kq, r.data.toList, false, 0⟩ 0 r, .int .i64 0]) (by simp [results, Tryd.results23, go_sem, q0, q1, q2, q3, q4, vTk]) rfl ?_
              rw [HRD2.out]
              exact ⟨r, rfl, rfl, below_set5 hb7.out (Nat.le_refl _) _ _ _ _ _⟩

end Go.Proofs.YtkeeglpbhjnmdaaDoor
