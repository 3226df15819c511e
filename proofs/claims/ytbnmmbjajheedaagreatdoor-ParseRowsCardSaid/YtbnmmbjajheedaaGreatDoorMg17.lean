import Derived.Test.YtbnmmbjajheedaaGreatDoorRows
import Derived.Lib.LaidTab
import Derived.LaidLaws
import Derived.DataReads
import Derived.Stop.LaidErr
import Derived.LaidMore
import Derived.Test.YtbnmmbjajheedaaGreatDoorMg3
import Derived.Test.YtbnmmbjajheedaaGreatDoorMg14
import Derived.Test.YtbnmmbjajheedaaGreatDoorMg15
import Derived.Test.YtbnmmbjajheedaaGreatDoorMg16
/- A name with atoms behind it: the module of such a text, and its tree. -/
namespace Go.Proofs.YtbnmmbjajheedaaGreatDoor
open Go.RowKit Go.Lib

theorem rows_tree (H : Tk) (n : Nat) : ∃ kd nm f x ks, rowX H.k (atomX H :: List.replicate n (.leaf 1 [120])) = .mk kd nm f x [] ks [] [] ∧ (n = 0 → ks = []) ∧
    (0 < n → (H.k = 2 ∨ H.k = 7) → ks.length = n ∧ nm = H.t) ∧ (0 < n → ¬ (H.k = 2 ∨ H.k = 7) → kd = 4 ∧ ks.length = n + 1) := by
  cases n with
  | zero =>
    show ∃ kd nm f x ks, atomX H = .mk kd nm f x [] ks [] [] ∧ _
    unfold atomX
    split
    · exact ⟨_, _, _, _, _, rfl, fun _ => rfl, fun h => absurd h (Nat.lt_irrefl _), fun h => absurd h (Nat.lt_irrefl _)⟩
    · exact ⟨_, _, _, _, _, rfl, fun _ => rfl, fun h => absurd h (Nat.lt_irrefl _), fun h => absurd h (Nat.lt_irrefl _)⟩
  | succ n =>
    by_cases g : H.k = 2 ∨ H.k = 7
    · have e : rowX H.k (atomX H :: List.replicate (n + 1) (.leaf 1 [120])) = (atomX H).withKids (List.replicate (n + 1) (.leaf 1 [120])) := by
        rw [List.replicate_succ]
        exact if_pos g
      have h3 : H.k ≠ 3 := by omega
      refine ⟨if H.k = 1 then 1 else if H.k = 2 then 2 else 5, H.t, false, 0, List.replicate (n + 1) (.leaf 1 [120]), ?_, fun h => absurd h (Nat.succ_ne_zero _), fun _ _ => ⟨List.length_replicate .., rfl⟩, fun _ h => absurd g h⟩
      rw [e]
      unfold atomX
      rw [if_neg h3]
      rfl
    · have e : rowX H.k (atomX H :: List.replicate (n + 1) (.leaf 1 [120])) = .mk 4 [] false 0 [] (atomX H :: List.replicate (n + 1) (.leaf 1 [120])) [] [] := by
        rw [List.replicate_succ]
        exact if_neg g
      exact ⟨_, _, _, _, _, e, fun h => absurd h (Nat.succ_ne_zero _), fun _ h => absurd h g, fun _ _ => ⟨rfl, by simp⟩⟩
/-- All that the law asks of the text. -/
def Rws (H : Tk) (n : Nat) (o : Out Md) : Prop :=
  ((H.k = 1 ∨ H.k = 2 ∨ H.k = 7 ∨ H.k = 3) ∧ ∃ kd nm f x ks l r, o = .ok ([], [([102], [], .mk kd nm f x [] ks [] [])]) l r ∧ (n = 0 → ks = []) ∧
    (0 < n → (H.k = 2 ∨ H.k = 7) → ks.length = n ∧ nm = H.t) ∧ (0 < n → ¬ (H.k = 2 ∨ H.k = 7) → kd = 4 ∧ ks.length = n + 1)) ∨
  ((H.k = 4 ∨ H.k = 5 ∨ H.k = 6) ∧ ∃ e ln, e ≠ 0 ∧ o = .bad e ln)
theorem rows_mod {l : List UInt8} {H : Tk} {ln : Int} (hR : lexL l = .good [(H, ln)]) (n : Nat) (hn : n ≤ 40) : Rws H n (modL (102 :: 32 :: 61 :: 32 :: (H.t ++ (manyX n ++ [59])))) := by
  have ho : Own H := (lexL_own hR).1 _ (List.mem_singleton.2 rfl)
  obtain ⟨-, c, t, ht, hok⟩ := (lexL_ok hR).ok _ (List.mem_singleton.2 rfl)
  have hk : 1 ≤ H.k ∧ H.k ≤ 7 := by
    have h : H.k = 1 ∨ H.k = 5 ∨ H.k = 7 ∨ H.k = 2 ∨ H.k = 3 ∨ H.k = 4 ∨ H.k = 6 := by
      cases hok with
      | name k => exact Or.inl k
      | word k => exact k.elim (fun k => Or.inr (Or.inl k)) (fun k => Or.inr (Or.inr (Or.inl k)))
      | con k => exact Or.inr (Or.inr (Or.inr (Or.inl k)))
      | num k => exact Or.inr (Or.inr (Or.inr (Or.inr (Or.inl k))))
      | sign k => exact k.elim (fun k => Or.inr (Or.inr (Or.inr (Or.inr (Or.inr (Or.inl k)))))) (fun k => Or.inr (Or.inr (Or.inr (Or.inr (Or.inr (Or.inr k))))))
    omega
  have hl := lexL_rows ho n hn
  have hm : modL (102 :: 32 :: 61 :: 32 :: (H.t ++ (manyX n ++ [59]))) = parseO (rowsT H n) := by
    unfold modL
    rw [hl]
    rfl
  rw [hm]
  rcases rows_pure (lexL_tvs hl) hk with ⟨g, lr, r, h⟩ | ⟨g, e, k, h0, h⟩
  · obtain ⟨kd, nm, f, x, ks, he, h1, h2, h3⟩ := rows_tree H n
    rw [he] at h
    exact Or.inl ⟨g, kd, nm, f, x, ks, lr, r, h, h1, h2, h3⟩
  · exact Or.inr ⟨g, e, k, h0, h⟩

end Go.Proofs.YtbnmmbjajheedaaGreatDoor

/- ParseRows: its walk. -/
namespace Go.Proofs.YtbnmmbjajheedaaGreatDoor
open Go.RowKit Go.Lib

set_option maxHeartbeats 16000000 in
set_option maxRecDepth 100000 in
theorem prows_walk (s : ByteArray) (u : Int) (h0 : 0 ≤ u) (h1 : u ≤ 255) (hs : s.size ≤ 140737488355328) (w : World) (hS : SG w) (hE : EE w) (hV : Shs w) :
    Calls Tryz.prog 8 #[.string s, .int .u8 u] w fun e w' => e = .returned (.bool true) ∧ Below w.heap.size w w' := by
  have HSE := Lib.hid (And.intro hS (And.intro hE hV))
  have HZ0 := Lib.hid hs
  clear hS hE hV hs
  go_enter Tryz.func8, Tryz.ntmps8
  go_wp2_with fail
  refine (pawake_any w HSE.out.1 HSE.out.2.1 HSE.out.2.2).mono ?_
  rintro e w1 ⟨rfl, hb⟩
  have H1 := Lib.hid (And.intro hb (And.intro (HSE.out.1.below hb) (And.intro (HSE.out.2.1.below hb) (HSE.out.2.2.below hb))))
  clear hb HSE
  have HL1 := Lib.hid (lex_any s HZ0.out w1 H1.out.2.1 H1.out.2.2.1)
  go_wp2_with fail
  have hq : 0 ≤ u % 40 ∧ u % 40 < 40 := by omega
  generalize u % 40 = q at *
  obtain ⟨N, rfl⟩ : ∃ N : Nat, q = (N : Int) := ⟨q.toNat, by omega⟩
  have hN : N < 40 := by omega
  clear hq
  refine HL1.out.mono ?_
  intro e w2 h2
  obtain ⟨T, a1, c1, er, line, rfl, hown, hb2, hv⟩ := h2.view
  have H2 := Lib.hid (And.intro (onB' H1.out.1 hb2) (And.intro hown (And.intro (H1.out.2.1.below hb2) (And.intro (H1.out.2.2.1.below hb2) (H1.out.2.2.2.below hb2)))))
  clear h2 hown hb2 HL1
  rcases hv with ⟨hR, rfl, rfl⟩ | ⟨hR, rfl⟩
  case inr =>
    have h0 := lexL_bad hR
    have g0 : (er != 0) = true := by simpa using h0
    clear hR h0
    go_wp2_with fail
    go_ret
    exact ⟨rfl, H2.out.1⟩
  by_cases hT : T.length = 1
  case neg =>
    have g0 : ((T.length : Int) != 1) = true := by simpa using (fun e => hT (by omega) : ¬ (T.length : Int) = 1)
    go_wp2_with fail
    go_ret
    exact ⟨rfl, H2.out.1⟩
  obtain ⟨⟨H, ln⟩, rfl⟩ : ∃ x, T = [x] := List.length_eq_one_iff.1 hT
  by_cases gz : 30 < s.size
  case pos =>
    have f1 : decide ((30 : Int) < (s.size : Int)) = true := decide_eq_true (by omega)
    have ec : (([(H, ln)] : List Tok).length : Int) = 1 := rfl
    go_wp2_with fail
    go_ret
    exact ⟨rfl, H2.out.1⟩
  have f1 : decide ((30 : Int) < (s.size : Int)) = false := decide_eq_false (by omega)
  obtain ⟨g1, ea1, ht1⟩ := own_tok H2.out.2.1 (j := 0) (by simp)
  subst ea1
  obtain ⟨p0, p1, p2, p3, p4⟩ := ht1
  simp only [List.getElem_cons_zero] at p0 p1 p2 p3 p4
  rw [Nat.zero_mul] at p0 p1 p2 p3 p4
  simp only [Nat.zero_add] at p1 p2 p3 p4
  have htb : (⟨H.t.toArray⟩ : ByteArray).data.toList = H.t := back_list H.t
  generalize (⟨H.t.toArray⟩ : ByteArray) = tx at *
  have ec : (([(H, ln)] : List Tok).length : Int) = 1 := rfl
  have ec2 : ([(H, ln)] : List Tok).length = 1 := rfl
  have k1 : 1 ≤ c1 := by
    rcases H2.out.2.1.2 with ⟨e, -⟩ | ⟨g, cap, cur, e, -, -, h, -⟩
    · cases e
    · cases e; exact h
  have HTB := Lib.hid htb
  clear htb
  by_cases gt : tx = s
  case neg =>
    have g0 : (tx.toList == s.toList) = false := beq_eq_false_iff_ne.2 (fun e => gt (by rw [ByteArray.toList_eq, ByteArray.toList_eq] at e; exact ByteArray.ext (Array.toList_inj.1 e)))
    go_wp2_with fail
    go_ret
    exact ⟨rfl, H2.out.1⟩
  subst gt
  have ht : H.t = tx.data.toList := HTB.out.symm
  have HM := Lib.hid (rows_mod hR N (by omega))
  have hz : tx.size ≤ 30 := by omega
  have HB := Lib.hid (And.intro ht hz)
  clear hR ht hT gz HTB
  go_wp2_with fail
  go_loop [9, 10] (fun s9 s10 => ∃ (k : Nat) (B : ByteArray), k ≤ N ∧ s9 = .string B ∧ s10 = .int .i64 k ∧ Hid (B.data.toList = 102 :: 32 :: 61 :: 32 :: (tx.data.toList ++ manyX k))) (fun _ s10 => N - (RowKit.intOf s10).toNat)
  case atStart => exact ⟨0, _, Nat.zero_le _, rfl, rfl, Lib.hid (by rw [cat_list]; simp [manyX])⟩
  case round =>
    obtain ⟨k, B, hk, rfl, rfl, hB⟩ := hrel
    have hBz : B.size ≤ 200 := by
      rw [size_eq, hB.out]
      simp only [List.length_cons, List.length_append, manyX_len]
      rw [← size_eq]
      omega
    by_cases hlt : k < N
    · have hlt' : (k : Int) < (N : Int) := by omega
      have hm1 : B.size + 2 ≤ 400 := by omega
      have ek : IntKind.i64.wrap ((k : Int) + 1) = (k : Int) + 1 := by rw [IntKind.wrap_i64]; omega
      go_wp2_with fail
      exact ⟨⟨k + 1, B ++ ⟨#[32, 120]⟩, by omega, rfl, by go_num, Lib.hid (by rw [cat_list, hB.out, manyX_succ]; simp)⟩, by simp [RowKit.intOf]; omega⟩
    · obtain rfl : k = N := by omega
      have htx : (B ++ ⟨#[59]⟩ : ByteArray).data.toList = 102 :: 32 :: 61 :: 32 :: (H.t ++ (manyX k ++ [59])) := by
        rw [cat_list, hB.out, HB.out.1]
        simp
      have hmo := HM.out
      rw [← htx] at hmo
      have hm1 : B.size + 1 ≤ 400 := by omega
      have hbz : (B ++ ⟨#[59]⟩ : ByteArray).size ≤ 1000 := by rw [ByteArray.size_append]; show B.size + 1 ≤ 1000; omega
      have HZ := Lib.hid hmo
      have HP := Lib.hid (parsed_any (B ++ ⟨#[59]⟩) (Nat.le_trans hbz (by decide)) w2 H2.out.2.2.1 H2.out.2.2.2.1 H2.out.2.2.2.2)
      clear htx hmo hbz HM
      go_wp2_with fail
      refine HP.out.mono ?_
      rintro e w3 ⟨hv, hb3⟩
      have H3 := Lib.hid (onB' H2.out.1 hb3)
      have HV := Lib.hid hv
      have q0 := later' hb3 p0
      have q1 := later' hb3 p1
      have q2 := later' hb3 p2
      have q3 := later' hb3 p3
      have q4 := later' hb3 p4
      clear hv hb3 HP p0 p1 p2 p3 p4
      rcases HZ.out with ⟨hk4, kd, nm, f, x, ks, l', r', hmo, hx1, hx2, hx3⟩ | ⟨hk4, e', k', he', hmo⟩
      · have hv1 := HV.out
        rw [hmo] at hv1
        obtain ⟨vc, vb, xb, rfl, hc, hbb, ht⟩ := hv1
        replace hc : w3.ownsRow w2.heap.size 67 2 vc 0 [] := hc
        replace hbb : w3.ownsRow w2.heap.size 51 10 vb 1 xb := hbb
        replace ht : BndsAt w3 (fun g => w2.heap.size ≤ g) [([102], [], .mk kd nm f x [] ks [] [])] xb := ht
        obtain ⟨a1, c2, rfl, -⟩ := own_shape hc
        obtain ⟨a2, c3, rfl, -⟩ := own_shape hbb
        obtain ⟨g2, ea2, kk2, ht2⟩ := own_at hbb (by decide)
        subst ea2
        obtain ⟨vq, v1, s1, f1', y1, vp1, vk1, vb1, va1, r1, z, z0, z1, z2, z3, z4, z5, z6, z7, z8, z9⟩ := ht.at 0 Nat.zero_lt_one
        change ExAt w3 _ (.mk kd nm f x [] ks [] []) _ at z
        cases z with
        | mk k' nm' f' u' ps ks' bs al _ _ _ _ xk xb' xa hp1 hk1 hb1 ha1 tk1 tb1 ta1 =>
        have hx := (Below.refl w3.heap.size w3).alloc (Nat.le_refl _) (.cells #[.slice a1 0 c2, .slice (some ⟨g2, 0, none⟩) 1 c3] 26)
        have m1 : (w3.alloc (.cells #[.slice a1 0 c2, .slice (some ⟨g2, 0, none⟩) 1 c3] 26)).cell? ⟨w3.heap.size, 1, none⟩ = some (.slice (some ⟨g2, 0, none⟩) 1 c3) := by simp [go_sem]
        obtain ⟨ap, cp, rfl⟩ := hp1.sl
        obtain ⟨ak, ck, rfl⟩ := hk1.sl
        obtain ⟨ab, cb, rfl⟩ := hb1.sl
        obtain ⟨aa, ca, rfl⟩ := ha1.sl
        have p2 : w3.cell? ⟨g2, 2, none⟩ = some (.int .i64 kd) := ht2 _ _ z2
        have p3 : w3.cell? ⟨g2, 3, none⟩ = some (.string ⟨nm.toArray⟩) := ht2 _ _ z3
        have p4 : w3.cell? ⟨g2, 4, none⟩ = some (.bool f) := ht2 _ _ z4
        have p5 : w3.cell? ⟨g2, 5, none⟩ = some (.int .u64 x) := ht2 _ _ z5
        have p6 : w3.cell? ⟨g2, 6, none⟩ = some (.slice ap 0 cp) := ht2 _ _ z6
        have p7 : w3.cell? ⟨g2, 7, none⟩ = some (.slice ak ks.length ck) := ht2 _ _ z7
        have p8 : w3.cell? ⟨g2, 8, none⟩ = some (.slice ab 0 cb) := ht2 _ _ z8
        have p9 : w3.cell? ⟨g2, 9, none⟩ = some (.slice aa 0 ca) := ht2 _ _ z9
        have kc2 : 1 ≤ c3 := kk2
        have HX := Lib.hid (onB' H3.out hx)
        replace p2 := later' hx p2
        replace p3 := later' hx p3
        replace p4 := later' hx p4
        replace p5 := later' hx p5
        replace p6 := later' hx p6
        replace p7 := later' hx p7
        replace p8 := later' hx p8
        replace p9 := later' hx p9
        replace q0 := later' hx q0
        replace q1 := later' hx q1
        replace q2 := later' hx q2
        replace q3 := later' hx q3
        replace q4 := later' hx q4
        have hnm : nm = H.t → (⟨nm.toArray⟩ : ByteArray) = tx := fun e => by
          rw [e, HB.out.1]
        clear hc hbb ht ht2 z0 z1 z2 z3 z4 z5 z6 z7 z8 z9 hx hp1 hk1 hb1 ha1 tk1 tb1 ta1 r1 kk2 hmo
        generalize (⟨nm.toArray⟩ : ByteArray) = nb at *
        generalize hL : ks.length = kl at *
        have HK : (k = 0 ∧ kl = 0) ∨ (0 < k ∧ ((H.k = 2 ∨ H.k = 7) ∧ kl = k ∧ nb = tx ∨ (H.k = 1 ∨ H.k = 3) ∧ kd = 4 ∧ kl = k + 1)) := by
          rcases Nat.eq_zero_or_pos k with h | h
          · exact Or.inl ⟨h, by rw [← hL, hx1 h]; rfl⟩
          · refine Or.inr ⟨h, ?_⟩
            by_cases g : H.k = 2 ∨ H.k = 7
            · obtain ⟨h1, h2⟩ := hx2 h g
              exact Or.inl ⟨g, h1, hnm h2⟩
            · exact Or.inr ⟨by omega, hx3 h g⟩
        clear hx1 hx2 hx3 hnm hL
        go_upto_region 13 with fail
        generalize (w3.alloc (.cells #[.slice a1 0 c2, .slice (some ⟨g2, 0, none⟩) 1 c3] 26)) = W at *
        have l1 := World.block_lt_of_cell? _ _ q0
        have l2 := World.block_lt_of_cell? _ _ p2
        simp only at l1 l2
        have n1 : g1 ≠ W.heap.size := by omega
        have n2 : g2 ≠ W.heap.size := by omega
        have hs2 := H3.out.size
        have HW := Lib.hid hs2
        clear hs2 hBz hm1 hz f1 h0 h1 hk hlt
        rcases HK with ⟨rfl, rfl⟩ | ⟨hk0, ⟨hk5, rfl, rfl⟩ | ⟨hk5, rfl, rfl⟩⟩
        · rcases hk4 with hk4 | hk4 | hk4 | hk4 <;> rw [hk4] at q0
          all_goals
            go_wp2_with fail
            go_ret
            have hs2 := HW.out
            refine ⟨rfl, ?_⟩
            repeat refine below_new ?_ _ _ _ (by omega)
            first
              | exact HX.out
              | exact HX.out.alloc HX.out.size _
        · have k0 : ((kl : Int) == 0) = false := by simp; omega
          rcases hk5 with hk5 | hk5 <;> rw [hk5] at q0
          all_goals
            go_wp2_with fail
            go_quiet (fail)
            go_wp2_with fail
            refine bodyPost_ret (v := .bool true) (by simp [results, Tryz.results8, go_sem]) rfl ?_
            have hs2 := HW.out
            refine ⟨rfl, ?_⟩
            repeat refine below_new ?_ _ _ _ (by omega)
            first
              | exact HX.out
              | exact HX.out.alloc HX.out.size _
              | exact (fun (h : Below w.heap.size w (W.alloc (.cells #[.int .i64 kd, .string nb, .bool f, .int .u64 x, .slice ap 0 cp, .slice ak kl ck, .slice ab 0 cb, .slice aa 0 ca] 49))) => ⟨h.os, h.tape, h.output, h.size, h.block⟩) (HX.out.alloc HX.out.size _)
        · have k0 : ((k : Int) == 0) = false := by simp; omega
          have ek : IntKind.i64.wrap ((k : Int) + 1) = (k : Int) + 1 := by rw [IntKind.wrap_i64]; omega
          rcases hk5 with hk5 | hk5 <;> rw [hk5] at q0
          all_goals
            go_wp2_with fail
            refine bodyPost_ret (v := .bool true) (by simp [results, Tryz.results8, go_sem]) rfl ?_
            have hs2 := HW.out
            refine ⟨rfl, ?_⟩
            repeat refine below_new ?_ _ _ _ (by omega)
            first
              | exact HX.out
              | exact HX.out.alloc HX.out.size _
      · have hv1 := HV.out
        rw [hmo] at hv1
        obtain ⟨-, rfl⟩ := hv1
        have hx := (Below.refl w3.heap.size w3).alloc (Nat.le_refl _) (.cells #[.slice none 0 0, .slice none 0 0] 26)
        have HX := Lib.hid (onB' H3.out hx)
        replace q0 := later' hx q0
        have f9 : (e' != 0) = true := by simpa using he'
        clear hx q1 q2 q3 q4
        go_upto_region 13 with fail
        generalize (w3.alloc (.cells #[.slice none 0 0, .slice none 0 0] 26)) = W at *
        rcases hk4 with hk4 | hk4 | hk4 <;> rw [hk4] at q0
        all_goals
          go_wp2_with fail
          go_ret
          exact ⟨rfl, HX.out⟩

end Go.Proofs.YtbnmmbjajheedaaGreatDoor

/- What the rows' list of the program's tables and errors gives: the signs, and the two errors. -/
namespace Go.Proofs.YtbnmmbjajheedaaGreatDoor
open Go.RowKit Go.ChangeAt Go.Stop Go.Extern.Stop

def signData {H : Type} (x : List UInt8) (y : Int) : DataW H := .agg [.lit (.string x), .lit (.int .i64 y)]

/-- An array of a text and an int that reads as these holds them, cell for cell. -/
theorem cells_of_signs {H : Type} {enc : TypeId × Value → H} {P : Program} {w : World} {base : Nat} {sp : Nat → Bool} {held : Bool} {fuel : Nat} {t e i0 i1 : TypeId} {n : Nat} {f0 f1 : Field} {cs : List Value} {xs : List (List UInt8 × Int)} {p : List MemPlace}
    (ht : P.underlying t = some (.array n e)) (he : P.underlying e = some (.struct #[f0, f1])) (h0 : f0.type = i0) (h1 : f1.type = i1) (hi0 : P.underlying i0 = some .string) (hi1 : P.underlying i1 = some (.int .i64))
    (o0 : f0.offset = 0) (o1 : f1.offset = 1) (hci0 : P.cellsOf i0 = 1) (hci1 : P.cellsOf i1 = 1) (hce : P.cellsOf e = 2) (hct : P.cellsOf t = n * 2)
    (h : DataW.trod enc P w base sp held fuel t cs = some (.agg (xs.map fun x => signData x.1 x.2), p)) :
    ∀ j x, xs[j]? = some x → (∃ s : ByteArray, s.data.toList = x.1 ∧ cs[j * 2]? = some (.string s)) ∧ cs[j * 2 + 1]? = some (.int .i64 x.2) := by
  cases fuel with
  | zero => simp [DataW.trod] at h
  | succ fuel =>
    simp only [DataW.trod, ht, hce, hct] at h
    split at h
    · rename_i hl
      obtain ⟨ys, hm, hx⟩ := Option.map_eq_some_iff.1 h
      have hxs : ys.map (·.1) = xs.map fun x => (signData x.1 x.2 : DataW H) := by
        have := congrArg Prod.fst hx
        simpa using this
      have hyl : ys.length = n := by simpa using Lib.mapM_length hm
      intro j x hj
      have hlen : xs.length = n := by
        have := congrArg List.length hxs
        simp at this
        omega
      have hjn : j < n := by have := (List.getElem?_eq_some_iff.1 hj).1; omega
      obtain ⟨b, hb, hf⟩ := Lib.mapM_at hm j j (by simp [hjn])
      have hbd : b.1 = signData x.1 x.2 := by
        have h2 : (ys.map (·.1))[j]? = some b.1 := by simp [hb]
        rw [hxs] at h2
        simpa [hj] using h2.symm
      obtain ⟨zs, m, -, hbz, hcl, hzl, hat⟩ := DataW.trod_struct he hf
      subst hbz
      simp only [signData, DataW.agg.injEq] at hbd
      have a0 := hat 0 f0 rfl
      have a1 := hat 1 f1 rfl
      rw [h0, hci0, o0] at a0
      rw [h1, hci1, o1] at a1
      obtain ⟨z0, z1, rfl⟩ : ∃ z0 z1, zs = [z0, z1] := by
        match zs, hzl with
        | [z0, z1], _ => exact ⟨z0, z1, rfl⟩
      obtain ⟨u, hu, rfl, -⟩ := DataW.trod_string hi0 a0
      obtain ⟨v, hv, rfl, -⟩ := DataW.trod_int hi1 a1
      simp only [List.map_cons, List.map_nil, List.cons.injEq, DataW.lit.injEq, Lit.int.injEq, Lit.string.injEq, true_and, and_true] at hbd
      obtain ⟨e0, rfl⟩ := hbd
      refine ⟨⟨u, e0, ?_⟩, ?_⟩
      · have := congrArg (·[0]?) hu
        simpa [List.getElem?_take, List.getElem?_drop] using this
      · have := congrArg (·[0]?) hv
        simpa [List.getElem?_take, List.getElem?_drop] using this
    · cases h

/-- The signs as the row lists them. -/
def sgD : List (List UInt8 × Int) := signsB.map fun x => (x.1.data.toList, x.2)

theorem own : ownKnob Tryz.prog.godebug = none := by kernel_rfl
theorem star : "*" ++ "errors.errorString" = "*errors.errorString" := by decide
theorem rowErr (u : TypeId) (h : Tryz.prog.typeName? 3 u = some "*errors.errorString") : u = 225 :=
  typeName_ptr_named (nm := "errors.errorString") (by rw [star]; kernel_rfl) (by kernel_rfl) (by decide) u (by rw [star]; exact h)

theorem sg_at (j : Nat) (v : Value) (h : sgL[j]? = some v) : ∃ x, signsB[j / 2]? = some x ∧ ((j % 2 = 0 ∧ v = .string x.1) ∨ (j % 2 = 1 ∧ v = .int .i64 x.2)) := by
  match j, h with
  | 0, h => exact ⟨_, rfl, Or.inl ⟨rfl, (Option.some.inj h).symm⟩⟩
  | 1, h => exact ⟨_, rfl, Or.inr ⟨rfl, (Option.some.inj h).symm⟩⟩
  | 2, h => exact ⟨_, rfl, Or.inl ⟨rfl, (Option.some.inj h).symm⟩⟩
  | 3, h => exact ⟨_, rfl, Or.inr ⟨rfl, (Option.some.inj h).symm⟩⟩
  | 4, h => exact ⟨_, rfl, Or.inl ⟨rfl, (Option.some.inj h).symm⟩⟩
  | 5, h => exact ⟨_, rfl, Or.inr ⟨rfl, (Option.some.inj h).symm⟩⟩
  | 6, h => exact ⟨_, rfl, Or.inl ⟨rfl, (Option.some.inj h).symm⟩⟩
  | 7, h => exact ⟨_, rfl, Or.inr ⟨rfl, (Option.some.inj h).symm⟩⟩
  | 8, h => exact ⟨_, rfl, Or.inl ⟨rfl, (Option.some.inj h).symm⟩⟩
  | 9, h => exact ⟨_, rfl, Or.inr ⟨rfl, (Option.some.inj h).symm⟩⟩
  | 10, h => exact ⟨_, rfl, Or.inl ⟨rfl, (Option.some.inj h).symm⟩⟩
  | 11, h => exact ⟨_, rfl, Or.inr ⟨rfl, (Option.some.inj h).symm⟩⟩
  | 12, h => exact ⟨_, rfl, Or.inl ⟨rfl, (Option.some.inj h).symm⟩⟩
  | 13, h => exact ⟨_, rfl, Or.inr ⟨rfl, (Option.some.inj h).symm⟩⟩
  | 14, h => exact ⟨_, rfl, Or.inl ⟨rfl, (Option.some.inj h).symm⟩⟩
  | 15, h => exact ⟨_, rfl, Or.inr ⟨rfl, (Option.some.inj h).symm⟩⟩
  | 16, h => exact ⟨_, rfl, Or.inl ⟨rfl, (Option.some.inj h).symm⟩⟩
  | 17, h => exact ⟨_, rfl, Or.inr ⟨rfl, (Option.some.inj h).symm⟩⟩
  | 18, h => exact ⟨_, rfl, Or.inl ⟨rfl, (Option.some.inj h).symm⟩⟩
  | 19, h => exact ⟨_, rfl, Or.inr ⟨rfl, (Option.some.inj h).symm⟩⟩
  | 20, h => exact ⟨_, rfl, Or.inl ⟨rfl, (Option.some.inj h).symm⟩⟩
  | 21, h => exact ⟨_, rfl, Or.inr ⟨rfl, (Option.some.inj h).symm⟩⟩
  | 22, h => exact ⟨_, rfl, Or.inl ⟨rfl, (Option.some.inj h).symm⟩⟩
  | 23, h => exact ⟨_, rfl, Or.inr ⟨rfl, (Option.some.inj h).symm⟩⟩
  | 24, h => exact ⟨_, rfl, Or.inl ⟨rfl, (Option.some.inj h).symm⟩⟩
  | 25, h => exact ⟨_, rfl, Or.inr ⟨rfl, (Option.some.inj h).symm⟩⟩
  | 26, h => exact ⟨_, rfl, Or.inl ⟨rfl, (Option.some.inj h).symm⟩⟩
  | 27, h => exact ⟨_, rfl, Or.inr ⟨rfl, (Option.some.inj h).symm⟩⟩
  | 28, h => exact ⟨_, rfl, Or.inl ⟨rfl, (Option.some.inj h).symm⟩⟩
  | 29, h => exact ⟨_, rfl, Or.inr ⟨rfl, (Option.some.inj h).symm⟩⟩
  | 30, h => exact ⟨_, rfl, Or.inl ⟨rfl, (Option.some.inj h).symm⟩⟩
  | 31, h => exact ⟨_, rfl, Or.inr ⟨rfl, (Option.some.inj h).symm⟩⟩
  | 32, h => exact ⟨_, rfl, Or.inl ⟨rfl, (Option.some.inj h).symm⟩⟩
  | 33, h => exact ⟨_, rfl, Or.inr ⟨rfl, (Option.some.inj h).symm⟩⟩
  | 34, h => exact ⟨_, rfl, Or.inl ⟨rfl, (Option.some.inj h).symm⟩⟩
  | 35, h => exact ⟨_, rfl, Or.inr ⟨rfl, (Option.some.inj h).symm⟩⟩
  | 36, h => exact ⟨_, rfl, Or.inl ⟨rfl, (Option.some.inj h).symm⟩⟩
  | 37, h => exact ⟨_, rfl, Or.inr ⟨rfl, (Option.some.inj h).symm⟩⟩
  | 38, h => exact ⟨_, rfl, Or.inl ⟨rfl, (Option.some.inj h).symm⟩⟩
  | 39, h => exact ⟨_, rfl, Or.inr ⟨rfl, (Option.some.inj h).symm⟩⟩
  | 40, h => exact ⟨_, rfl, Or.inl ⟨rfl, (Option.some.inj h).symm⟩⟩
  | 41, h => exact ⟨_, rfl, Or.inr ⟨rfl, (Option.some.inj h).symm⟩⟩
  | j + 42, h => simp [sgL] at h

set_option maxRecDepth 100000 in
theorem env_all {W : World} (h0 : laidMetH Tryz.prog Rows.parseTellsRow.laid W) : SG W ∧ EE W := by
  have h' : laidMet Tryz.prog Rows.parseTellsRow.laid W := by
    have h := h0
    rw [MakeChecks.laidMetH_plain _ _ _ (by kernel_rfl)] at h
    exact h
  have h2 := laidMet.tail h'
  have h3 := laidMet.tail h2
  have h4 := laidMet.tail h3
  have h5 := laidMet.tail h4
  have h6 := laidMet.tail h5
  have h7 := laidMet.tail h6
  have gR : Tryz.prog.globalNamed "strconv.ErrRange" = some 24 := by kernel_rfl
  have gS : Tryz.prog.globalNamed "strconv.ErrSyntax" = some 23 := by kernel_rfl
  obtain ⟨a1, s1, v1, _, _, _⟩ := laid_sentinel h5 gR (show (Tryz.prog.globals[24]?).map (·.type) = some 93 by kernel_rfl) Tryz.underlying93 rowErr Tryz.underlying225 Tryz.underlying227 rfl rfl Tryz.underlying9 (by kernel_rfl) (by kernel_rfl)
  obtain ⟨a2, s2, v2, _, _, _⟩ := laid_sentinel h6 gS (show (Tryz.prog.globals[23]?).map (·.type) = some 93 by kernel_rfl) Tryz.underlying93 rowErr Tryz.underlying225 Tryz.underlying227 rfl rfl Tryz.underlying9 (by kernel_rfl) (by kernel_rfl)
  have c1 : W.cell? ⟨24, 0, none⟩ = some (.iface 225 (.pointer (some a1))) := by simpa using World.var?_cell gR v1 0
  have c2 : W.cell? ⟨23, 0, none⟩ = some (.iface 225 (.pointer (some a2))) := by simpa using World.var?_cell gS v2 0
  refine ⟨?_, ⟨_, c2, Or.inr ⟨_, _, rfl⟩⟩, ⟨_, c1, Or.inr ⟨_, _, rfl⟩⟩⟩
  have hg : Tryz.prog.globalNamed "treadwheel/lex.signs" = some 18 := by kernel_rfl
  have hty : (Tryz.prog.globals[18]?).map (·.type) = some 145 := by kernel_rfl
  obtain ⟨ps, ⟨g', t', cs, fuel, p, q, hg', ht', hvar, hd, _, _⟩, _⟩ := h7
  obtain rfl := Option.some.inj (hg.symm.trans hg')
  obtain rfl := Option.some.inj (hty.symm.trans ht')
  have hc := cells_of_signs (xs := sgD) (n := 21) (e := 120) (i0 := 9) (i1 := 3) (f0 := ⟨"text", 9, 0, false, "", "treadwheel/lex", 0⟩) (f1 := ⟨"kind", 3, 1, false, "", "treadwheel/lex", 16⟩)
    (by kernel_rfl) (by kernel_rfl) rfl rfl (by kernel_rfl) (by kernel_rfl) rfl rfl (by kernel_rfl) (by kernel_rfl) (by kernel_rfl) (by kernel_rfl) hd
  intro j v hv
  obtain ⟨x, hx, hj⟩ := sg_at j v hv
  have hx2 : sgD[j / 2]? = some (x.1.data.toList, x.2) := by simp [sgD, hx]
  obtain ⟨⟨s, hs, c0⟩, c1⟩ := hc _ _ hx2
  obtain rfl : s = x.1 := ByteArray.ext (Array.ext' hs)
  rcases hj with ⟨hm, rfl⟩ | ⟨hm, rfl⟩
  · have : j / 2 * 2 = j := by omega
    rw [World.var?_cell hg hvar]
    rw [this] at c0
    simpa using c0
  · have : j / 2 * 2 + 1 = j := by omega
    rw [World.var?_cell hg hvar]
    rw [this] at c1
    simpa using c1
end Go.Proofs.YtbnmmbjajheedaaGreatDoor

/- What the rows' list gives of the shapes. -/
namespace Go.Proofs.YtbnmmbjajheedaaGreatDoor
open Go.RowKit Go.Lib Go.ChangeAt Go.Stop Go.Extern.Stop

theorem sh_of {W : World} {nm : String} {d : DataW Unit} {rest : List (String × DataW Unit)} {g : Nat} {s : Sh} (h : laidMet Tryz.prog ((nm, d) :: rest) W) (hg : Tryz.prog.globalNamed nm = some g) (hty : (Tryz.prog.globals[g]?).map (·.type) = some 105) (hd : d = .agg [.lit (.int .i64 s.1), .lit (.string s.2)]) : ShAt W g s := by
  subst hd
  obtain ⟨ps, ⟨g', t', cs, fuel, p, q, hg', ht', hvar, hx, _, _⟩, _⟩ := h
  obtain rfl := Option.some.inj (hg.symm.trans hg')
  obtain rfl := Option.some.inj (hty.symm.trans ht')
  have hu : Tryz.prog.underlying 105 = some (.struct (Tryz.prog.fieldsOf 105)) := by kernel_rfl
  obtain ⟨zs, m, -, hbz, hcl, hzl, hat⟩ := DataW.trod_struct hu hx
  have hl : Tryz.prog.fieldsOf 105 = #[⟨"kind", 3, 0, false, "", "treadwheel/parse", 0⟩, ⟨"text", 9, 1, false, "", "treadwheel/parse", 8⟩] := by kernel_rfl
  rw [hl] at hat hzl
  have a0 := hat 0 ⟨"kind", 3, 0, false, "", "treadwheel/parse", 0⟩ rfl
  have a1 := hat 1 ⟨"text", 9, 1, false, "", "treadwheel/parse", 8⟩ rfl
  dsimp only at a0 a1
  obtain ⟨z0, z1, rfl⟩ : ∃ z0 z1, zs = [z0, z1] := by
    match zs, hzl with
    | [z0, z1], _ => exact ⟨z0, z1, rfl⟩
  rw [show Tryz.prog.cellsOf 3 = 1 by kernel_rfl] at a0
  rw [show Tryz.prog.cellsOf 9 = 1 by kernel_rfl] at a1
  obtain ⟨u, hu0, e0, -⟩ := DataW.trod_int Tryz.underlying3 a0
  obtain ⟨v, hv0, e1, -⟩ := DataW.trod_string Tryz.underlying9 a1
  subst e0 e1
  simp at hbz
  obtain ⟨⟨b0, b1⟩, -⟩ := hbz
  have c0 := congrArg (·[0]?) hu0
  have c1 := congrArg (·[0]?) hv0
  replace c0 : cs[0]? = some (.int .i64 u) := by simpa [List.getElem?_take] using c0
  replace c1 : cs[1]? = some (.string v) := by simpa [List.getElem?_drop] using c1
  refine ⟨?_, ?_⟩
  · rw [World.var?_cell hg hvar, c0, b0]
  · rw [World.var?_cell hg hvar, c1]
    have : v = tx s.2 := ByteArray.ext (Array.ext' b1.symm)
    rw [this]
set_option maxRecDepth 100000 in
theorem env8_all {W : World} (h0 : laidMetH Tryz.prog Rows.parsePartsRow.laid W) : SG W ∧ EE W ∧ Shs W := by
  have hSE := env_all (W := W) (show laidMetH Tryz.prog Rows.parseTellsRow.laid W from h0)
  have h' : laidMet Tryz.prog Rows.parsePartsRow.laid W := by
    have h := h0
    rw [MakeChecks.laidMetH_plain _ _ _ (by kernel_rfl)] at h
    exact h
  have h2 := laidMet.tail h'
  have h3 := laidMet.tail h2
  have h4 := laidMet.tail h3
  have h5 := laidMet.tail h4
  have h6 := laidMet.tail h5
  have h7 := laidMet.tail h6
  have h8 := laidMet.tail h7
  have h9 := laidMet.tail h8
  have h10 := laidMet.tail h9
  have h11 := laidMet.tail h10
  have h12 := laidMet.tail h11
  have h13 := laidMet.tail h12
  have h14 := laidMet.tail h13
  have h15 := laidMet.tail h14
  have h16 := laidMet.tail h15
  have h17 := laidMet.tail h16
  have h18 := laidMet.tail h17
  have h19 := laidMet.tail h18
  have h20 := laidMet.tail h19
  have h21 := laidMet.tail h20
  have h22 := laidMet.tail h21
  have h23 := laidMet.tail h22
  have h24 := laidMet.tail h23
  have h25 := laidMet.tail h24
  have s_name : ShAt W 3 sName := sh_of h8 (show Tryz.prog.globalNamed "treadwheel/parse.name" = some 3 by kernel_rfl) (by kernel_rfl) rfl
  have s_con : ShAt W 4 sCon := sh_of h9 (show Tryz.prog.globalNamed "treadwheel/parse.con" = some 4 by kernel_rfl) (by kernel_rfl) rfl
  have s_num : ShAt W 5 sNum := sh_of h10 (show Tryz.prog.globalNamed "treadwheel/parse.number" = some 5 by kernel_rfl) (by kernel_rfl) rfl
  have s_sign : ShAt W 15 sSign := sh_of h11 (show Tryz.prog.globalNamed "treadwheel/parse.sign" = some 15 by kernel_rfl) (by kernel_rfl) rfl
  have s_back : ShAt W 6 sBack := sh_of h12 (show Tryz.prog.globalNamed "treadwheel/parse.builtIn" = some 6 by kernel_rfl) (by kernel_rfl) rfl
  have s_data : ShAt W 8 sData := sh_of h13 (show Tryz.prog.globalNamed "treadwheel/parse.dataWord" = some 8 by kernel_rfl) (by kernel_rfl) rfl
  have s_letw : ShAt W 0 sLet := sh_of h14 (show Tryz.prog.globalNamed "treadwheel/parse.letWord" = some 0 by kernel_rfl) (by kernel_rfl) rfl
  have s_inw : ShAt W 10 sIn := sh_of h15 (show Tryz.prog.globalNamed "treadwheel/parse.inWord" = some 10 by kernel_rfl) (by kernel_rfl) rfl
  have s_casew : ShAt W 1 sCase := sh_of h16 (show Tryz.prog.globalNamed "treadwheel/parse.caseWord" = some 1 by kernel_rfl) (by kernel_rfl) rfl
  have s_ofw : ShAt W 11 sOf := sh_of h17 (show Tryz.prog.globalNamed "treadwheel/parse.ofWord" = some 11 by kernel_rfl) (by kernel_rfl) rfl
  have s_opn : ShAt W 7 sOpen := sh_of h18 (show Tryz.prog.globalNamed "treadwheel/parse.roundOpen" = some 7 by kernel_rfl) (by kernel_rfl) rfl
  have s_shut : ShAt W 16 sShut := sh_of h19 (show Tryz.prog.globalNamed "treadwheel/parse.roundClose" = some 16 by kernel_rfl) (by kernel_rfl) rfl
  have s_curl : ShAt W 12 sCurl := sh_of h20 (show Tryz.prog.globalNamed "treadwheel/parse.curlyOpen" = some 12 by kernel_rfl) (by kernel_rfl) rfl
  have s_lruc : ShAt W 13 sLruc := sh_of h21 (show Tryz.prog.globalNamed "treadwheel/parse.curlyClose" = some 13 by kernel_rfl) (by kernel_rfl) rfl
  have s_semi : ShAt W 9 sSemi := sh_of h22 (show Tryz.prog.globalNamed "treadwheel/parse.semicolon" = some 9 by kernel_rfl) (by kernel_rfl) rfl
  have s_eq : ShAt W 17 sEq := sh_of h23 (show Tryz.prog.globalNamed "treadwheel/parse.equals" = some 17 by kernel_rfl) (by kernel_rfl) rfl
  have s_arrow : ShAt W 14 sArrow := sh_of h24 (show Tryz.prog.globalNamed "treadwheel/parse.arrow" = some 14 by kernel_rfl) (by kernel_rfl) rfl
  have s_lam : ShAt W 2 sLam := sh_of h25 (show Tryz.prog.globalNamed "treadwheel/parse.backslash" = some 2 by kernel_rfl) (by kernel_rfl) rfl
  exact ⟨hSE.1, hSE.2, ⟨s_letw, s_casew, s_lam, s_name, s_con, s_num, s_back, s_opn, s_data, s_semi, s_inw, s_ofw, s_curl, s_lruc, s_arrow, s_sign, s_shut, s_eq⟩⟩
end Go.Proofs.YtbnmmbjajheedaaGreatDoor
