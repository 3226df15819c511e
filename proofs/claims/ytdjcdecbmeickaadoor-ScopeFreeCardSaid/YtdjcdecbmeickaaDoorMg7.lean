import Derived.Deep.RegionHeld3
import Derived.Test.YtdjcdecbmeickaaDoorMg6
namespace Go.Proofs.YtdjcdecbmeickaaDoor
set_option maxHeartbeats 64000000
set_option maxRecDepth 100000
open Go.RowKit Go.Lib
theorem salts_any (n : Nat) (hP : DocC n) (b : Nat) (st : Fo) (cl : List Nm) (ac : Option Addr) (cc : Nat) (sc : List Nm) (ai : Option Addr) (ci : Nat) (l : List Alt) (hz : ∀ y, y ∈ l → SizeOf.sizeOf y.2.2.2.2.2 ≤ n) (hw : ∀ y, y ∈ l → wA y) (hn : sc.length + sumN nA l ≤ 100000) (a : Option Addr) (c : Nat) (xs : List Value) (w : World) (hS : SAt w b st (.slice ac cl.length cc)) (hc : RowAt w (Apart b) 9 1 (.slice ac cl.length cc) cl.length (namesV cl)) (hi : RowAt w (Apart b) 9 1 (.slice ai sc.length ci) sc.length (namesV sc)) (hr : RowAt w (Apart b) 52 13 (.slice a l.length c) l.length xs) (ht : AltsAt w (Apart b) l xs) :
    Calls Tryd.prog 77 #[.pointer (some ⟨b, 0, none⟩), .slice a l.length c, .slice ai sc.length ci] w fun e w' => e = .returned (.tuple #[]) ∧ SAt w' b (st.or (sdAs cl sc l)) (.slice ac cl.length cc) ∧ w.grownBy w' (some b) := by
  have HO := Hd (Ai hr (Ai ht (Ai hc hi)))
  have HS := Hd hS
  have HQ := Hd (Ai hz hw)
  have hmx := hr.cap
  unfold maxLen at hmx
  clear hr ht hc hi hS hz hw
  rw [sdAs_first]
  go_enter Tryd.func77, Tryd.ntmps77
  go_wp2_with fail
  go_loopw [6] (fun s wr => ∃ j : Nat, j ≤ l.length ∧ s = .int .i64 j ∧ SAt wr b (st.or (firstF (sdA cl sc) (l.take j))) (.slice ac cl.length cc) ∧ w.grownBy wr (some b)) (fun s _ => l.length - (RowKit.intOf s).toNat)
  case atStart => exact ⟨0, Nat.zero_le _, rfl, by rw [List.take_zero, show firstF (sdA cl sc) [] = none from rfl, or_nil_l]; exact HS.out, grown_of Br⟩
  case round =>
    obtain ⟨j, hj, rfl, hs1, hg1⟩ := hrel
    have HR := Hd (Ai hs1 hg1)
    clear hs1 hg1
    by_cases gj : j < l.length
    · have gj' : (j : Int) < (l.length : Int) := by omega
      obtain ⟨aq, cq, k, nm, f, u, ap, np, cp, ak, nk, ck, ab, nb, cb, aa, na, ca, hQ, hE, hcs⟩ := HO.out.2.1.cells j gj
      obtain ⟨g1, o1, ea1, k1, m1', hgb, ht1⟩ := (HO.out.1.apart HR.out.2).at (by omega)
      subst ea1
      have HP := Hd (fun i v h => ht1 _ _ (hcs i v h))
      have HT := Hd (show l.take (j + 1) = l.take j ++ [l[j]] from List.take_succ_eq_append_getElem gj)
      have HF := Hd (show firstF (sdA cl sc) (l.take (j + 1)) = (firstF (sdA cl sc) (l.take j)).or (sdA cl sc l[j]) by rw [HT.out, firstF_snoc])
      have HZ := Hd (Ai (HQ.out.1 _ (List.getElem_mem gj)) (Ai (HQ.out.2 _ (List.getElem_mem gj)) (sumN_mem nA (List.getElem_mem gj))))
      have HE := Hd (Ai (hQ.apart HR.out.2) (hE.apart HR.out.2))
      clear ht1 hcs hQ hE HT
      generalize l[j] = al at *
      obtain ⟨kd, nb0, fd, ud, ps, body⟩ := al
      have hwt : sc.length + (1 + ps.length + wtE body) ≤ 100000 := by have h : 1 + ps.length + wtE body ≤ sumN nA l := HZ.out.2.2; omega
      have HZ2 := Hd (show SizeOf.sizeOf body ≤ n ∧ wfE body from ⟨HZ.out.1, HZ.out.2.1.2.2⟩)
      have HF2 := Hd (show firstF (sdA cl sc) (l.take (j + 1)) = (firstF (sdA cl sc) (l.take j)).or (if kd = 0 then (hasF cl nb0).or ((twF ps).or (sdE cl (sc ++ ps) body)) else if kd = 2 then sdE cl (sc ++ [nb0]) body else sdE cl sc body) from HF.out)
      replace HE := Hd (show RowAt wr (Apart b) 9 1 (.slice aq ps.length cq) ps.length (namesV ps) ∧ ExAt wr (Apart b) body [.int .i64 k, .string (tx nm), .bool f, .int .u64 u, .slice ap np cp, .slice ak nk ck, .slice ab nb cb, .slice aa na ca] from HE.out)
      replace HP := Hd (show ∀ i v, [.int .i64 kd, .string (tx nb0), .bool fd, .int .u64 ud, .slice aq ps.length cq, .int .i64 k, .string (tx nm), .bool f, .int .u64 u, .slice ap np cp, .slice ak nk ck, .slice ab nb cb, .slice aa na ca][i]? = some v → wr.cell? ⟨g1, o1 + (j * 13 + i), none⟩ = some v from HP.out)
      clear HF
      have ej : IntKind.i64.wrap ((j : Int) + 1) = (j : Int) + 1 := by rw [IntKind.wrap_i64]; omega
      have b0 : (0 : Int) ≤ (j : Int) := by omega
      have HL0 := Hd HR.out.1.lt
      by_cases g0 : kd = 0
      · subst g0
        rw [if_pos rfl] at HF2
        clear HZ
        have n0 : wr.cell? ⟨g1, o1 + j * 13, none⟩ = some (.int .i64 0) := HP.out 0 _ rfl
        have n1 : wr.cell? ⟨g1, o1 + j * 13 + 1, none⟩ = some (.string (tx nb0)) := by rw [Nat.add_assoc]; exact HP.out 1 _ rfl
        have n2 : wr.cell? ⟨g1, o1 + j * 13 + 2, none⟩ = some (.bool fd) := by rw [Nat.add_assoc]; exact HP.out 2 _ rfl
        have n3 : wr.cell? ⟨g1, o1 + j * 13 + 3, none⟩ = some (.int .u64 ud) := by rw [Nat.add_assoc]; exact HP.out 3 _ rfl
        have n4 : wr.cell? ⟨g1, o1 + j * 13 + 4, none⟩ = some (.slice aq ps.length cq) := by rw [Nat.add_assoc]; exact HP.out 4 _ rfl
        have n5 : wr.cell? ⟨g1, o1 + j * 13 + 5, none⟩ = some (.int .i64 k) := by rw [Nat.add_assoc]; exact HP.out 5 _ rfl
        have n6 : wr.cell? ⟨g1, o1 + j * 13 + 6, none⟩ = some (.string (tx nm)) := by rw [Nat.add_assoc]; exact HP.out 6 _ rfl
        have n7 : wr.cell? ⟨g1, o1 + j * 13 + 7, none⟩ = some (.bool f) := by rw [Nat.add_assoc]; exact HP.out 7 _ rfl
        have n8 : wr.cell? ⟨g1, o1 + j * 13 + 8, none⟩ = some (.int .u64 u) := by rw [Nat.add_assoc]; exact HP.out 8 _ rfl
        have n9 : wr.cell? ⟨g1, o1 + j * 13 + 9, none⟩ = some (.slice ap np cp) := by rw [Nat.add_assoc]; exact HP.out 9 _ rfl
        have n10 : wr.cell? ⟨g1, o1 + j * 13 + 10, none⟩ = some (.slice ak nk ck) := by rw [Nat.add_assoc]; exact HP.out 10 _ rfl
        have n11 : wr.cell? ⟨g1, o1 + j * 13 + 11, none⟩ = some (.slice ab nb cb) := by rw [Nat.add_assoc]; exact HP.out 11 _ rfl
        have n12 : wr.cell? ⟨g1, o1 + j * 13 + 12, none⟩ = some (.slice aa na ca) := by rw [Nat.add_assoc]; exact HP.out 12 _ rfl
        have HCn := Hd (scon_any b (st.or (firstF (sdA cl sc) (l.take j))) cl ac cc (Apart b) nb0 wr HR.out.1 (HO.out.2.2.1.apart HR.out.2))
        go_wp2_with fail
        refine HCn.out.mono ?_
        rintro e w3 ⟨rfl, hs3, hg3⟩
        have H3 := Hd (Ai hs3 (Ai (Gt HR.out.2 hg3) (Ai (HE.out.1.apart hg3) (HE.out.2.apart hg3))))
        have l4 := hg3.cell n4 (by simpa using hgb)
        have l5 := hg3.cell n5 (by simpa using hgb)
        have l6 := hg3.cell n6 (by simpa using hgb)
        have l7 := hg3.cell n7 (by simpa using hgb)
        have l8 := hg3.cell n8 (by simpa using hgb)
        have l9 := hg3.cell n9 (by simpa using hgb)
        have l10 := hg3.cell n10 (by simpa using hgb)
        have l11 := hg3.cell n11 (by simpa using hgb)
        have l12 := hg3.cell n12 (by simpa using hgb)
        clear hs3 hg3 HCn n0 n1 n2 n3 n4 n5 n6 n7 n8 n9 n10 n11 n12
        have HTw := Hd (stwice_any b ((st.or (firstF (sdA cl sc) (l.take j))).or (hasF cl nb0)) (.slice ac cl.length cc) ps aq cq (Apart b) (fun _ h => h) w3 H3.out.1 H3.out.2.2.1)
        go_wp2_with fail
        refine HTw.out.mono ?_
        rintro e w4 ⟨rfl, hs4, hg4⟩
        have H4 := Hd (Ai hs4 (Gt H3.out.2.1 hg4))
        have HL := Hd hs4.lt
        have HE4 := Hd (Ai (H3.out.2.2.1.apart hg4) (H3.out.2.2.2.apart hg4))
        have p4 := hg4.cell l4 (by simpa using hgb)
        have p5 := hg4.cell l5 (by simpa using hgb)
        have p6 := hg4.cell l6 (by simpa using hgb)
        have p7 := hg4.cell l7 (by simpa using hgb)
        have p8 := hg4.cell l8 (by simpa using hgb)
        have p9 := hg4.cell l9 (by simpa using hgb)
        have p10 := hg4.cell l10 (by simpa using hgb)
        have p11 := hg4.cell l11 (by simpa using hgb)
        have p12 := hg4.cell l12 (by simpa using hgb)
        have hwt2 : sc.length + ps.length ≤ 100000 := by omega
        obtain ⟨sc2, hsc2⟩ : ∃ sc2, sc2 = sc ++ ps := ⟨_, rfl⟩
        have hwt3 : sc2.length + wtE body ≤ 100000 := by rw [hsc2, List.length_append]; omega
        have HJ := Hd (fun (V : World) (hb : Below w4.heap.size w4 V) => join_here b sc ps ai ci aq cq hwt2 w4 V hb (HO.out.2.2.2.apart H4.out.2) (Apart b) (HE4.out.1.apartB hb))
        rw [← hsc2] at HJ HF2
        have HXp := Hd (fun (V : World) (a2 : Option Addr) (c2 : Nat) (hb : Below w4.heap.size w4 V) (ho : RowAt V (Apart b) 9 1 (.slice a2 sc2.length c2) sc2.length (namesV sc2)) => hP body b (((st.or (firstF (sdA cl sc) (l.take j))).or (hasF cl nb0)).or (twF ps)) cl ac cc sc2 a2 c2 V k nm f u ap np cp ak nk ck ab nb cb aa na ca HZ2.out.1 HZ2.out.2 hwt3 (H4.out.1.later hb) ((HO.out.2.2.1.apart H4.out.2).apartB hb) ho (HE4.out.2.apartB hb))
        clear hs4 hg4 HTw hsc2 HE HP l4 l5 l6 l7 l8 l9 l10 l11 l12
        go_wp2_with fail
        go_region_held3 (fun W' => W'.cell? ⟨g1, o1 + j * 13 + 4, none⟩ = some (.slice aq ps.length cq) ∧ W'.cell? ⟨g1, o1 + j * 13 + 5, none⟩ = some (.int .i64 k) ∧ W'.cell? ⟨g1, o1 + j * 13 + 6, none⟩ = some (.string (tx nm)) ∧ W'.cell? ⟨g1, o1 + j * 13 + 7, none⟩ = some (.bool f) ∧ W'.cell? ⟨g1, o1 + j * 13 + 8, none⟩ = some (.int .u64 u) ∧ W'.cell? ⟨g1, o1 + j * 13 + 9, none⟩ = some (.slice ap np cp) ∧ W'.cell? ⟨g1, o1 + j * 13 + 10, none⟩ = some (.slice ak nk ck) ∧ W'.cell? ⟨g1, o1 + j * 13 + 11, none⟩ = some (.slice ab nb cb) ∧ W'.cell? ⟨g1, o1 + j * 13 + 12, none⟩ = some (.slice aa na ca)) (first | exact ⟨r4, r5, r6, r7, r8, r9, r10, r11, r12⟩ | exact ⟨q4, q5, q6, q7, q8, q9, q10, q11, q12⟩ | exact ⟨p4, p5, p6, p7, p8, p9, p10, p11, p12⟩ | exact ⟨m4, m5, m6, m7, m8, m9, m10, m11, m12⟩ | go_keep) (first
          | (go_at_call 48
             refine (HJ.out _ ?hb).mono ?_
             case hb => exact Br.drew
             rintro e w5 ⟨⟨a2, c2, rfl, ho⟩, hb5⟩
             have H5 : Below w4.heap.size w4 w5 := onB' (Below.refl w4.heap.size w4).drew hb5
             have ho5 := ho HL.out
             have q4 := later' H5 p4
             have q5 := later' H5 p5
             have q6 := later' H5 p6
             have q7 := later' H5 p7
             have q8 := later' H5 p8
             have q9 := later' H5 p9
             have q10 := later' H5 p10
             have q11 := later' H5 p11
             have q12 := later' H5 p12
             clear ho)
          | (go_at_call 47
             refine (HXp.out w5 a2 c2 H5 ho5).mono ?_
             rintro e w6 ⟨rfl, hs6, hg6⟩
             have r4 := hg6.cell q4 (by simpa using hgb)
             have r5 := hg6.cell q5 (by simpa using hgb)
             have r6 := hg6.cell q6 (by simpa using hgb)
             have r7 := hg6.cell q7 (by simpa using hgb)
             have r8 := hg6.cell q8 (by simpa using hgb)
             have r9 := hg6.cell q9 (by simpa using hgb)
             have r10 := hg6.cell q10 (by simpa using hgb)
             have r11 := hg6.cell q11 (by simpa using hgb)
             have r12 := hg6.cell q12 (by simpa using hgb)
             have H6 := Gt (grown_of (b := b) H5) hg6))
        all_goals go_wp2_with fail
        all_goals (refine ⟨⟨j + 1, by omega, by go_num, ?_, Gt H4.out.2 H6⟩, by simp [RowKit.intOf]; omega⟩; rw [HF2.out]; have h := hs6; rwa [or_assoc_f, or_assoc_f, or_assoc_f] at h)
      · rw [if_neg g0] at HF2
        by_cases g2 : kd = 2
        · subst g2
          rw [if_pos rfl] at HF2
          have hnb : NmOk nb0 := HZ.out.2.1.1 (Or.inr rfl)
          clear HZ
          have m1 : wr.cell? ⟨g1, o1 + j * 13 + 1, none⟩ = some (.string (tx nb0)) := by rw [Nat.add_assoc]; exact HP.out 1 _ rfl
          have m5 : wr.cell? ⟨g1, o1 + j * 13 + 5, none⟩ = some (.int .i64 k) := by rw [Nat.add_assoc]; exact HP.out 5 _ rfl
          have m6 : wr.cell? ⟨g1, o1 + j * 13 + 6, none⟩ = some (.string (tx nm)) := by rw [Nat.add_assoc]; exact HP.out 6 _ rfl
          have m7 : wr.cell? ⟨g1, o1 + j * 13 + 7, none⟩ = some (.bool f) := by rw [Nat.add_assoc]; exact HP.out 7 _ rfl
          have m8 : wr.cell? ⟨g1, o1 + j * 13 + 8, none⟩ = some (.int .u64 u) := by rw [Nat.add_assoc]; exact HP.out 8 _ rfl
          have m9 : wr.cell? ⟨g1, o1 + j * 13 + 9, none⟩ = some (.slice ap np cp) := by rw [Nat.add_assoc]; exact HP.out 9 _ rfl
          have m10 : wr.cell? ⟨g1, o1 + j * 13 + 10, none⟩ = some (.slice ak nk ck) := by rw [Nat.add_assoc]; exact HP.out 10 _ rfl
          have m11 : wr.cell? ⟨g1, o1 + j * 13 + 11, none⟩ = some (.slice ab nb cb) := by rw [Nat.add_assoc]; exact HP.out 11 _ rfl
          have m12 : wr.cell? ⟨g1, o1 + j * 13 + 12, none⟩ = some (.slice aa na ca) := by rw [Nat.add_assoc]; exact HP.out 12 _ rfl
          have n0 : wr.cell? ⟨g1, o1 + j * 13, none⟩ = some (.int .i64 2) := HP.out 0 _ rfl
          have hy : Below wr.heap.size wr (wr.drew.alloc (.cells #[.string (tx nb0)] 9)) := ((Below.refl wr.heap.size wr).drew).alloc Nr _
          have hrow : RowAt (wr.drew.alloc (.cells #[.string (tx nb0)] 9)) (fun _ => True) 9 1 (.slice (some ⟨wr.heap.size, 0, none⟩) 1 1) 1 (namesV [nb0]) := name_row (heap_alloc_new wr.drew _)
          have HY := Hd hy
          have p1 : (wr.drew.alloc (.cells #[.string (tx nb0)] 9)).cell? ⟨g1, o1 + j * 13 + 1, none⟩ = some (.string (tx nb0)) := later' hy m1
          have p5 : (wr.drew.alloc (.cells #[.string (tx nb0)] 9)).cell? ⟨g1, o1 + j * 13 + 5, none⟩ = some (.int .i64 k) := later' hy m5
          have p6 : (wr.drew.alloc (.cells #[.string (tx nb0)] 9)).cell? ⟨g1, o1 + j * 13 + 6, none⟩ = some (.string (tx nm)) := later' hy m6
          have p7 : (wr.drew.alloc (.cells #[.string (tx nb0)] 9)).cell? ⟨g1, o1 + j * 13 + 7, none⟩ = some (.bool f) := later' hy m7
          have p8 : (wr.drew.alloc (.cells #[.string (tx nb0)] 9)).cell? ⟨g1, o1 + j * 13 + 8, none⟩ = some (.int .u64 u) := later' hy m8
          have p9 : (wr.drew.alloc (.cells #[.string (tx nb0)] 9)).cell? ⟨g1, o1 + j * 13 + 9, none⟩ = some (.slice ap np cp) := later' hy m9
          have p10 : (wr.drew.alloc (.cells #[.string (tx nb0)] 9)).cell? ⟨g1, o1 + j * 13 + 10, none⟩ = some (.slice ak nk ck) := later' hy m10
          have p11 : (wr.drew.alloc (.cells #[.string (tx nb0)] 9)).cell? ⟨g1, o1 + j * 13 + 11, none⟩ = some (.slice ab nb cb) := later' hy m11
          have p12 : (wr.drew.alloc (.cells #[.string (tx nb0)] 9)).cell? ⟨g1, o1 + j * 13 + 12, none⟩ = some (.slice aa na ca) := later' hy m12
          have hwt2 : sc.length + 1 ≤ 100000 := by omega
          obtain ⟨sc2, hsc2⟩ : ∃ sc2, sc2 = sc ++ [nb0] := ⟨_, rfl⟩
          have hwt3 : sc2.length + wtE body ≤ 100000 := by rw [hsc2, List.length_append]; simp only [List.length_cons, List.length_nil]; omega
          have HJ := Hd (fun (V : World) (hb : V = wr.drew.alloc (.cells #[.string (tx nb0)] 9)) => join_here b sc [nb0] ai ci (some ⟨wr.heap.size, 0, none⟩) 1 hwt2 wr V (by rw [hb]; exact HY.out) (HO.out.2.2.2.apart HR.out.2) (fun _ => True) (by rw [hb]; exact hrow))
          rw [← hsc2] at HJ HF2
          have HL := Hd (show b < (wr.drew.alloc (.cells #[.string (tx nb0)] 9)).heap.size from Nat.lt_of_lt_of_le HL0.out HY.out.size)
          have HXp := Hd (fun (V : World) (a2 : Option Addr) (c2 : Nat) (hb : Below wr.heap.size wr V) (ho : RowAt V (Apart b) 9 1 (.slice a2 sc2.length c2) sc2.length (namesV sc2)) => hP body b (st.or (firstF (sdA cl sc) (l.take j))) cl ac cc sc2 a2 c2 V k nm f u ap np cp ak nk ck ab nb cb aa na ca HZ2.out.1 HZ2.out.2 hwt3 (HR.out.1.later hb) ((HO.out.2.2.1.apart HR.out.2).apartB hb) ho (HE.out.2.apartB hb))
          clear hsc2 hrow hy HP
          have f0 : ((2 : Int) == 0) = false := rfl
          go_wp2_with fail
          go_region_held3 (fun W' => W'.cell? ⟨g1, o1 + j * 13 + 1, none⟩ = some (.string (tx nb0)) ∧ W'.cell? ⟨g1, o1 + j * 13 + 5, none⟩ = some (.int .i64 k) ∧ W'.cell? ⟨g1, o1 + j * 13 + 6, none⟩ = some (.string (tx nm)) ∧ W'.cell? ⟨g1, o1 + j * 13 + 7, none⟩ = some (.bool f) ∧ W'.cell? ⟨g1, o1 + j * 13 + 8, none⟩ = some (.int .u64 u) ∧ W'.cell? ⟨g1, o1 + j * 13 + 9, none⟩ = some (.slice ap np cp) ∧ W'.cell? ⟨g1, o1 + j * 13 + 10, none⟩ = some (.slice ak nk ck) ∧ W'.cell? ⟨g1, o1 + j * 13 + 11, none⟩ = some (.slice ab nb cb) ∧ W'.cell? ⟨g1, o1 + j * 13 + 12, none⟩ = some (.slice aa na ca)) (first | exact ⟨r1, r5, r6, r7, r8, r9, r10, r11, r12⟩ | exact ⟨q1, q5, q6, q7, q8, q9, q10, q11, q12⟩ | exact ⟨p1, p5, p6, p7, p8, p9, p10, p11, p12⟩ | exact ⟨m1, m5, m6, m7, m8, m9, m10, m11, m12⟩ | go_keep) (first
            | (go_at_call 48
               refine (HJ.out _ ?hb).mono ?_
               case hb => exact rfl
               rintro e w5 ⟨⟨a2, c2, rfl, ho⟩, hb5⟩
               have H5 : Below wr.heap.size wr w5 := onB' HY.out hb5
               have ho5 := ho HL.out
               have q1 := later' H5 m1
               have q5 := later' H5 m5
               have q6 := later' H5 m6
               have q7 := later' H5 m7
               have q8 := later' H5 m8
               have q9 := later' H5 m9
               have q10 := later' H5 m10
               have q11 := later' H5 m11
               have q12 := later' H5 m12
               clear ho)
            | (go_at_call 47
               refine (HXp.out w5 a2 c2 H5 ho5).mono ?_
               rintro e w6 ⟨rfl, hs6, hg6⟩
               have r1 := hg6.cell q1 (by simpa using hgb)
               have r5 := hg6.cell q5 (by simpa using hgb)
               have r6 := hg6.cell q6 (by simpa using hgb)
               have r7 := hg6.cell q7 (by simpa using hgb)
               have r8 := hg6.cell q8 (by simpa using hgb)
               have r9 := hg6.cell q9 (by simpa using hgb)
               have r10 := hg6.cell q10 (by simpa using hgb)
               have r11 := hg6.cell q11 (by simpa using hgb)
               have r12 := hg6.cell q12 (by simpa using hgb)
               have H6 := Gt (grown_of (b := b) H5) hg6))
          all_goals go_wp2_with fail
          all_goals (refine ⟨⟨j + 1, by omega, by go_num, ?_, Gt HR.out.2 H6⟩, by simp [RowKit.intOf]; omega⟩; rw [HF2.out]; have h := hs6; rwa [or_assoc_f] at h)
        · rw [if_neg g2] at HF2
          have f0 : (kd == 0) = false := by simpa using g0
          have f2 : (kd == 2) = false := by simpa using g2
          clear HZ
          have n0 : wr.cell? ⟨g1, o1 + j * 13, none⟩ = some (.int .i64 kd) := HP.out 0 _ rfl
          have n5 : wr.cell? ⟨g1, o1 + j * 13 + 5, none⟩ = some (.int .i64 k) := by rw [Nat.add_assoc]; exact HP.out 5 _ rfl
          have n6 : wr.cell? ⟨g1, o1 + j * 13 + 6, none⟩ = some (.string (tx nm)) := by rw [Nat.add_assoc]; exact HP.out 6 _ rfl
          have n7 : wr.cell? ⟨g1, o1 + j * 13 + 7, none⟩ = some (.bool f) := by rw [Nat.add_assoc]; exact HP.out 7 _ rfl
          have n8 : wr.cell? ⟨g1, o1 + j * 13 + 8, none⟩ = some (.int .u64 u) := by rw [Nat.add_assoc]; exact HP.out 8 _ rfl
          have n9 : wr.cell? ⟨g1, o1 + j * 13 + 9, none⟩ = some (.slice ap np cp) := by rw [Nat.add_assoc]; exact HP.out 9 _ rfl
          have n10 : wr.cell? ⟨g1, o1 + j * 13 + 10, none⟩ = some (.slice ak nk ck) := by rw [Nat.add_assoc]; exact HP.out 10 _ rfl
          have n11 : wr.cell? ⟨g1, o1 + j * 13 + 11, none⟩ = some (.slice ab nb cb) := by rw [Nat.add_assoc]; exact HP.out 11 _ rfl
          have n12 : wr.cell? ⟨g1, o1 + j * 13 + 12, none⟩ = some (.slice aa na ca) := by rw [Nat.add_assoc]; exact HP.out 12 _ rfl
          have HXp := Hd (hP body b (st.or (firstF (sdA cl sc) (l.take j))) cl ac cc sc ai ci wr k nm f u ap np cp ak nk ck ab nb cb aa na ca HZ2.out.1 HZ2.out.2 (by omega) HR.out.1 (HO.out.2.2.1.apart HR.out.2) (HO.out.2.2.2.apart HR.out.2) HE.out.2)
          go_wp2_with fail
          refine HXp.out.mono ?_
          rintro e w6 ⟨rfl, hs6, hg6⟩
          have H6 := Hd (Ai hs6 hg6)
          clear hs6 hg6 HXp
          go_wp2_with fail
          refine ⟨⟨j + 1, by omega, by go_num, ?_, Gt HR.out.2 H6.out.2⟩, by simp [RowKit.intOf]; omega⟩
          rw [HF2.out]
          have h := H6.out.1
          rwa [or_assoc_f] at h
    · obtain rfl : j = l.length := by omega
      go_wp2_with fail
      go_end0
      have h := HR.out.1
      rw [List.take_length] at h
      exact ⟨rfl, h, HR.out.2⟩
theorem bNames_len (bl : List Bnd) : (bNames bl).length = bl.length := by simp [bNames]
theorem plet_any (n : Nat) (hP : PlcC n) (bc nc : Nat) (cs : List Nm) (bs ns : Nat) (sc : List Nm) (k : Int) (nm : Nm) (f : Bool) (u : Int) (ps : List Nm) (ks : List Ex) (bl : List Bnd) (al : List Alt) (ap : Option Addr) (cp : Nat) (ak : Option Addr) (ck : Nat) (ab : Option Addr) (cb : Nat) (aa : Option Addr) (ca : Nat) (hN : NodeOk n ns k nm f u ps ks bl al) (K : Nat → Prop) (xk xb : List Value) (w : World) (hc : NSet w bc nc cs) (hs : NSet w bs ns sc) (hk : RowAt w K 46 8 (.slice ak ks.length ck) ks.length xk) (hb : RowAt w K 48 10 (.slice ab bl.length cb) bl.length xb) (tk : ExsAt w K ks xk) (tb : BndsAt w K bl xb) :
    Calls Tryd.prog 98 #[.agg #[.map (some bc), .map (some bs)], .agg #[.int .i64 k, .string (tx nm), .bool f, .int .u64 u, .slice ap ps.length cp, .slice ak ks.length ck, .slice ab bl.length cb, .slice aa al.length ca]] w fun e w' => e = .returned (vErr ((twF (bNames bl)).or ((scBs cs (sc ++ bNames bl) bl).or (scEs cs (sc ++ bNames bl) ks)))) ∧ Below w.heap.size w w' := by
  have hx1 := (Below.refl w.heap.size w).alloc Nr (.cells #[.map (some bc), .map (some bs)] 113)
  have hx := hx1.alloc hx1.size (.cells #[.int .i64 k, .string (tx nm), .bool f, .int .u64 u, .slice ap ps.length cp, .slice ak ks.length ck, .slice ab bl.length cb, .slice aa al.length ca] 46)
  have hB1 := (BoxW.alloc w #[.map (some bc), .map (some bs)] 113).below (Br.alloc Nr (.cells #[.int .i64 k, .string (tx nm), .bool f, .int .u64 u, .slice ap ps.length cp, .slice ak ks.length ck, .slice ab bl.length cb, .slice aa al.length ca] 46))
  have hB2 := BoxW.alloc (w.alloc (.cells #[.map (some bc), .map (some bs)] 113)) #[.int .i64 k, .string (tx nm), .bool f, .int .u64 u, .slice ap ps.length cp, .slice ak ks.length ck, .slice ab bl.length cb, .slice aa al.length ca] 46
  rw [show (w.alloc (.cells #[.map (some bc), .map (some bs)] 113)).heap.size = w.heap.size + 1 by simp] at hB2
  have hwt := hN.wt
  have hlb := sumN_len nB (fun b => by unfold nB; omega) bl
  have hnl := bNames_len bl
  have HX := Hd (Ai hx (Ai hB1 hB2))
  have HO := Hd (Ai hc (Ai hs (Ai hk (Ai hb (Ai tk tb)))))
  have hmf := func_made
  clear hx hx1 hB1 hB2 hc hs hk hb tk tb
  go_enter Tryd.func98, Tryd.ntmps98
  go_upto_region 1 with fail
  generalize ((w.alloc (.cells #[.map (some bc), .map (some bs)] 113)).alloc (.cells #[.int .i64 k, .string (tx nm), .bool f, .int .u64 u, .slice ap ps.length cp, .slice ak ks.length ck, .slice ab bl.length cb, .slice aa al.length ca] 46)) = W at *
  have d0 : W.cell? ⟨w.heap.size, 0, none⟩ = some (.map (some bc)) := HX.out.2.1.1 0 _ rfl
  have d1 : W.cell? ⟨w.heap.size, 1, none⟩ = some (.map (some bs)) := HX.out.2.1.1 1 _ rfl
  have d4 : W.cell? ⟨w.heap.size + 1, 5, none⟩ = some (.slice ak ks.length ck) := HX.out.2.2.1 5 _ rfl
  have d5 : W.cell? ⟨w.heap.size + 1, 6, none⟩ = some (.slice ab bl.length cb) := HX.out.2.2.1 6 _ rfl
  have HNm := Hd (fun (V : World) (hb : Below w.heap.size w V) => names_of_any bl ab cb K K xb V (by omega) (HO.out.2.2.2.1.move fun g hg lt => ⟨hg, hb.block g lt⟩) (HO.out.2.2.2.2.2.move fun g hg lt => ⟨hg, hb.block g lt⟩))
  have hlm : ∀ x, x ∈ bNames bl → x.length ≤ 100000 := fun x hx => by
    obtain ⟨b, hb, rfl⟩ := List.mem_map.1 hx
    exact (hN.wb b hb).1.2
  have HU := Hd (fun (V V1 : World) (lo : Nat) (v : Value) (a : Option Addr) (c : Nat) (hv : v = .slice a bl.length c) (hb : Below w.heap.size w V) (ho : V1.ownsRow lo 9 1 v bl.length (namesV (bNames bl))) (hbv : Below V1.heap.size V1 V) => under_any bc bs ns sc (bNames bl) hlm (by omega) a c (fun _ => True) V (HO.out.2.1.later hb) (by rw [hv, ← hnl] at ho; exact (RowAt.of ho (fun _ _ => trivial)).move fun g _ lt => ⟨trivial, hbv.block g lt⟩))
  rw [hnl] at HU
  clear hlm
  have hq1 : w.heap.size + 1 < W.heap.size := Bl d5
  have hq0 : w.heap.size < W.heap.size := by omega
  cases htw : twF (bNames bl) with
  | some fo =>
    obtain ⟨er, nn⟩ := fo
    have HT := Hd htw
    clear htw
    go_region_held3 (fun W' => W'.cell? ⟨w.heap.size, 0, none⟩ = some (.map (some bc)) ∧ W'.cell? ⟨w.heap.size, 1, none⟩ = some (.map (some bs)) ∧ W'.cell? ⟨w.heap.size + 1, 6, none⟩ = some (.slice ab bl.length cb)) (first | exact ⟨k0, k1, k6⟩ | exact ⟨r0, r1, r6⟩ | exact ⟨d0, d1, d5⟩ | exact ⟨(at_far _ _ _ _ _ _ (by omega)).trans ((at_far _ _ _ _ _ _ (by omega)).trans k0), (at_far _ _ _ _ _ _ (by omega)).trans ((at_far _ _ _ _ _ _ (by omega)).trans k1), (at_far _ _ _ _ _ _ (by omega)).trans ((at_far _ _ _ _ _ _ (by omega)).trans k6)⟩ | go_keep) (first
      | (go_at_call 42
         refine (HNm.out _ ?hbV).mono ?_
         case hbV => first | exact HX.out.1.drew | exact (HX.out.1.drew).alloc (show w.heap.size ≤ W.heap.size from HX.out.1.size) _
         rintro e w1 ⟨⟨v, rfl, ho⟩, hb1⟩
         obtain ⟨av, cv, rfl, -⟩ := own_shape ho
         have HWw : Below W.heap.size W w1 := by first | exact onB' ((Below.refl W.heap.size W).drew) hb1 | exact onB' (((Below.refl W.heap.size W).drew).alloc Nr _) hb1
         have r0 := later' HWw d0
         have r1 := later' HWw d1
         have r6 := later' HWw d5
         have hq2 : w.heap.size < w1.heap.size := by have := HWw.size; omega
         have hq3 : w.heap.size + 1 < w1.heap.size := by have := HWw.size; omega
         have hw1 := HWw.size
         first | (have HBx : BoxW w1 W.heap.size [.map none, .map none] := (BoxW.alloc W.drew #[.map none, .map none] 113).below hb1) | skip
         have H1 : Below w.heap.size w w1 := by first | exact onB' HX.out.1.drew hb1 | exact onB' ((HX.out.1.drew).alloc (show w.heap.size ≤ W.heap.size from HX.out.1.size) _) hb1)
      | (go_at_call 90
         refine (HU.out _ w1 _ _ av cv rfl ?hb2 ho ?hb3).mono ?_
         case hb2 => first | exact H1 | exact H1.alloc H1.size _
         case hb3 => first | exact Br | exact Br.alloc Nr _
         rintro e w2 ⟨hw, hb2⟩
         unfold UnderSaid at hw
         rw [HT.out] at hw
         subst hw; unfold vErr
         have H12 : Below w1.heap.size w1 w2 := by first | exact hb2 | exact onB' ((Below.refl w1.heap.size w1).alloc Nr _) hb2
         have k0 := later' H12 r0
         have k1 := later' H12 r1
         have k6 := later' H12 r6
         have k5 := later' (onB' HWw H12) d4
         first | (have HBz : BoxW w2 w1.heap.size [.map none, .map none] := (BoxW.alloc w1 #[.map none, .map none] 113).below hb2) | (have HBz : BoxW w2 W.heap.size [.map none, .map none] := HBx.below hb2) | skip
         first | (have q0 := HBz.1 0 _ rfl; have q1 := HBz.1 1 _ rfl; have z0 := HBz.2 0; have z1 := HBz.2 1) | skip
         have H2 : Below w.heap.size w w2 := by first | exact onB' H1 hb2 | exact onB' (H1.alloc H1.size _) hb2))
    all_goals (go_wp2_with fail; go_ret; refine ⟨by rw [HT.out]; rfl, ?_⟩; first | exact H2.alloc H2.size _ | (have h1 := H1.size; have h0 := HX.out.1.size; exact below_of_new (below_of_new H2 (set_grown ..) (by omega)) (set_grown ..) (by omega)))
  | none =>
    have HT := Hd htw
    clear htw
    go_region_held3 (fun W' => W'.cell? ⟨w.heap.size, 0, none⟩ = some (.map (some bc)) ∧ W'.cell? ⟨w.heap.size, 1, none⟩ = some (.map (some bs)) ∧ W'.cell? ⟨w.heap.size + 1, 6, none⟩ = some (.slice ab bl.length cb)) (first | exact ⟨k0, k1, k6⟩ | exact ⟨r0, r1, r6⟩ | exact ⟨d0, d1, d5⟩ | exact ⟨(at_far _ _ _ _ _ _ (by omega)).trans ((at_far _ _ _ _ _ _ (by omega)).trans k0), (at_far _ _ _ _ _ _ (by omega)).trans ((at_far _ _ _ _ _ _ (by omega)).trans k1), (at_far _ _ _ _ _ _ (by omega)).trans ((at_far _ _ _ _ _ _ (by omega)).trans k6)⟩ | go_keep) (first
      | (go_at_call 42
         refine (HNm.out _ ?hbV).mono ?_
         case hbV => first | exact HX.out.1.drew | exact (HX.out.1.drew).alloc (show w.heap.size ≤ W.heap.size from HX.out.1.size) _
         rintro e w1 ⟨⟨v, rfl, ho⟩, hb1⟩
         obtain ⟨av, cv, rfl, -⟩ := own_shape ho
         have HWw : Below W.heap.size W w1 := by first | exact onB' ((Below.refl W.heap.size W).drew) hb1 | exact onB' (((Below.refl W.heap.size W).drew).alloc Nr _) hb1
         have r0 := later' HWw d0
         have r1 := later' HWw d1
         have r6 := later' HWw d5
         have hq2 : w.heap.size < w1.heap.size := by have := HWw.size; omega
         have hq3 : w.heap.size + 1 < w1.heap.size := by have := HWw.size; omega
         have hw1 := HWw.size
         first | (have HBx : BoxW w1 W.heap.size [.map none, .map none] := (BoxW.alloc W.drew #[.map none, .map none] 113).below hb1) | skip
         have H1 : Below w.heap.size w w1 := by first | exact onB' HX.out.1.drew hb1 | exact onB' ((HX.out.1.drew).alloc (show w.heap.size ≤ W.heap.size from HX.out.1.size) _) hb1)
      | (go_at_call 90
         refine (HU.out _ w1 _ _ av cv rfl ?hb2 ho ?hb3).mono ?_
         case hb2 => first | exact H1 | exact H1.alloc H1.size _
         case hb3 => first | exact Br | exact Br.alloc Nr _
         rintro e w2 ⟨hw, hb2⟩
         unfold UnderSaid at hw
         rw [HT.out] at hw
         obtain ⟨b, rfl, hs⟩ := hw
         have H12 : Below w1.heap.size w1 w2 := by first | exact hb2 | exact onB' ((Below.refl w1.heap.size w1).alloc Nr _) hb2
         have k0 := later' H12 r0
         have k1 := later' H12 r1
         have k6 := later' H12 r6
         have k5 := later' (onB' HWw H12) d4
         first | (have HBz : BoxW w2 w1.heap.size [.map none, .map none] := (BoxW.alloc w1 #[.map none, .map none] 113).below hb2) | (have HBz : BoxW w2 W.heap.size [.map none, .map none] := HBx.below hb2) | skip
         first | (have q0 := HBz.1 0 _ rfl; have q1 := HBz.1 1 _ rfl; have z0 := HBz.2 0; have z1 := HBz.2 1) | skip
         have H2 : Below w.heap.size w w2 := by first | exact onB' H1 hb2 | exact onB' (H1.alloc H1.size _) hb2))
    · clear hb1 hb2 H12 HWw HNm HU ho k0 k1 d0 d1 d4 d5 r0 r1 r6
      have hy := (Below.refl w2.heap.size w2).alloc Nr (.cells #[.map (some bc), .map (some b)] 113)
      have HE := Hd (Ai (onB' H2 hy) (hs.later hy))
      have HBy := Hd (BoxW.alloc w2 #[.map (some bc), .map (some b)] 113)
      have x5 := later' hy k5
      have x6 := later' hy k6
      clear hy
      clear k5 k6 hs
      generalize (w2.alloc (.cells #[.map (some bc), .map (some b)] 113)) = W3 at *
      have s0 : W3.cell? ⟨w2.heap.size, 0, none⟩ = some (.map (some bc)) := HBy.out.1 0 _ rfl
      have s1 : W3.cell? ⟨w2.heap.size, 1, none⟩ = some (.map (some b)) := HBy.out.1 1 _ rfl
      have HF1 := Hd (first_binds n hP bc nc cs b (ns + (bNames bl).length) (sc ++ bNames bl) bl hN.sb hN.wb (by omega) ab cb K K xb W3 (HO.out.1.later HE.out.1) HE.out.2 (HO.out.2.2.2.1.move fun g hg lt => ⟨hg, HE.out.1.block g lt⟩) (HO.out.2.2.2.2.2.move fun g hg lt => ⟨hg, HE.out.1.block g lt⟩))
      go_wp2_with fail
      refine HF1.out.mono ?_
      rintro e w4 ⟨rfl, hb4⟩
      have HB4 := Hd (Ai (onB' HE.out.1 hb4) (HE.out.2.later hb4))
      have y5 := later' hb4 x5
      have y0 := later' hb4 s0
      have y1 := later' hb4 s1
      clear hb4 HF1 s0 s1 x5 x6
      cases hfo : scBs cs (sc ++ bNames bl) bl with
      | some fo =>
        obtain ⟨er, nn⟩ := fo
        have HT2 := Hd hfo
        unfold vErr
        clear hfo
        go_wp2_with fail
        go_ret
        exact ⟨by rw [HT.out, HT2.out]; rfl, HB4.out.1⟩
      | none =>
        have HT2 := Hd hfo
        unfold vErr
        clear hfo
        have HF2 := Hd (first_exprs n hP bc nc cs b (ns + (bNames bl).length) (sc ++ bNames bl) ks hN.sk hN.wk (by omega) ak ck K xk w4 (HO.out.1.later HB4.out.1) HB4.out.2 (HO.out.2.2.1.move fun g hg lt => ⟨hg, HB4.out.1.block g lt⟩) (HO.out.2.2.2.2.1.move fun g hg lt => ⟨hg, HB4.out.1.block g lt⟩))
        go_wp2_with fail
        refine HF2.out.mono ?_
        rintro e w5 ⟨rfl, hb5⟩
        have HB5 := Hd (onB' HB4.out.1 hb5)
        clear hb5 HF2
        go_wp2_with fail
        go_ret
        exact ⟨by rw [HT.out, HT2.out]; rfl, HB5.out⟩
    · clear hb1 hb2 H12 HWw HNm HU ho k0 k1 d0 d1 d4 d5 r0 r1 r6
      have h1s := H1.size
      have h0s := HX.out.1.size
      have hg := Gt (set_grown w2 w1.heap.size 0 (.map (some bc))) (set_grown (w2.setCell ⟨w1.heap.size, 0, none⟩ (.map (some bc))) w1.heap.size 1 (.map (some b)))
      have HE := Hd (Ai (below_of_new H2 hg (by omega)) (hs.same (hg.block b hs.lt (by simpa using hs.ne q0))))
      have HBy := Hd (show BoxW ((w2.setCell ⟨w1.heap.size, 0, none⟩ (.map (some bc))).setCell ⟨w1.heap.size, 1, none⟩ (.map (some b))) w1.heap.size [.map (some bc), .map (some b)] from (HBz.set 0 (show 0 < 2 by decide) (.map (some bc))).set 1 (show 1 < 2 by decide) (.map (some b)))
      have x5 := hg.cell k5 (by simp; omega)
      have x6 := hg.cell k6 (by simp; omega)
      clear hg HBz
      clear k5 k6 hs
      generalize ((w2.setCell ⟨w1.heap.size, 0, none⟩ (.map (some bc))).setCell ⟨w1.heap.size, 1, none⟩ (.map (some b))) = W3 at *
      have s0 : W3.cell? ⟨w1.heap.size, 0, none⟩ = some (.map (some bc)) := HBy.out.1 0 _ rfl
      have s1 : W3.cell? ⟨w1.heap.size, 1, none⟩ = some (.map (some b)) := HBy.out.1 1 _ rfl
      have HF1 := Hd (first_binds n hP bc nc cs b (ns + (bNames bl).length) (sc ++ bNames bl) bl hN.sb hN.wb (by omega) ab cb K K xb W3 (HO.out.1.later HE.out.1) HE.out.2 (HO.out.2.2.2.1.move fun g hg lt => ⟨hg, HE.out.1.block g lt⟩) (HO.out.2.2.2.2.2.move fun g hg lt => ⟨hg, HE.out.1.block g lt⟩))
      go_wp2_with fail
      refine HF1.out.mono ?_
      rintro e w4 ⟨rfl, hb4⟩
      have HB4 := Hd (Ai (onB' HE.out.1 hb4) (HE.out.2.later hb4))
      have y5 := later' hb4 x5
      have y0 := later' hb4 s0
      have y1 := later' hb4 s1
      clear hb4 HF1 s0 s1 x5 x6
      cases hfo : scBs cs (sc ++ bNames bl) bl with
      | some fo =>
        obtain ⟨er, nn⟩ := fo
        have HT2 := Hd hfo
        unfold vErr
        clear hfo
        go_wp2_with fail
        go_ret
        exact ⟨by rw [HT.out, HT2.out]; rfl, HB4.out.1⟩
      | none =>
        have HT2 := Hd hfo
        unfold vErr
        clear hfo
        have HF2 := Hd (first_exprs n hP bc nc cs b (ns + (bNames bl).length) (sc ++ bNames bl) ks hN.sk hN.wk (by omega) ak ck K xk w4 (HO.out.1.later HB4.out.1) HB4.out.2 (HO.out.2.2.1.move fun g hg lt => ⟨hg, HB4.out.1.block g lt⟩) (HO.out.2.2.2.2.1.move fun g hg lt => ⟨hg, HB4.out.1.block g lt⟩))
        go_wp2_with fail
        refine HF2.out.mono ?_
        rintro e w5 ⟨rfl, hb5⟩
        have HB5 := Hd (onB' HB4.out.1 hb5)
        clear hb5 HF2
        go_wp2_with fail
        go_ret
        exact ⟨by rw [HT.out, HT2.out]; rfl, HB5.out⟩
    · clear hb1 hb2 H12 HWw HNm HU ho k0 k1 d0 d1 d4 d5 r0 r1 r6
      have h1s := H1.size
      have h0s := HX.out.1.size
      have hg := Gt (set_grown w2 W.heap.size 0 (.map (some bc))) (set_grown (w2.setCell ⟨W.heap.size, 0, none⟩ (.map (some bc))) W.heap.size 1 (.map (some b)))
      have HE := Hd (Ai (below_of_new H2 hg (by omega)) (hs.same (hg.block b hs.lt (by simpa using hs.ne q0))))
      have HBy := Hd (show BoxW ((w2.setCell ⟨W.heap.size, 0, none⟩ (.map (some bc))).setCell ⟨W.heap.size, 1, none⟩ (.map (some b))) W.heap.size [.map (some bc), .map (some b)] from (HBz.set 0 (show 0 < 2 by decide) (.map (some bc))).set 1 (show 1 < 2 by decide) (.map (some b)))
      have x5 := hg.cell k5 (by simp; omega)
      have x6 := hg.cell k6 (by simp; omega)
      clear hg HBz
      clear k5 k6 hs
      generalize ((w2.setCell ⟨W.heap.size, 0, none⟩ (.map (some bc))).setCell ⟨W.heap.size, 1, none⟩ (.map (some b))) = W3 at *
      have s0 : W3.cell? ⟨W.heap.size, 0, none⟩ = some (.map (some bc)) := HBy.out.1 0 _ rfl
      have s1 : W3.cell? ⟨W.heap.size, 1, none⟩ = some (.map (some b)) := HBy.out.1 1 _ rfl
      have HF1 := Hd (first_binds n hP bc nc cs b (ns + (bNames bl).length) (sc ++ bNames bl) bl hN.sb hN.wb (by omega) ab cb K K xb W3 (HO.out.1.later HE.out.1) HE.out.2 (HO.out.2.2.2.1.move fun g hg lt => ⟨hg, HE.out.1.block g lt⟩) (HO.out.2.2.2.2.2.move fun g hg lt => ⟨hg, HE.out.1.block g lt⟩))
      go_wp2_with fail
      refine HF1.out.mono ?_
      rintro e w4 ⟨rfl, hb4⟩
      have HB4 := Hd (Ai (onB' HE.out.1 hb4) (HE.out.2.later hb4))
      have y5 := later' hb4 x5
      have y0 := later' hb4 s0
      have y1 := later' hb4 s1
      clear hb4 HF1 s0 s1 x5 x6
      cases hfo : scBs cs (sc ++ bNames bl) bl with
      | some fo =>
        obtain ⟨er, nn⟩ := fo
        have HT2 := Hd hfo
        unfold vErr
        clear hfo
        go_wp2_with fail
        go_ret
        exact ⟨by rw [HT.out, HT2.out]; rfl, HB4.out.1⟩
      | none =>
        have HT2 := Hd hfo
        unfold vErr
        clear hfo
        have HF2 := Hd (first_exprs n hP bc nc cs b (ns + (bNames bl).length) (sc ++ bNames bl) ks hN.sk hN.wk (by omega) ak ck K xk w4 (HO.out.1.later HB4.out.1) HB4.out.2 (HO.out.2.2.1.move fun g hg lt => ⟨hg, HB4.out.1.block g lt⟩) (HO.out.2.2.2.2.1.move fun g hg lt => ⟨hg, HB4.out.1.block g lt⟩))
        go_wp2_with fail
        refine HF2.out.mono ?_
        rintro e w5 ⟨rfl, hb5⟩
        have HB5 := Hd (onB' HB4.out.1 hb5)
        clear hb5 HF2
        go_wp2_with fail
        go_ret
        exact ⟨by rw [HT.out, HT2.out]; rfl, HB5.out⟩
end Go.Proofs.YtdjcdecbmeickaaDoor
