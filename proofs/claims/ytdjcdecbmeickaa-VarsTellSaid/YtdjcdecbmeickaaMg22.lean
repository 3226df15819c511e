import Derived.Deep.RegionHeld3
import Derived.Laws.OwnMore
import Derived.Deep.QuietTactic
import Derived.Deep.DeepCutAuto
import Derived.SliceStrings
import Derived.OpenShut
import Derived.ProofKit
import Derived.Test.YtdjcdecbmeickaaMg5
import Derived.Test.YtdjcdecbmeickaaMg12
import Derived.Test.YtdjcdecbmeickaaMg19
namespace Go.Proofs.Ytdjcdecbmeickaa
set_option maxHeartbeats 64000000
set_option maxRecDepth 100000
open Go.RowKit Go.Lib
theorem frE_mk (k : Int) (n : Nm) (f : Bool) (x : Int) (ps : List Nm) (ks : List Ex) (bs : List Bnd) (al : List Alt) : frE (.mk k n f x ps ks bs al) = if k = 1 then [n] else wo (wo (frAs (frEs (frBs [] bs) ks) al) (bNames bs)) ps := by conv => lhs; unfold frE
theorem frEs_nil (acc : List Nm) : frEs acc [] = acc := by unfold frEs; rfl
theorem frEs_cons (acc : List Nm) (e : Ex) (r : List Ex) : frEs acc (e :: r) = frEs (dedup acc (frE e)) r := by conv => lhs; unfold frEs
theorem frBs_nil (acc : List Nm) : frBs acc [] = acc := by unfold frBs; rfl
theorem frBs_cons (acc : List Nm) (b : Bnd) (r : List Bnd) : frBs acc (b :: r) = frBs (dedup acc (wo (frE b.2.2) b.2.1)) r := by
  obtain ⟨n, ps, e⟩ := b
  conv => lhs; unfold frBs
theorem frAs_nil (acc : List Nm) : frAs acc [] = acc := by unfold frAs; rfl
def anL (a : Alt) : List Nm := if a.1 = 2 then [a.2.1] else a.2.2.2.2.1
theorem frAs_cons (acc : List Nm) (a : Alt) (r : List Alt) : frAs acc (a :: r) = frAs (dedup acc (wo (frE a.2.2.2.2.2) (anL a))) r := by
  obtain ⟨k, n, f, x, ns, e⟩ := a
  conv => lhs; unfold frAs
  rfl
theorem frEs_snoc : ∀ (l : List Ex) (acc : List Nm) (x : Ex), frEs acc (l ++ [x]) = dedup (frEs acc l) (frE x)
  | [], acc, x => by rw [List.nil_append, frEs_cons, frEs_nil, frEs_nil]
  | e :: r, acc, x => by rw [List.cons_append, frEs_cons, frEs_cons, frEs_snoc r]
theorem frBs_snoc : ∀ (l : List Bnd) (acc : List Nm) (x : Bnd), frBs acc (l ++ [x]) = dedup (frBs acc l) (wo (frE x.2.2) x.2.1)
  | [], acc, x => by rw [List.nil_append, frBs_cons, frBs_nil, frBs_nil]
  | e :: r, acc, x => by rw [List.cons_append, frBs_cons, frBs_cons, frBs_snoc r]
theorem frAs_snoc : ∀ (l : List Alt) (acc : List Nm) (x : Alt), frAs acc (l ++ [x]) = dedup (frAs acc l) (wo (frE x.2.2.2.2.2) (anL x))
  | [], acc, x => by rw [List.nil_append, frAs_cons, frAs_nil, frAs_nil]
  | e :: r, acc, x => by rw [List.cons_append, frAs_cons, frAs_cons, frAs_snoc r]
mutual
theorem frE_len : ∀ (e : Ex), (frE e).length ≤ wtE e
  | .mk k n f x ps ks bs al => by
    rw [frE_mk]
    have h1 := frAs_len al (frEs (frBs [] bs) ks)
    have h2 := frEs_len ks (frBs [] bs)
    have h3 := frBs_len bs []
    have h4 := wo_len (wo (frAs (frEs (frBs [] bs) ks) al) (bNames bs)) ps
    have h5 := wo_len (frAs (frEs (frBs [] bs) ks) al) (bNames bs)
    simp only [List.length_nil] at h3
    unfold wtE
    by_cases g1 : k = 1
    · rw [if_pos g1, if_pos g1]; simp only [List.length_cons, List.length_nil]; omega
    · rw [if_neg g1, if_neg g1]; omega
theorem frEs_len : ∀ (l : List Ex) (acc : List Nm), (frEs acc l).length ≤ acc.length + wtEs l
  | [], acc => by unfold frEs; omega
  | e :: r, acc => by
    unfold frEs wtEs
    have h1 := frE_len e
    have h2 := frEs_len r (dedup acc (frE e))
    have h3 := dedup_len (frE e) acc
    omega
theorem frBs_len : ∀ (l : List (Nm × List Nm × Ex)) (acc : List Nm), (frBs acc l).length ≤ acc.length + wtBs l
  | [], acc => by unfold frBs; omega
  | (n, ps, e) :: r, acc => by
    unfold frBs wtBs
    have h1 := frE_len e
    have h2 := frBs_len r (dedup acc (wo (frE e) ps))
    have h3 := dedup_len (wo (frE e) ps) acc
    have h4 := wo_len (frE e) ps
    omega
theorem frAs_len : ∀ (l : List (Int × Nm × Bool × Int × List Nm × Ex)) (acc : List Nm), (frAs acc l).length ≤ acc.length + wtAs l
  | [], acc => by unfold frAs; omega
  | (k, n, f, x, ns, e) :: r, acc => by
    unfold frAs wtAs
    have h1 := frE_len e
    have h2 := frAs_len r (dedup acc (wo (frE e) (if k = 2 then [n] else ns)))
    have h3 := dedup_len (wo (frE e) (if k = 2 then [n] else ns)) acc
    have h4 := wo_len (frE e) (if k = 2 then [n] else ns)
    omega
end
def DFreeC (n : Nat) : Prop :=
  ∀ (x : Ex) (K : Nat → Prop) (W : World) (k : Int) (nm : Nm) (f : Bool) (u : Int) (ap : Option Addr) (np cp : Nat) (ak : Option Addr) (nk ck : Nat) (ab : Option Addr) (nb cb : Nat) (aa : Option Addr) (na ca : Nat), SizeOf.sizeOf x ≤ n → wvE x → wtE x ≤ 100000 → ExAt W K x [.int .i64 k, .string (tx nm), .bool f, .int .u64 u, .slice ap np cp, .slice ak nk ck, .slice ab nb cb, .slice aa na ca] →
    Calls Try.prog 12 #[.agg #[.int .i64 k, .string (tx nm), .bool f, .int .u64 u, .slice ap np cp, .slice ak nk ck, .slice ab nb cb, .slice aa na ca]] W fun e w' => (∃ v, e = .returned v ∧ w'.ownsRow W.heap.size 9 1 v (frE x).length (namesV (frE x))) ∧ Below W.heap.size W w'
theorem dfree_step (n : Nat) (hP : DFreeC n) : DFreeC (n + 1) := by
  intro x K w k nm f u ap np cp ak nk ck ab nb cb aa na ca hz hw hn ht
  obtain ⟨ps, ks, bl, al, xk, xb, xa, rfl, rfl, rfl, rfl, rfl, hp, hk, hb, ha, tk, tb, ta⟩ := ht.opened
  have hN := NodeV.of (ns := 0) hz hw (by omega)
  have hwt := hN.wt
  have hmp := hp.cap
  have hmk := hk.cap
  have hmb := hb.cap
  have hma := ha.cap
  unfold maxLen at hmp hmk hmb hma
  have hx := (Below.refl w.heap.size w).alloc Nr (.cells #[.int .i64 k, .string (tx nm), .bool f, .int .u64 u, .slice ap ps.length cp, .slice ak ks.length ck, .slice ab bl.length cb, .slice aa al.length ca] 34)
  have hBx := BoxW.alloc w #[.int .i64 k, .string (tx nm), .bool f, .int .u64 u, .slice ap ps.length cp, .slice ak ks.length ck, .slice ab bl.length cb, .slice aa al.length ca] 34
  have HO := Hd (Ai (hp.below hx) (Ai (hk.below hx) (Ai (hb.below hx) (ha.below hx))))
  have HT := Hd (Ai (tk.move (K' := K) fun g hk lt => ⟨hk, hx.block g lt⟩) (Ai (tb.move (K' := K) fun g hk lt => ⟨hk, hx.block g lt⟩) (ta.move (K' := K) fun g hk lt => ⟨hk, hx.block g lt⟩)))
  have HX := Hd (Ai hx hBx)
  have HZ := Hd hx.size
  obtain ⟨i0, hi0, hz0, hzs, hzb⟩ := info_parts Try.info_text
  clear hz hw hn ht hp hk hb ha tk tb ta hx hBx
  by_cases g1 : k = 1
  · subst g1
    go_enter Try.func12, Try.ntmps12
    go_upto_region 1 with fail
    generalize (w.alloc (.cells #[.int .i64 1, .string (tx nm), .bool f, .int .u64 u, .slice ap ps.length cp, .slice ak ks.length ck, .slice ab bl.length cb, .slice aa al.length ca] 34)) = W at *
    have c0 : W.cell? ⟨w.heap.size, 0, none⟩ = some (.int .i64 1) := HX.out.2.1 0 _ rfl
    have c1 : W.cell? ⟨w.heap.size, 1, none⟩ = some (.string (tx nm)) := HX.out.2.1 1 _ rfl
    have f1 : ((1 : Int) == 1) = true := rfl
    have HY := Hd (World.ownsRow_lit (base := w.heap.size) (e := 9) (size := 1) W #[.string (tx nm)] 1 HZ.out (by decide) rfl)
    have HB := Hd (onB' HX.out.1 ((Below.refl W.heap.size W).alloc Nr (.cells #[.string (tx nm)] 9)))
    go_wp2_with fail
    go_ret
    refine ⟨⟨_, rfl, ?_⟩, HB.out⟩
    rw [frE_mk, if_pos rfl]
    exact HY.out
  have f1 : (k == 1) = false := by simpa using g1
  rw [frE_mk, if_neg g1]
  rw [if_neg g1] at hwt
  go_enter Try.func12, Try.ntmps12
  go_upto_region 1 with fail
  generalize (w.alloc (.cells #[.int .i64 k, .string (tx nm), .bool f, .int .u64 u, .slice ap ps.length cp, .slice ak ks.length ck, .slice ab bl.length cb, .slice aa al.length ca] 34)) = W at *
  have c0 : W.cell? ⟨w.heap.size, 0, none⟩ = some (.int .i64 k) := HX.out.2.1 0 _ rfl
  go_wp2_with fail
  clear f1 c0
  go_loopw [3, 4, 5] (fun s3 s4 s5 wr => ∃ (j : Nat) (vv vb : Value), j ≤ bl.length ∧ vv = s3 ∧ vb = s4 ∧ s5 = .int .i64 j ∧ wr.ownsRow W.heap.size 9 1 vv (frBs [] (bl.take j)).length (namesV (frBs [] (bl.take j))) ∧ wr.ownsRow W.heap.size 9 1 vb (bNames (bl.take j)).length (namesV (bNames (bl.take j))) ∧ (∀ g, vv.ownBlock = some g → vb.ownBlock ≠ some g) ∧ Below W.heap.size W wr) (fun _ _ s5 _ => bl.length - (RowKit.intOf s5).toNat)
  case atStart => exact ⟨0, _, _, Nat.zero_le _, rfl, rfl, rfl, by rw [List.take_zero, frBs_nil]; exact World.ownsRow_nil _ _ _ _, by rw [List.take_zero]; exact World.ownsRow_nil _ _ _ _, (fun g h => by cases h), Below.refl _ _⟩
  case round =>
  obtain ⟨j, vv, vb, hj, rfl, rfl, rfl, hov, hob, hap, hbr⟩ := hrel
  obtain ⟨av, cv, rfl, hlv⟩ := own_shape hov
  obtain ⟨ao, co, rfl, hlo⟩ := own_shape hob
  have hlen := frBs_len (bl.take j) []
  have hlen2 : (bNames (bl.take j)).length ≤ j := by rw [bNames_len, List.length_take]; omega
  have HL1 := Hd hlen
  have HR := Hd (Ai hov (Ai hob (Ai hap (Ai hbr (Ai hlv hlo)))))
  clear hov hob hap hbr hlv hlo hlen
  have x6 : wr.cell? ⟨w.heap.size, 6, none⟩ = some (.slice ab bl.length cb) := later' HR.out.2.2.2.1 (HX.out.2.1 6 _ rfl)
  by_cases gj : j < bl.length
  · have gj' : (j : Int) < (bl.length : Int) := by omega
    obtain ⟨aq, cq, k9, nm9, f9, u9, ap9, np9, cp9, ak9, nk9, ck9, ab9, nb9, cb9, aa9, na9, ca9, hQ, hE, hcs⟩ := HT.out.2.1.cells j gj
    obtain ⟨g1, o1, ea1, k1, m1', hgb, ht1⟩ := (HO.out.2.2.1.below HR.out.2.2.2.1).at (by omega)
    subst ea1
    have HPc := Hd (fun i v h => ht1 _ _ (hcs i v h))
    have HTk := Hd (show bl.take (j + 1) = bl.take j ++ [bl[j]] from List.take_succ_eq_append_getElem gj)
    have HF := Hd (show frBs [] (bl.take (j + 1)) = dedup (frBs [] (bl.take j)) (wo (frE bl[j].2.2) bl[j].2.1) by rw [HTk.out, frBs_snoc])
    have HF2 := Hd (show bNames (bl.take (j + 1)) = bNames (bl.take j) ++ [bl[j].1] by rw [HTk.out, bNames_snoc])
    have hsm : wtBs (bl.take j) + nB bl[j] ≤ bl.length + sumN nB bl := by
      have h := wtBs_sum (bl.take (j + 1))
      rw [wtBs_sum, HTk.out, sumN_app] at h
      have h2 : sumN nB2 (bl.take (j + 1)) + sumN nB2 (bl.drop (j + 1)) = sumN nB2 bl := by rw [← sumN_app, List.take_append_drop]
      rw [HTk.out, sumN_app] at h2
      have h3 : nB bl[j] ≤ sumN nB2 [bl[j]] := by simp only [sumN, nB2, nB]; omega
      rw [wtBs_sum, ← sumN_nB2]
      omega
    have HS := Hd (Ai (hN.sb _ (List.getElem_mem gj)) (hN.wb _ (List.getElem_mem gj)).2.2)
    have HE := Hd (Ai (hQ.below HR.out.2.2.2.1) (hE.move (K' := K) fun g hk lt => ⟨hk, HR.out.2.2.2.1.block g lt⟩))
    clear ht1 hcs hQ hE HTk
    obtain ⟨body, hbody⟩ : ∃ body, body = bl[j].2.2 := ⟨_, rfl⟩
    obtain ⟨qs, hqs⟩ : ∃ qs, qs = bl[j].2.1 := ⟨_, rfl⟩
    obtain ⟨bn, hbn⟩ : ∃ bn, bn = bl[j].1 := ⟨_, rfl⟩
    have hnb : nB bl[j] = 1 + qs.length + wtE body := by rw [hqs, hbody]
    rw [hnb] at hsm
    clear hnb
    rw [← hbody] at HE HF HS
    rw [← hqs] at HE HF HPc
    rw [← hbn] at HPc HF2
    clear hbody hqs hbn
    have hwb : wtE body ≤ 100000 := by omega
    have HC := Hd (fun (V : World) (hb : Below wr.heap.size wr V) => hP body K V k9 nm9 f9 u9 ap9 np9 cp9 ak9 nk9 ck9 ab9 nb9 cb9 aa9 na9 ca9 HS.out.1 HS.out.2 hwb (HE.out.2.move fun g hk lt => ⟨hk, hb.block g lt⟩))
    have hfl := frE_len body
    have hwl := wo_len (frE body) qs
    have hl1 := HL1.out
    simp only [List.length_nil] at hl1
    have p0 : wr.cell? ⟨g1, o1 + j * 10, none⟩ = some (.string (tx bn)) := HPc.out 0 _ rfl
    have p1 : wr.cell? ⟨g1, o1 + j * 10 + 1, none⟩ = some (.slice aq qs.length cq) := by rw [Nat.add_assoc]; exact HPc.out 1 _ rfl
    have p2 : wr.cell? ⟨g1, o1 + j * 10 + 2, none⟩ = some (.int .i64 k9) := by rw [Nat.add_assoc]; exact HPc.out 2 _ rfl
    have p3 : wr.cell? ⟨g1, o1 + j * 10 + 3, none⟩ = some (.string (tx nm9)) := by rw [Nat.add_assoc]; exact HPc.out 3 _ rfl
    have p4 : wr.cell? ⟨g1, o1 + j * 10 + 4, none⟩ = some (.bool f9) := by rw [Nat.add_assoc]; exact HPc.out 4 _ rfl
    have p5 : wr.cell? ⟨g1, o1 + j * 10 + 5, none⟩ = some (.int .u64 u9) := by rw [Nat.add_assoc]; exact HPc.out 5 _ rfl
    have p6 : wr.cell? ⟨g1, o1 + j * 10 + 6, none⟩ = some (.slice ap9 np9 cp9) := by rw [Nat.add_assoc]; exact HPc.out 6 _ rfl
    have p7 : wr.cell? ⟨g1, o1 + j * 10 + 7, none⟩ = some (.slice ak9 nk9 ck9) := by rw [Nat.add_assoc]; exact HPc.out 7 _ rfl
    have p8 : wr.cell? ⟨g1, o1 + j * 10 + 8, none⟩ = some (.slice ab9 nb9 cb9) := by rw [Nat.add_assoc]; exact HPc.out 8 _ rfl
    have p9 : wr.cell? ⟨g1, o1 + j * 10 + 9, none⟩ = some (.slice aa9 na9 ca9) := by rw [Nat.add_assoc]; exact HPc.out 9 _ rfl
    have ej : IntKind.i64.wrap ((j : Int) + 1) = (j : Int) + 1 := by rw [IntKind.wrap_i64]; omega
    have b0 : (0 : Int) ≤ (j : Int) := by omega
    go_wp2_with fail
    go_region_held3 (fun W' => W'.cell? ⟨w.heap.size, 6, none⟩ = some (.slice (some ⟨g1, o1, none⟩) bl.length cb) ∧ W'.cell? ⟨g1, o1 + j * 10 + 1, none⟩ = some (.slice aq qs.length cq) ∧ W'.cell? ⟨g1, o1 + j * 10 + 2, none⟩ = some (.int .i64 k9) ∧ W'.cell? ⟨g1, o1 + j * 10 + 3, none⟩ = some (.string (tx nm9)) ∧ W'.cell? ⟨g1, o1 + j * 10 + 4, none⟩ = some (.bool f9) ∧ W'.cell? ⟨g1, o1 + j * 10 + 5, none⟩ = some (.int .u64 u9) ∧ W'.cell? ⟨g1, o1 + j * 10 + 6, none⟩ = some (.slice ap9 np9 cp9) ∧ W'.cell? ⟨g1, o1 + j * 10 + 7, none⟩ = some (.slice ak9 nk9 ck9) ∧ W'.cell? ⟨g1, o1 + j * 10 + 8, none⟩ = some (.slice ab9 nb9 cb9) ∧ W'.cell? ⟨g1, o1 + j * 10 + 9, none⟩ = some (.slice aa9 na9 ca9)) (first | exact ⟨tx', t1, t2, t3, t4, t5, t6, t7, t8, t9⟩ | exact ⟨rx, r1, r2, r3, r4, r5, r6, r7, r8, r9⟩ | exact ⟨qx, q1, q2, q3, q4, q5, q6, q7, q8, q9⟩ | exact ⟨x6, p1, p2, p3, p4, p5, p6, p7, p8, p9⟩ | go_keep) (first
        | (go_at_call 12
           refine (HC.out _ ?hb).mono ?_
           case hb => exact Br.drew
           rintro e w5 ⟨⟨v5, rfl, ho5⟩, hb5⟩
           obtain ⟨a5, c5, rfl, -⟩ := own_shape ho5
           have H5 : Below wr.heap.size wr w5 := onB' (Below.refl wr.heap.size wr).drew hb5
           have qx := later' H5 x6
           have q1 := later' H5 p1
           have q2 := later' H5 p2
           have q3 := later' H5 p3
           have q4 := later' H5 p4
           have q5 := later' H5 p5
           have q6 := later' H5 p6
           have q7 := later' H5 p7
           have q8 := later' H5 p8
           have q9 := later' H5 p9
           clear hb5)
        | (go_at_call 19
           refine (without_any (frE body) qs (by omega) a5 c5 aq cq (fun _ => True) K w5 (own_row ho5 Br) (HE.out.1.below H5)).mono ?_
           rintro e w6 ⟨⟨v6, rfl, ho6⟩, hb6⟩
           obtain ⟨a6, c6, rfl, -⟩ := own_shape ho6
           have H6 : Below wr.heap.size wr w6 := onB' H5 hb6
           have rx := later' H6 x6
           have r1 := later' H6 p1
           have r2 := later' H6 p2
           have r3 := later' H6 p3
           have r4 := later' H6 p4
           have r5 := later' H6 p5
           have r6 := later' H6 p6
           have r7 := later' H6 p7
           have r8 := later' H6 p8
           have r9 := later' H6 p9
           clear hb6)
        | (go_at_call 18
           refine (djoin_any (frBs [] (bl.take j)) (wo (frE body) qs) (by omega) av cv a6 c6 (fun _ => True) (fun _ => True) w6 (own_row HR.out.1 H6) (own_row ho6 Br)).mono ?_
           rintro e w7 ⟨⟨v7, rfl, ho7⟩, hb7⟩
           obtain ⟨a7, c7, rfl, hl7⟩ := own_shape ho7
           have H7 : Below wr.heap.size wr w7 := onB' H6 hb7
           have hz67 := H6.size
           have tx' := later' H7 x6
           have t1 := later' H7 p1
           have t2 := later' H7 p2
           have t3 := later' H7 p3
           have t4 := later' H7 p4
           have t5 := later' H7 p5
           have t6 := later' H7 p6
           have t7 := later' H7 p7
           have t8 := later' H7 p8
           have t9 := later' H7 p9
           have t0 := later' H7 p0
           clear hb7))
    have one1 : ∀ u ∈ [Value.string (tx bn)], u.oneCell' = true := by intro u hu; simp at hu; rw [hu]; rfl
    have m9 : (bNames (bl.take j)).length + 1 ≤ maxLen := by unfold maxLen; omega
    have m8 : ((bNames (bl.take j)).length + 1) * 16 ≤ 140737488355328 := by omega
    have HA := Hd ((Below.refl w7.heap.size w7).alloc Nr (.cells #[.string (tx bn)] 9))
    have HO8 := Hd (own_below (own_below HR.out.2.1 H7) HA.out)
    have HO7 := Hd (own_below ho7 HA.out)
    have HL7 := Hd (Ai hl7 (Ai (own_lt ho7) (Ai hz67 H7)))
    have hz8 : W.heap.size ≤ (w7.alloc (.cells #[.string (tx bn)] 9)).heap.size := Nt (onB' HR.out.2.2.2.1 H7).size HA.out.size
    have hza : (w7.alloc (.cells #[.string (tx bn)] 9)).heap.size = w7.heap.size + 1 := by simp
    have HZa := Hd hza
    generalize hdd : (bNames (bl.take j)).length = N at *
    have HN := Hd hdd
    clear hdd hza ho7 hl7 hz67 p1 p2 p3 p4 p5 p6 p7 p8 p9 p0 x6 q1 q2 q3 q4 q5 q6 q7 q8 q9 qx r1 r2 r3 r4 r5 r6 r7 r8 r9 rx t1 t2 t3 t4 t5 t6 t7 t8 t9
    go_wp2_with (at_builtin; refine wpList_append_lies _ rfl _ _ 22 rfl W.heap.size 9 i0 (.string ⟨#[]⟩) 1 16 Try.underlying22 hi0 hz0 hzs hzb rfl (by decide) (.slice ao N co) N (namesV (bNames (bl.take j))) rfl HO8.out ⟨w7.heap.size, 0, none⟩ 1 1 [.string (tx bn)] rfl rfl (World.news_of_block (heap_alloc_new _ _)) one1 (by decide) m9 m8 hz8 _ rfl ?_; intro g9 cap9 w9 y1 y2 y3 y4)
    refine ⟨⟨j + 1, _, _, by omega, rfl, rfl, by go_num, ?_, ?_, ?_, ?_⟩, by simp [RowKit.intOf]; omega⟩
    · rw [HF.out]
      cases e' : (Value.slice a7 (dedup (frBs [] (bl.take j)) (wo (frE body) qs)).length c7).ownBlock with
      | none => exact World.ownsRow.kept (HO7.out.mono (Nt HR.out.2.2.2.1.size H6.size)) y2 (Or.inl e')
      | some g =>
        refine World.ownsRow.kept (HO7.out.mono (Nt HR.out.2.2.2.1.size H6.size)) y2 (Or.inr fun e => ?_)
        have h1 := HL7.out.1 g e'
        have h2 := own_lt HR.out.2.1 g (by rw [← e, e'])
        have := H6.size
        omega
    · rw [HF2.out, List.length_append, HN.out]
      simpa [namesV] using y1
    · intro g hg e
      have h1 := HL7.out.1 g hg
      have h2 := HL7.out.2.1 g hg
      have h3 := HZa.out
      have h4 := H6.size
      have e2 : g9 = g := Oi e
      rcases y3 with h | h
      · have := own_lt HR.out.2.1 g9 h
        omega
      · omega
    · have hx := onB' (onB' HR.out.2.2.2.1 H7) HA.out
      exact ⟨y2.os.trans hx.os, y2.tape.trans hx.tape, y2.output.trans hx.output, Nt hx.size y2.size, fun k hk => (y2.block k (Nat.lt_of_lt_of_le hk hx.size) (fun e => by have := HR.out.2.2.2.2.2 k e.symm; omega)).trans (hx.block k hk)⟩
  obtain rfl : j = bl.length := by omega
  rw [List.take_length] at HR HL1 ⊢
  go_wp2_with fail
  generalize hgO : frBs [] bl = O1 at *
  generalize hgB : bNames bl = NB at *
  have HGe := Hd (Ai hgO hgB)
  have hlB : NB.length ≤ bl.length := by rw [← hgB, bNames_len]; exact Nat.le_refl _
  have HLB := Hd hlB
  have HO2 := Hd (Ai (own_row HR.out.1 Br) (Ai (own_row HR.out.2.1 Br) HR.out.2.2.2.1))
  rename World => wz
  clear x6 hlen2 gj hj HR hgO hgB hlB
  go_loopw [3, 6] (fun s3 s6 wr => ∃ (j : Nat) (vv : Value), j ≤ ks.length ∧ vv = s3 ∧ s6 = .int .i64 j ∧ RowAt wr (fun _ => True) 9 1 vv (frEs O1 (ks.take j)).length (namesV (frEs O1 (ks.take j))) ∧ Below wz.heap.size wz wr) (fun _ s6 _ => ks.length - (RowKit.intOf s6).toNat)
  case atStart => exact ⟨0, _, Nat.zero_le _, rfl, rfl, by rw [List.take_zero, frEs_nil]; exact HO2.out.1, Below.refl _ _⟩
  case round =>
  obtain ⟨j, vv, hj, rfl, rfl, hov, hbr⟩ := hrel
  obtain ⟨av2, cv2, rfl⟩ := hov.sl
  have HL2 := Hd (frEs_len (ks.take j) O1)
  have HR := Hd (Ai hov (Ai hbr (onB' HO2.out.2.2 hbr)))
  clear hov hbr
  have x5 : wr.cell? ⟨w.heap.size, 5, none⟩ = some (.slice ak ks.length ck) := later' HR.out.2.2 (HX.out.2.1 5 _ rfl)
  by_cases gj : j < ks.length
  · have gj' : (j : Int) < (ks.length : Int) := by omega
    obtain ⟨k9, nm9, f9, u9, ap9, np9, cp9, ak9, nk9, ck9, ab9, nb9, cb9, aa9, na9, ca9, hE, hcs⟩ := HT.out.1.cells j gj
    obtain ⟨g1, o1, ea1, k1, m1', hgb, ht1⟩ := (HO.out.2.1.below HR.out.2.2).at (by omega)
    subst ea1
    have HPc := Hd (fun i v h => ht1 _ _ (hcs i v h))
    have HTk := Hd (show ks.take (j + 1) = ks.take j ++ [ks[j]] from List.take_succ_eq_append_getElem gj)
    have HF := Hd (show frEs O1 (ks.take (j + 1)) = dedup (frEs O1 (ks.take j)) (frE ks[j]) by rw [HTk.out, frEs_snoc])
    have hsm : wtEs (ks.take j) + wtE ks[j] ≤ sumN wtE ks := by
      have h2 : sumN wtE (ks.take (j + 1)) + sumN wtE (ks.drop (j + 1)) = sumN wtE ks := by rw [← sumN_app, List.take_append_drop]
      rw [HTk.out, sumN_app] at h2
      have h3 : sumN wtE [ks[j]] = wtE ks[j] := by simp only [sumN]; omega
      rw [wtEs_sum]
      omega
    have HS := Hd (Ai (hN.sk _ (List.getElem_mem gj)) (hN.wk _ (List.getElem_mem gj)))
    have HE := Hd (hE.move (K' := K) fun g hk lt => ⟨hk, HR.out.2.2.block g lt⟩)
    clear ht1 hcs hE HTk
    generalize ks[j] = body at *
    have hwb : wtE body ≤ 100000 := by omega
    have HC := Hd (hP body K wr k9 nm9 f9 u9 ap9 np9 cp9 ak9 nk9 ck9 ab9 nb9 cb9 aa9 na9 ca9 HS.out.1 HS.out.2 hwb HE.out)
    have hfl := frE_len body
    have hl2 := HL2.out
    have hl1 := HL1.out
    simp only [List.length_nil] at hl1
    rw [wtBs_sum, sumN_nB2] at hl1
    have p0 : wr.cell? ⟨g1, o1 + j * 8, none⟩ = some (.int .i64 k9) := HPc.out 0 _ rfl
    have p1 : wr.cell? ⟨g1, o1 + j * 8 + 1, none⟩ = some (.string (tx nm9)) := by rw [Nat.add_assoc]; exact HPc.out 1 _ rfl
    have p2 : wr.cell? ⟨g1, o1 + j * 8 + 2, none⟩ = some (.bool f9) := by rw [Nat.add_assoc]; exact HPc.out 2 _ rfl
    have p3 : wr.cell? ⟨g1, o1 + j * 8 + 3, none⟩ = some (.int .u64 u9) := by rw [Nat.add_assoc]; exact HPc.out 3 _ rfl
    have p4 : wr.cell? ⟨g1, o1 + j * 8 + 4, none⟩ = some (.slice ap9 np9 cp9) := by rw [Nat.add_assoc]; exact HPc.out 4 _ rfl
    have p5 : wr.cell? ⟨g1, o1 + j * 8 + 5, none⟩ = some (.slice ak9 nk9 ck9) := by rw [Nat.add_assoc]; exact HPc.out 5 _ rfl
    have p6 : wr.cell? ⟨g1, o1 + j * 8 + 6, none⟩ = some (.slice ab9 nb9 cb9) := by rw [Nat.add_assoc]; exact HPc.out 6 _ rfl
    have p7 : wr.cell? ⟨g1, o1 + j * 8 + 7, none⟩ = some (.slice aa9 na9 ca9) := by rw [Nat.add_assoc]; exact HPc.out 7 _ rfl
    have ej : IntKind.i64.wrap ((j : Int) + 1) = (j : Int) + 1 := by rw [IntKind.wrap_i64]; omega
    have b0 : (0 : Int) ≤ (j : Int) := by omega
    go_wp2_with fail
    refine HC.out.mono ?_
    rintro e w5 ⟨⟨v5, rfl, ho5⟩, hb5⟩
    obtain ⟨a5, c5, rfl, -⟩ := own_shape ho5
    have HJ := Hd (djoin_any (frEs O1 (ks.take j)) (frE body) (by omega) av2 cv2 a5 c5 (fun _ => True) (fun _ => True) w5 (HR.out.1.below hb5) (own_row ho5 Br))
    have HB5 := Hd (onB' HR.out.2.1 hb5)
    clear ho5 hb5 HC p0 p1 p2 p3 p4 p5 p6 p7 x5
    go_wp2_with fail
    refine HJ.out.mono ?_
    rintro e w6 ⟨⟨v6, rfl, ho6⟩, hb6⟩
    have H6 := Hd (Ai (own_row ho6 Br) (onB' HB5.out hb6))
    obtain ⟨a6, c6, rfl, -⟩ := own_shape ho6
    clear ho6 hb6 HJ
    go_wp2_with fail
    refine ⟨⟨j + 1, _, by omega, rfl, by go_num, ?_, H6.out.2⟩, by simp [RowKit.intOf]; omega⟩
    rw [HF.out]
    exact H6.out.1
  obtain rfl : j = ks.length := by omega
  rw [List.take_length] at HR HL2 ⊢
  go_wp2_with fail
  generalize hgO : frEs O1 ks = O2 at *
  have HGe2 := Hd hgO
  have HO3 := Hd (Ai HR.out.1 (Ai (HO2.out.2.1.below HR.out.2.1) HR.out.2.2))
  generalize wr = wy at *
  clear x5 gj hj HR hgO
  go_loopw [3, 7] (fun s3 s7 wr => ∃ (j : Nat) (vv : Value), j ≤ al.length ∧ vv = s3 ∧ s7 = .int .i64 j ∧ RowAt wr (fun _ => True) 9 1 vv (frAs O2 (al.take j)).length (namesV (frAs O2 (al.take j))) ∧ Below wy.heap.size wy wr) (fun _ s7 _ => al.length - (RowKit.intOf s7).toNat)
  case atStart => exact ⟨0, _, Nat.zero_le _, rfl, rfl, by rw [List.take_zero, frAs_nil]; exact HO3.out.1, Below.refl _ _⟩
  case round =>
  obtain ⟨j, vv, hj, rfl, rfl, hov, hbr⟩ := hrel
  obtain ⟨av3, cv3, rfl⟩ := hov.sl
  have HL3 := Hd (frAs_len (al.take j) O2)
  have HR := Hd (Ai hov (Ai hbr (onB' HO3.out.2.2 hbr)))
  clear hov hbr
  have x7 : wr.cell? ⟨w.heap.size, 7, none⟩ = some (.slice aa al.length ca) := later' HR.out.2.2 (HX.out.2.1 7 _ rfl)
  by_cases gj : j < al.length
  · have gj' : (j : Int) < (al.length : Int) := by omega
    obtain ⟨aq, cq, k9, nm9, f9, u9, ap9, np9, cp9, ak9, nk9, ck9, ab9, nb9, cb9, aa9, na9, ca9, hQ, hE, hcs⟩ := HT.out.2.2.cells j gj
    obtain ⟨g1, o1, ea1, k1, m1', hgb, ht1⟩ := (HO.out.2.2.2.below HR.out.2.2).at (by omega)
    subst ea1
    have HPc := Hd (fun i v h => ht1 _ _ (hcs i v h))
    have HTk := Hd (show al.take (j + 1) = al.take j ++ [al[j]] from List.take_succ_eq_append_getElem gj)
    have HF := Hd (show frAs O2 (al.take (j + 1)) = dedup (frAs O2 (al.take j)) (wo (frE al[j].2.2.2.2.2) (if al[j].1 = 2 then [al[j].2.1] else al[j].2.2.2.2.1)) by rw [HTk.out, frAs_snoc]; rfl)
    have hsm : wtAs (al.take j) + nA al[j] ≤ sumN nA al := by
      have h2 : sumN nA (al.take (j + 1)) + sumN nA (al.drop (j + 1)) = sumN nA al := by rw [← sumN_app, List.take_append_drop]
      rw [HTk.out, sumN_app] at h2
      have h3 : sumN nA [al[j]] = nA al[j] := by simp only [sumN]; omega
      rw [wtAs_sum]
      omega
    have HS := Hd (Ai (hN.sa _ (List.getElem_mem gj)) (hN.wa _ (List.getElem_mem gj)).2.2)
    have HE := Hd (Ai (hQ.below HR.out.2.2) (hE.move (K' := K) fun g hk lt => ⟨hk, HR.out.2.2.block g lt⟩))
    clear ht1 hcs hQ hE HTk
    obtain ⟨body, hbody⟩ : ∃ body, body = al[j].2.2.2.2.2 := ⟨_, rfl⟩
    obtain ⟨qs, hqs⟩ : ∃ qs, qs = al[j].2.2.2.2.1 := ⟨_, rfl⟩
    obtain ⟨an, han⟩ : ∃ an, an = al[j].2.1 := ⟨_, rfl⟩
    obtain ⟨kk, hkk⟩ : ∃ kk, kk = al[j].1 := ⟨_, rfl⟩
    have hnb : nA al[j] = 1 + qs.length + wtE body := by rw [hqs, hbody]
    rw [hnb] at hsm
    clear hnb
    rw [← hbody] at HE HF HS
    rw [← hqs] at HE HF HPc
    rw [← han] at HPc HF
    rw [← hkk] at HPc HF
    clear hbody hqs han hkk
    have hwb : wtE body ≤ 100000 := by omega
    have HC := Hd (fun (V : World) (hb : Below wr.heap.size wr V) => hP body K V k9 nm9 f9 u9 ap9 np9 cp9 ak9 nk9 ck9 ab9 nb9 cb9 aa9 na9 ca9 HS.out.1 HS.out.2 hwb (HE.out.2.move fun g hk lt => ⟨hk, hb.block g lt⟩))
    have hfl := frE_len body
    have hl3 := HL3.out
    have hl2 := HL2.out
    have hl1 := HL1.out
    simp only [List.length_nil] at hl1
    rw [wtBs_sum, sumN_nB2] at hl1
    rw [wtEs_sum] at hl2
    have p0 : wr.cell? ⟨g1, o1 + j * 13, none⟩ = some (.int .i64 kk) := HPc.out 0 _ rfl
    have p1 : wr.cell? ⟨g1, o1 + j * 13 + 1, none⟩ = some (.string (tx an)) := by rw [Nat.add_assoc]; exact HPc.out 1 _ rfl
    have p4 : wr.cell? ⟨g1, o1 + j * 13 + 4, none⟩ = some (.slice aq qs.length cq) := by rw [Nat.add_assoc]; exact HPc.out 4 _ rfl
    have p5 : wr.cell? ⟨g1, o1 + j * 13 + 5, none⟩ = some (.int .i64 k9) := by rw [Nat.add_assoc]; exact HPc.out 5 _ rfl
    have p6 : wr.cell? ⟨g1, o1 + j * 13 + 6, none⟩ = some (.string (tx nm9)) := by rw [Nat.add_assoc]; exact HPc.out 6 _ rfl
    have p7 : wr.cell? ⟨g1, o1 + j * 13 + 7, none⟩ = some (.bool f9) := by rw [Nat.add_assoc]; exact HPc.out 7 _ rfl
    have p8 : wr.cell? ⟨g1, o1 + j * 13 + 8, none⟩ = some (.int .u64 u9) := by rw [Nat.add_assoc]; exact HPc.out 8 _ rfl
    have p9 : wr.cell? ⟨g1, o1 + j * 13 + 9, none⟩ = some (.slice ap9 np9 cp9) := by rw [Nat.add_assoc]; exact HPc.out 9 _ rfl
    have p10 : wr.cell? ⟨g1, o1 + j * 13 + 10, none⟩ = some (.slice ak9 nk9 ck9) := by rw [Nat.add_assoc]; exact HPc.out 10 _ rfl
    have p11 : wr.cell? ⟨g1, o1 + j * 13 + 11, none⟩ = some (.slice ab9 nb9 cb9) := by rw [Nat.add_assoc]; exact HPc.out 11 _ rfl
    have p12 : wr.cell? ⟨g1, o1 + j * 13 + 12, none⟩ = some (.slice aa9 na9 ca9) := by rw [Nat.add_assoc]; exact HPc.out 12 _ rfl
    have ej : IntKind.i64.wrap ((j : Int) + 1) = (j : Int) + 1 := by rw [IntKind.wrap_i64]; omega
    have b0 : (0 : Int) ≤ (j : Int) := by omega
    by_cases g2 : kk = 2
    · subst g2
      rw [if_pos rfl] at HF
      have f2 : ((2 : Int) == 2) = true := rfl
      have HA := Hd ((Below.refl wr.heap.size wr).alloc Nr (.cells #[.string (tx an)] 9))
      have HRw := Hd (own_row (World.ownsRow_lit (base := 0) (e := 9) (size := 1) wr #[.string (tx an)] 1 (Nat.zero_le _) (by decide) rfl) Br)
      have q5 := later' HA.out p5
      have q6 := later' HA.out p6
      have q7 := later' HA.out p7
      have q8 := later' HA.out p8
      have q9 := later' HA.out p9
      have q10 := later' HA.out p10
      have q11 := later' HA.out p11
      have q12 := later' HA.out p12
      have y7 := later' HA.out x7
      go_wp2_with fail
      refine (HC.out (wr.alloc (.cells #[.string (tx an)] 9)) HA.out).mono ?_
      rintro e w5 ⟨⟨v5, rfl, ho5⟩, hb5⟩
      obtain ⟨a5, c5, rfl, -⟩ := own_shape ho5
      have HWo := Hd (without_any (frE body) [an] (by omega) a5 c5 (some ⟨wr.heap.size, 0, none⟩) 1 (fun _ => True) (fun _ => True) w5 (own_row ho5 Br) (HRw.out.below hb5))
      have HB5 := Hd (onB' HA.out hb5)
      clear ho5 hb5 f2
      go_wp2_with fail
      refine HWo.out.mono ?_
      rintro e w6 ⟨⟨v6, rfl, ho6⟩, hb6⟩
      obtain ⟨a6, c6, rfl, -⟩ := own_shape ho6
      have hwl := wo_len (frE body) [an]
      have HB6 := Hd (onB' HB5.out hb6)
      have HJ := Hd (djoin_any (frAs O2 (al.take j)) (wo (frE body) [an]) (by omega) av3 cv3 a6 c6 (fun _ => True) (fun _ => True) w6 (HR.out.1.below HB6.out) (own_row ho6 Br))
      clear ho6 hb6 HWo
      go_wp2_with fail
      refine HJ.out.mono ?_
      rintro e w7 ⟨⟨v7, rfl, ho7⟩, hb7⟩
      have H7 := Hd (Ai (own_row ho7 Br) (onB' HR.out.2.1 (onB' HB6.out hb7)))
      obtain ⟨a7, c7, rfl, -⟩ := own_shape ho7
      clear ho7 hb7 HJ
      go_wp2_with fail
      refine ⟨⟨j + 1, _, by omega, rfl, by go_num, ?_, H7.out.2⟩, by simp [RowKit.intOf]; omega⟩
      rw [HF.out]
      exact H7.out.1
    · rw [if_neg g2] at HF
      have f2 : (kk == 2) = false := by simpa using g2
      go_wp2_with fail
      refine (HC.out wr Br).mono ?_
      rintro e w5 ⟨⟨v5, rfl, ho5⟩, hb5⟩
      obtain ⟨a5, c5, rfl, -⟩ := own_shape ho5
      have HWo := Hd (without_any (frE body) qs (by omega) a5 c5 aq cq (fun _ => True) K w5 (own_row ho5 Br) (HE.out.1.below hb5))
      have HB5 := Hd (hb5)
      clear ho5 hb5 f2
      go_wp2_with fail
      refine HWo.out.mono ?_
      rintro e w6 ⟨⟨v6, rfl, ho6⟩, hb6⟩
      obtain ⟨a6, c6, rfl, -⟩ := own_shape ho6
      have hwl := wo_len (frE body) qs
      have HB6 := Hd (onB' HB5.out hb6)
      have HJ := Hd (djoin_any (frAs O2 (al.take j)) (wo (frE body) qs) (by omega) av3 cv3 a6 c6 (fun _ => True) (fun _ => True) w6 (HR.out.1.below HB6.out) (own_row ho6 Br))
      clear ho6 hb6 HWo
      go_wp2_with fail
      refine HJ.out.mono ?_
      rintro e w7 ⟨⟨v7, rfl, ho7⟩, hb7⟩
      have H7 := Hd (Ai (own_row ho7 Br) (onB' HR.out.2.1 (onB' HB6.out hb7)))
      obtain ⟨a7, c7, rfl, -⟩ := own_shape ho7
      clear ho7 hb7 HJ
      go_wp2_with fail
      refine ⟨⟨j + 1, _, by omega, rfl, by go_num, ?_, H7.out.2⟩, by simp [RowKit.intOf]; omega⟩
      rw [HF.out]
      exact H7.out.1
  obtain rfl : j = al.length := by omega
  rw [List.take_length] at HR HL3 ⊢
  have x4 : wr.cell? ⟨w.heap.size, 4, none⟩ = some (.slice ap ps.length cp) := later' HR.out.2.2 (HX.out.2.1 4 _ rfl)
  generalize hgO : frAs O2 al = O3 at *
  have hl3 := HL3.out
  have hl2 := HL2.out
  have hl1 := HL1.out
  simp only [List.length_nil] at hl1
  rw [wtBs_sum, sumN_nB2] at hl1
  rw [wtEs_sum] at hl2
  rw [wtAs_sum] at hl3
  have hO3 : O3.length ≤ 100000 := by omega
  have hO3b := wo_len O3 NB
  have hO3c : (wo O3 NB).length ≤ 1000000 := by omega
  have HGO := Hd (show frAs (frEs (frBs [] bl) ks) al = O3 ∧ bNames bl = NB by rw [HGe.out.1, HGe2.out]; exact ⟨hgO, HGe.out.2⟩)
  have HW1 := Hd (fun (V : World) (hb : Below wr.heap.size wr V) => without_any O3 NB (by omega) av3 cv3 ao co (fun _ => True) (fun _ => True) V (HR.out.1.below hb) ((HO3.out.2.1.below HR.out.2.1).below hb))
  have HB0 := Hd (onB' HX.out.1 HR.out.2.2)
  have HPs := Hd (HO.out.1.below HR.out.2.2)
  clear hl1 hl2 hl3 hgO
  go_wp2_with fail
  go_region_held3 (fun W' => W'.cell? ⟨w.heap.size, 4, none⟩ = some (.slice ap ps.length cp)) (first | exact r4 | exact q4 | exact x4 | go_keep) (first
        | (revert ho5
           intro ho5
           go_at_call 19
           refine (without_any (wo O3 NB) ps hO3c a5 c5 ap cp (fun _ => True) K w5 (own_row ho5 Br) (HPs.out.below H5)).mono ?_
           rintro e w6 ⟨⟨v6, rfl, ho6⟩, hb6⟩
           obtain ⟨a6, c6, rfl, -⟩ := own_shape ho6
           have H6 : Below wr.heap.size wr w6 := onB' H5 hb6
           have hz56 := (onB' HB0.out H5).size
           have r4 := later' H6 x4
           clear hb6)
        | (go_at_call 19
           refine (HW1.out _ ?hb).mono ?_
           case hb => exact Br.drew
           rintro e w5 ⟨⟨v5, rfl, ho5⟩, hb5⟩
           obtain ⟨a5, c5, rfl, -⟩ := own_shape ho5
           have H5 : Below wr.heap.size wr w5 := onB' (Below.refl wr.heap.size wr).drew hb5
           have q4 := later' H5 x4
           clear hb5))
  all_goals go_wp2_with fail
  all_goals go_ret
  all_goals exact ⟨⟨_, rfl, by rw [HGO.out.1, HGO.out.2]; exact ho6.mono hz56⟩, onB' HB0.out H6⟩
theorem dfree_all : ∀ n, DFreeC n
  | 0 => fun x K w k nm f u ap np cp ak nk ck ab nb cb aa na ca hz => by cases x; simp at hz
  | n + 1 => dfree_step n (dfree_all n)
theorem texts_same (l : List Nm) (a1 : Option Addr) (c1 : Nat) (a2 : Option Addr) (c2 : Nat) (K1 K2 : Nat → Prop) (w : World) (h1 : RowAt w K1 9 1 (.slice a1 l.length c1) l.length (namesV l)) (h2 : RowAt w K2 9 1 (.slice a2 l.length c2) l.length (namesV l)) :
    Calls Try.prog 10 #[.slice a1 l.length c1, .slice a2 l.length c2] w fun e w' => e = .returned (.bool true) ∧ Below w.heap.size w w' := by
  have h := texts_any l l a1 c1 a2 c2 K1 K2 w h1 h2
  rwa [decide_eq_true rfl] at h
theorem dbody_any (x : Ex) (hx : wfE x) (hn : wtE x ≤ 100000) (ps : List Nm) (a0 : Option Addr) (c0 : Nat) (k : Int) (nm : Nm) (f : Bool) (u : Int) (ap : Option Addr) (np cp : Nat) (ak : Option Addr) (nk ck : Nat) (ab : Option Addr) (nb cb : Nat) (aa : Option Addr) (na ca : Nat) (K K2 : Nat → Prop) (w : World) (hr : RowAt w K 9 1 (.slice a0 ps.length c0) ps.length (namesV ps)) (ht : ExAt w K2 x [.int .i64 k, .string (tx nm), .bool f, .int .u64 u, .slice ap np cp, .slice ak nk ck, .slice ab nb cb, .slice aa na ca]) :
    Calls Try.prog 14 #[.slice a0 ps.length c0, .agg #[.int .i64 k, .string (tx nm), .bool f, .int .u64 u, .slice ap np cp, .slice ak nk ck, .slice ab nb cb, .slice aa na ca]] w fun e w' => (∃ v, e = .returned v ∧ w'.ownsRow w.heap.size 9 1 v (bodyL ps x).length (namesV (bodyL ps x))) ∧ Below w.heap.size w w' := by
  have hx1 := (Below.refl w.heap.size w).alloc Nr (.cells #[.int .i64 k, .string (tx nm), .bool f, .int .u64 u, .slice ap np cp, .slice ak nk ck, .slice ab nb cb, .slice aa na ca] 34)
  have HF := Hd (dfree_all (SizeOf.sizeOf x) x (fun _ => True) _ k nm f u ap np cp ak nk ck ab nb cb aa na ca Nr (wvE_of x hx) hn (ht.move (K' := fun _ => True) fun g hk lt => ⟨trivial, hx1.block g lt⟩))
  have HB := Hd (bodyL_fr hx ps)
  have HR := Hd (hr.below hx1)
  have HX := Hd hx1
  have hfl := frE_len x
  clear hx1 ht hr
  generalize frE x = F at *
  go_enter Try.func14, Try.ntmps14
  go_wp2_with fail
  refine HF.out.mono ?_
  rintro e w2 ⟨⟨v, rfl, ho⟩, hb⟩
  obtain ⟨a2, c2, rfl, -⟩ := own_shape ho
  have HW := Hd (without_any F ps (by omega) a2 c2 a0 c0 (fun _ => True) K w2 (own_row ho Br) (HR.out.below hb))
  have H2 := Hd (onB' HX.out hb)
  clear ho hb HF
  go_wp2_with fail
  refine HW.out.mono ?_
  rintro e w3 ⟨⟨v3, rfl, ho3⟩, hb3⟩
  have H3 := Hd (Ai (ho3.mono H2.out.size) (onB' H2.out hb3))
  clear ho3 hb3 HW
  go_wp2_with fail
  go_ret
  rw [← HB.out]
  exact ⟨⟨v3, rfl, H3.out.1⟩, H3.out.2⟩
theorem vtell_walk (s : ByteArray) (names : List Nm) (hnm : ∀ y, y ∈ names → y.length ≤ 140737488355328) (a0 : Option Addr) (c0 : Nat) (w : World) (hr0 : RowAt w (fun _ => True) 9 1 (.slice a0 names.length c0) names.length (namesV names)) :
    Calls Try.prog 3 #[.string s, .slice a0 names.length c0] w fun e w' => e = .returned (.bool true) ∧ Below w.heap.size w w' := by
  have HN0 := Hd hr0
  have hmn := hr0.cap
  unfold maxLen at hmn
  clear hr0
  go_enter Try.func3, Try.ntmps3
  go_wp2_with fail
  refine (vawake_any w).mono ?_
  rintro e w1 ⟨rfl, hb⟩
  have H1 := Hd hb
  clear hb
  by_cases g3 : 3000 < s.size
  · have f3 : decide ((3000 : Int) < (s.size : Int)) = true := decide_eq_true (by omega)
    go_wp2_with fail
    go_ret
    exact ⟨rfl, H1.out⟩
  have f3 : decide ((3000 : Int) < (s.size : Int)) = false := decide_eq_false (by omega)
  by_cases g4 : 30 < names.length
  · have f4 : decide ((30 : Int) < (names.length : Int)) = true := decide_eq_true (by omega)
    go_wp2_with fail
    go_ret
    exact ⟨rfl, H1.out⟩
  have f4 : decide ((30 : Int) < (names.length : Int)) = false := decide_eq_false (by omega)
  have HP := Hd (law_told s (by omega) w1)
  have hsl : s.data.toList.length ≤ 100000 := by
    have := size_eq s
    omega
  go_wp2_with fail
  clear f3 f4
  refine HP.out.mono ?_
  rintro e w2 ⟨⟨ab, cb, cs, rfl, hr, hbd⟩, hbl⟩
  have hok := bindsL_ok hsl
  have hle := bindsL_le (l := s.data.toList)
  generalize bindsL s.data.toList = L at *
  have hmx := hr.cap
  unfold maxLen at hmx
  have HV := Hd (Ai hr (Ai hbd (Ai (onB' H1.out hbl) hok.1)))
  clear hr hbd hbl hok HP hsl
  go_wp2_with fail
  go_loopw [6] (fun s6 wr => ∃ j : Nat, j ≤ L.length ∧ s6 = .int .i64 j ∧ Below w2.heap.size w2 wr) (fun s6 _ => L.length - (RowKit.intOf s6).toNat)
  case atStart => exact ⟨0, Nat.zero_le _, rfl, Below.refl _ _⟩
  case round =>
    obtain ⟨j, hj, rfl, hbr⟩ := hrel
    have HR := Hd hbr
    clear hbr
    by_cases gj : j < L.length
    · have gj' : (j : Int) < (L.length : Int) := by omega
      obtain ⟨aq, cq, k, nm, f, u, ap, np, cp, ak, nk, ck, ab', nb, cb', aa, na, ca, hQ, hE, hc⟩ := HV.out.2.1.cells j gj
      obtain ⟨g1, o1, ea1, k1, m1', -, ht1⟩ := HV.out.1.at (by omega)
      subst ea1
      have HPc := Hd (fun i v h => ht1 _ _ (hc i v h))
      have hwB : Nms L[j].2.1 ∧ wfE L[j].2.2 := (HV.out.2.2.2 L[j] (List.getElem_mem gj)).2
      have hnB : wtE L[j].2.2 + L[j].2.1.length ≤ 4096 := by
        have := sumN_mem nB (List.getElem_mem gj)
        unfold nB at this hle
        omega
      obtain ⟨x, hxx⟩ : ∃ x, x = L[j].2.2 := ⟨_, rfl⟩
      obtain ⟨qs, hqs⟩ : ∃ qs, qs = L[j].2.1 := ⟨_, rfl⟩
      rw [← hxx] at hE hwB hnB
      rw [← hqs] at hQ hc HPc hwB hnB
      clear hxx hqs
      have HX := Hd (Ai hwB.2 (Ai (nmv_len hwB.1.v) (Ai (hE.move (K' := fun _ => True) fun g hk lt => ⟨trivial, HR.out.block g lt⟩) (Ai (hQ.below HR.out) (HN0.out.below (onB' HV.out.2.2.1 HR.out))))))
      clear ht1 hc hE hQ hwB
      have p1 : wr.cell? ⟨g1, o1 + j * 10 + 1, none⟩ = some (.slice aq qs.length cq) := by rw [Nat.add_assoc]; exact later' HR.out (HPc.out 1 _ rfl)
      have p2 : wr.cell? ⟨g1, o1 + j * 10 + 2, none⟩ = some (.int .i64 k) := by rw [Nat.add_assoc]; exact later' HR.out (HPc.out 2 _ rfl)
      have p3 : wr.cell? ⟨g1, o1 + j * 10 + 3, none⟩ = some (.string (tx nm)) := by rw [Nat.add_assoc]; exact later' HR.out (HPc.out 3 _ rfl)
      have p4 : wr.cell? ⟨g1, o1 + j * 10 + 4, none⟩ = some (.bool f) := by rw [Nat.add_assoc]; exact later' HR.out (HPc.out 4 _ rfl)
      have p5 : wr.cell? ⟨g1, o1 + j * 10 + 5, none⟩ = some (.int .u64 u) := by rw [Nat.add_assoc]; exact later' HR.out (HPc.out 5 _ rfl)
      have p6 : wr.cell? ⟨g1, o1 + j * 10 + 6, none⟩ = some (.slice ap np cp) := by rw [Nat.add_assoc]; exact later' HR.out (HPc.out 6 _ rfl)
      have p7 : wr.cell? ⟨g1, o1 + j * 10 + 7, none⟩ = some (.slice ak nk ck) := by rw [Nat.add_assoc]; exact later' HR.out (HPc.out 7 _ rfl)
      have p8 : wr.cell? ⟨g1, o1 + j * 10 + 8, none⟩ = some (.slice ab' nb cb') := by rw [Nat.add_assoc]; exact later' HR.out (HPc.out 8 _ rfl)
      have p9 : wr.cell? ⟨g1, o1 + j * 10 + 9, none⟩ = some (.slice aa na ca) := by rw [Nat.add_assoc]; exact later' HR.out (HPc.out 9 _ rfl)
      have ej : IntKind.i64.wrap ((j : Int) + 1) = (j : Int) + 1 := by rw [IntKind.wrap_i64]; omega
      have b0 : (0 : Int) ≤ (j : Int) := by omega
      have HS := Hd (show ∀ W', Below wr.heap.size wr W' → (W'.cell? ⟨g1, o1 + j * 10 + 1, none⟩ = some (.slice aq qs.length cq) ∧ W'.cell? ⟨g1, o1 + j * 10 + 2, none⟩ = some (.int .i64 k) ∧ W'.cell? ⟨g1, o1 + j * 10 + 3, none⟩ = some (.string (tx nm)) ∧ W'.cell? ⟨g1, o1 + j * 10 + 4, none⟩ = some (.bool f) ∧ W'.cell? ⟨g1, o1 + j * 10 + 5, none⟩ = some (.int .u64 u) ∧ W'.cell? ⟨g1, o1 + j * 10 + 6, none⟩ = some (.slice ap np cp) ∧ W'.cell? ⟨g1, o1 + j * 10 + 7, none⟩ = some (.slice ak nk ck) ∧ W'.cell? ⟨g1, o1 + j * 10 + 8, none⟩ = some (.slice ab' nb cb') ∧ W'.cell? ⟨g1, o1 + j * 10 + 9, none⟩ = some (.slice aa na ca)) from fun W' h => ⟨later' h p1, later' h p2, later' h p3, later' h p4, later' h p5, later' h p6, later' h p7, later' h p8, later' h p9⟩)
      have hwt1 : wtE x ≤ 100000 := by omega
      have hwt2 : qs.length + wtE x ≤ 100000 := by omega
      have hwt3 : names.length + wtE x ≤ 100000 := by omega
      have HFr := Hd (fun (V : World) (hb : Below wr.heap.size wr V) => vfree_said x (wvE_of x HX.out.1) hwt1 k nm f u ap np cp ak nk ck ab' nb cb' aa na ca (fun _ => True) V (HX.out.2.2.1.move fun g hk lt => ⟨hk, hb.block g lt⟩))
      have HDf := Hd (fun (V : World) (hb : Below wr.heap.size wr V) => dfree_all (SizeOf.sizeOf x) x (fun _ => True) V k nm f u ap np cp ak nk ck ab' nb cb' aa na ca Nr (wvE_of x HX.out.1) hwt1 (HX.out.2.2.1.move fun g hk lt => ⟨hk, hb.block g lt⟩))
      rw [freeL_fr HX.out.1] at HDf
      have HB1 := Hd (fun (V : World) (hb : Below wr.heap.size wr V) => vbody_said qs x HX.out.2.1 (wvE_of x HX.out.1) hwt2 aq cq k nm f u ap np cp ak nk ck ab' nb cb' aa na ca (fun g => g < w2.heap.size) (fun _ => True) V (HX.out.2.2.2.1.below hb) (HX.out.2.2.1.move fun g hk lt => ⟨hk, hb.block g lt⟩))
      have HD1 := Hd (fun (V : World) (hb : Below wr.heap.size wr V) => dbody_any x HX.out.1 hwt1 qs aq cq k nm f u ap np cp ak nk ck ab' nb cb' aa na ca (fun g => g < w2.heap.size) (fun _ => True) V (HX.out.2.2.2.1.below hb) (HX.out.2.2.1.move fun g hk lt => ⟨hk, hb.block g lt⟩))
      have HB2 := Hd (fun (V : World) (hb : Below wr.heap.size wr V) => vbody_said names x hnm (wvE_of x HX.out.1) hwt3 a0 c0 k nm f u ap np cp ak nk ck ab' nb cb' aa na ca (fun _ => True) (fun _ => True) V (HX.out.2.2.2.2.below hb) (HX.out.2.2.1.move fun g hk lt => ⟨hk, hb.block g lt⟩))
      have HD2 := Hd (fun (V : World) (hb : Below wr.heap.size wr V) => dbody_any x HX.out.1 hwt1 names a0 c0 k nm f u ap np cp ak nk ck ab' nb cb' aa na ca (fun _ => True) (fun _ => True) V (HX.out.2.2.2.2.below hb) (HX.out.2.2.1.move fun g hk lt => ⟨hk, hb.block g lt⟩))
      generalize bodyL [] x = F at *
      generalize bodyL qs x = FB at *
      generalize bodyL names x = FN at *
      go_wp2_with fail
      go_region_held3 (fun W' => W'.cell? ⟨g1, o1 + j * 10 + 1, none⟩ = some (.slice aq qs.length cq) ∧ W'.cell? ⟨g1, o1 + j * 10 + 2, none⟩ = some (.int .i64 k) ∧ W'.cell? ⟨g1, o1 + j * 10 + 3, none⟩ = some (.string (tx nm)) ∧ W'.cell? ⟨g1, o1 + j * 10 + 4, none⟩ = some (.bool f) ∧ W'.cell? ⟨g1, o1 + j * 10 + 5, none⟩ = some (.int .u64 u) ∧ W'.cell? ⟨g1, o1 + j * 10 + 6, none⟩ = some (.slice ap np cp) ∧ W'.cell? ⟨g1, o1 + j * 10 + 7, none⟩ = some (.slice ak nk ck) ∧ W'.cell? ⟨g1, o1 + j * 10 + 8, none⟩ = some (.slice ab' nb cb') ∧ W'.cell? ⟨g1, o1 + j * 10 + 9, none⟩ = some (.slice aa na ca)) (first | exact HS.out _ H19 | exact HS.out _ H18 | exact HS.out _ H17 | exact HS.out _ H16 | exact HS.out _ H15 | exact HS.out _ H14 | exact HS.out _ H13 | exact HS.out _ H12 | exact HS.out _ H11 | exact HS.out _ Br | go_keep) (first
        | (revert hk18
           intro hk18
           go_at_call 10
           refine (texts_same FN _ _ _ _ (fun _ => True) (fun _ => True) w18 hk18 hr18).mono ?_
           rintro e w19 ⟨rfl, hb19⟩
           have H19 : Below wr.heap.size wr w19 := onB' H18 hb19
           clear hb19)
        | (revert hr17
           intro hr17
           go_at_call 14
           refine (HD2.out _ H17).mono ?_
           rintro e w18 ⟨⟨v18, rfl, ho18⟩, hb18⟩
           obtain ⟨a18, c18, rfl, -⟩ := own_shape ho18
           have H18 : Below wr.heap.size wr w18 := onB' H17 hb18
           have hr18 := own_row ho18 Br
           have hk18 := hr17.below hb18
           clear hb18 ho18)
        | (revert H16
           intro H16
           go_at_call 13
           refine (HB2.out _ H16).mono ?_
           rintro e w17 ⟨⟨v17, rfl, ho17⟩, hb17⟩
           obtain ⟨a17, c17, rfl, -⟩ := own_shape ho17
           have H17 : Below wr.heap.size wr w17 := onB' H16 hb17
           have hr17 := own_row ho17 Br
           clear hb17 ho17)
        | (revert hk15
           intro hk15
           go_at_call 10
           refine (texts_same FB _ _ _ _ (fun _ => True) (fun _ => True) w15 hk15 hr15).mono ?_
           rintro e w16 ⟨rfl, hb16⟩
           have H16 : Below wr.heap.size wr w16 := onB' H15 hb16
           clear hb16)
        | (revert hr14
           intro hr14
           go_at_call 14
           refine (HD1.out _ H14).mono ?_
           rintro e w15 ⟨⟨v15, rfl, ho15⟩, hb15⟩
           obtain ⟨a15, c15, rfl, -⟩ := own_shape ho15
           have H15 : Below wr.heap.size wr w15 := onB' H14 hb15
           have hr15 := own_row ho15 Br
           have hk15 := hr14.below hb15
           clear hb15 ho15)
        | (revert H13
           intro H13
           go_at_call 13
           refine (HB1.out _ H13).mono ?_
           rintro e w14 ⟨⟨v14, rfl, ho14⟩, hb14⟩
           obtain ⟨a14, c14, rfl, -⟩ := own_shape ho14
           have H14 : Below wr.heap.size wr w14 := onB' H13 hb14
           have hr14 := own_row ho14 Br
           clear hb14 ho14)
        | (revert hk12
           intro hk12
           go_at_call 10
           refine (texts_same F _ _ _ _ (fun _ => True) (fun _ => True) w12 hk12 hr12).mono ?_
           rintro e w13 ⟨rfl, hb13⟩
           have H13 : Below wr.heap.size wr w13 := onB' H12 hb13
           clear hb13)
        | (revert hr11
           intro hr11
           go_at_call 12
           refine (HDf.out _ H11).mono ?_
           rintro e w12 ⟨⟨v12, rfl, ho12⟩, hb12⟩
           obtain ⟨a12, c12, rfl, -⟩ := own_shape ho12
           have H12 : Below wr.heap.size wr w12 := onB' H11 hb12
           have hr12 := own_row ho12 Br
           have hk12 := hr11.below hb12
           clear hb12 ho12)
        | (go_at_call 11
           refine (HFr.out _ (by exact Br.drew)).mono ?_
           rintro e w11 ⟨⟨v11, rfl, ho11⟩, hb11⟩
           obtain ⟨a11, c11, rfl, -⟩ := own_shape ho11
           have H11 : Below wr.heap.size wr w11 := onB' (Below.refl wr.heap.size wr).drew hb11
           have hr11 := own_row ho11 Br
           clear hb11 ho11))
      all_goals go_wp2_with fail
      all_goals exact ⟨⟨j + 1, by omega, by go_num, onB' HR.out H19⟩, by simp [RowKit.intOf]; omega⟩
    · obtain rfl : j = L.length := by omega
      go_wp2_with fail
      go_ret
      exact ⟨rfl, onB' HV.out.2.2.1 HR.out⟩
theorem addr_at (g o j : Nat) : (⟨g, o, none⟩ : Addr).add j = ⟨g, o + j, none⟩ := by
  unfold Addr.add
  split <;> simp_all
theorem tx_of (s : ByteArray) : tx s.data.toList = s := by cases s; simp [tx]
open Go.ChangeShapes Go.WideShapes in
theorem weights_strs {P : Program} {e : TypeId} {H : Type} (ss : List ByteArray) : ∀ s, s ∈ ss → s.data.toList.length ∈ DataW.weightsAll P e (strs (H := H) ss) := by
  induction ss with
  | nil => intro s hs; cases hs
  | cons a r ih =>
    intro s hs
    show _ ∈ DataW.weights P e (.lit (.string a.data.toList)) ++ DataW.weightsAll P e (strs r)
    rcases List.mem_cons.1 hs with rfl | hs
    · exact List.mem_append.2 (Or.inl (by simp [DataW.weights]))
    · exact List.mem_append.2 (Or.inr (ih s hs))
open Go.ChangeShapes Go.WideShapes in
theorem names_of {H : Type} {enc : TypeId × Value → H} {w : World} {base b2 : Nat} {spare : Nat → Bool} {held : Bool} {fuel : Nat} {a0 : Option Addr} {len cap : Nat} {d : DataW H} {ps : List MemPlace}
    (h : DataW.trod enc Try.prog w base spare held fuel 22 [.slice a0 len cap] = some (d, ps)) (hok : Value.okWide Try.prog w .any b2 22 (.slice a0 len cap)) :
    ∃ names : List Nm, names.length = len ∧ RowAt w (fun _ => True) 9 1 (.slice a0 len cap) len (namesV names) ∧ ∀ y, y ∈ names → y.length ∈ DataW.weights Try.prog 22 d := by
  rcases open_strings Try.underlying22 Try.underlying9 (by kernel_rfl) h with ⟨hcs, hx⟩ | ⟨a, len', cap', ss, hcs, _, hl, hm, hz, hx, hcell, hsz⟩
  · simp at hcs
    obtain ⟨rfl, rfl, rfl⟩ := hcs
    exact ⟨[], rfl, row_none _ _ _ _, fun y hy => by cases hy⟩
  · simp at hcs
    obtain ⟨rfl, rfl, rfl⟩ := hcs
    have hle : len ≤ ss.length := by rw [hz]; split <;> omega
    have hk : w.has Try.prog .any b2 a 9 cap := by
      have hu : Try.prog.underlying 22 = some (.slice 9) := Try.underlying22
      simp only [Value.okWide, hu, Cell.okWide, Cell.ok] at hok
      exact hok.2.2
    obtain ⟨-, hspot, row, cells, hsh, -⟩ := hk
    obtain ⟨g, o, sp⟩ := a
    have hs : sp = none := hspot
    subst hs
    have hblk : ∃ cur, w.heap[g]? = some cur := by
      unfold World.shape? at hsh
      split at hsh
      · exact ⟨_, by assumption⟩
      · cases hsh
    obtain ⟨cur, hcur⟩ := hblk
    simp only [Prod.mk.injEq] at hx
    obtain ⟨rfl, -⟩ := hx
    refine ⟨(ss.take len).map (fun s => s.data.toList), by rw [List.length_map, List.length_take]; omega, ⟨by simp [namesV]; omega, Or.inr ⟨g, o, cap, cur, rfl, trivial, hcur, hl, hm, fun j u hj => ?_⟩⟩, fun y hy => ?_⟩
    · simp only [namesV, List.map_map, List.getElem?_map, List.getElem?_take] at hj
      split at hj
      · rename_i hjl
        have hc := hcell j (by omega)
        rw [addr_at] at hc
        rw [hc]
        rw [List.getElem?_eq_getElem (by omega)] at hj
        simp only [Option.map_some, Function.comp, Option.some.injEq] at hj
        rw [← hj, tx_of, List.getD, List.getElem?_eq_getElem (by omega)]
        rfl
      · cases hj
    · obtain ⟨s, hs, rfl⟩ := List.mem_map.1 hy
      have hu : Try.prog.underlying 22 = some (.slice 9) := Try.underlying22
      simp only [DataW.weights, hu]
      exact List.mem_cons_of_mem _ (List.mem_append.2 (Or.inl (weights_strs _ s hs)))
end Go.Proofs.Ytdjcdecbmeickaa
