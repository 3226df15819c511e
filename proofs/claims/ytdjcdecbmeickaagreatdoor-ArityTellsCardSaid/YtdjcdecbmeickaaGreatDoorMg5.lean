import Derived.Deep.AppendLies
import Derived.Test.YtdjcdecbmeickaaGreatDoorMg2
import Derived.Test.YtdjcdecbmeickaaGreatDoorMg3
import Derived.Test.YtdjcdecbmeickaaGreatDoorMg4
namespace Go.Proofs.YtdjcdecbmeickaaGreatDoor
set_option maxHeartbeats 64000000
set_option maxRecDepth 100000
open Go.RowKit Go.Lib
def WithSaid (cnt : Nat) (dom l : List Nm) (e : Ending) (w' : World) : Prop :=
  match twF l with
  | some f => e = .returned (.tuple #[.map none, vErr (some f)])
  | none => ∃ b, e = .returned (.tuple #[.map (some b), .nilIface]) ∧ NSet w' b (cnt + l.length) (dom ++ l)
theorem RowAt.low {W W' : World} {K : Nat → Prop} {e : TypeId} {size : Nat} {v : Value} {n : Nat} {xs : List Value} (h : RowAt W K e size v n xs) (hb : Below W.heap.size W W') : RowAt W' (fun g => g < W.heap.size) e size v n xs :=
  h.move fun g _ lt => ⟨lt, hb.block g lt⟩
theorem below_of_new {w w1 w2 : World} {m : Nat} (hb : Below w.heap.size w w1) (hg : w1.grownBy w2 (some m)) (hm : w.heap.size ≤ m) : Below w.heap.size w w2 :=
  ⟨hg.os.trans hb.os, hg.tape.trans hb.tape, hg.output.trans hb.output, Nt hb.size hg.size, fun k hk => (hg.block k (Nat.lt_of_lt_of_le hk hb.size) (fun e => by have e' : k = m := Oi e; omega)).trans (hb.block k hk)⟩
theorem with_any (bm cnt : Nat) (dom l : List Nm) (hl : ∀ x, x ∈ l → x.length ≤ 100000) (hn : cnt + l.length ≤ 100000) (a : Option Addr) (c : Nat) (K : Nat → Prop) (w : World) (hs : NSet w bm cnt dom) (hr : RowAt w K 9 1 (.slice a l.length c) l.length (namesV l)) :
    Calls Tryz.prog 58 #[.map (some bm), .slice a l.length c] w fun e w' => WithSaid cnt dom l e w' ∧ Below w.heap.size w w' := by
  have HO := Hd hr
  have HS := Hd hs
  have HL := Hd hl
  have hmx := hr.cap
  unfold maxLen at hmx
  clear hr hs hl
  go_enter Tryz.func58, Tryz.ntmps58
  go_wp2_with fail
  refine (repeated_any w).mono ?_
  rintro e w1 ⟨rfl, hw1⟩
  have hb1 : Below w.heap.size w w1 := by
    rw [hw1]
    exact ((Below.refl w.heap.size w).alloc Nr _).alloc (by simp) _
  have hk1 : w1.cell? ⟨w.heap.size + 1, 0, none⟩ = some (.map (some w.heap.size)) := by rw [hw1]; simp
  have hm1 : NSet w1 w.heap.size 0 [] := by
    rw [hw1]
    exact (nset_made w).later (Br.alloc Nr _)
  have H1 := Hd (first_rep l (by omega) HL.out (w.heap.size + 1) w.heap.size a c (fun g => g < w.heap.size) (fun g hg => by omega) (by omega) w1 (HO.out.low hb1) hk1 hm1)
  have HB1 := Hd hb1
  clear hw1 hb1 hk1 hm1
  go_wp2_with fail
  refine H1.out.mono ?_
  rintro e w2 ⟨rfl, hg2⟩
  have HB2 := Hd (below_of_new HB1.out hg2 Nr)
  clear hg2 H1
  cases htw : twF l with
  | some f =>
    have HE := Hd htw
    obtain ⟨er, nm⟩ := f
    unfold vErr
    clear htw
    go_wp2_with fail
    go_ret2
    refine ⟨?_, HB2.out⟩
    unfold WithSaid
    rw [HE.out]
    rfl
  | none =>
    have HE := Hd htw
    clear htw
    unfold vErr
    have HC := Hd (clone_set bm cnt dom w2 (HS.out.later HB2.out))
    go_wp2_with fail
    refine HC.out.mono ?_
    rintro e w3 ⟨rfl, hs3, hb3⟩
    have hlt3 := hs3.lt
    have H3 := Hd (Ai hs3 hb3)
    have hz2 := HB2.out.size
    generalize hbq : w2.heap.size = B at *
    clear HC hs3 hb3
    go_wp2_with fail
    have HW3 := Hd (show Below w.heap.size w w3 from ⟨H3.out.2.os.trans HB2.out.os, H3.out.2.tape.trans HB2.out.tape, H3.out.2.output.trans HB2.out.output, by omega, fun k hk => (H3.out.2.block k (by omega)).trans (HB2.out.block k hk)⟩)
    clear hbq
    go_loopw [20] (fun s wr => ∃ j : Nat, j ≤ l.length ∧ s = .int .i64 j ∧ NSet wr B (cnt + j) (dom ++ l.take j) ∧ w3.grownBy wr (some B)) (fun s _ => l.length - (RowKit.intOf s).toNat)
    case atStart => exact ⟨0, Nat.zero_le _, rfl, by rw [List.take_zero, List.append_nil]; exact H3.out.1, grown_of Br⟩
    case round =>
      obtain ⟨j, hj, rfl, hs1, hg⟩ := hrel
      have HR := Hd (Ai hs1 (below_of_new HW3.out hg hz2))
      have HG := Hd hg
      clear hs1 hg
      by_cases gj : j < l.length
      · have gj' : (j : Int) < (l.length : Int) := by omega
        obtain ⟨g1, o1, ea1, k1, m1', -, ht1⟩ := (HO.out.low HR.out.2).at (by omega)
        subst ea1
        have p0 := ht1 j _ (namesV_get gj)
        have HT := Hd (show l.take (j + 1) = l.take j ++ [l[j]] from List.take_succ_eq_append_getElem gj)
        have hlx := HL.out l[j] (List.getElem_mem gj)
        clear ht1
        generalize l[j] = tk at *
        have ej : IntKind.i64.wrap ((j : Int) + 1) = (j : Int) + 1 := by rw [IntKind.wrap_i64]; omega
        have b0 : (0 : Int) ≤ (j : Int) := by omega
        go_wp2_with (refine wp_nput _ rfl _ _ _ rfl B (cnt + j) (dom ++ l.take j) rfl HR.out.1 (by omega) tk rfl rfl hlx ?_; intro w4 h4 g4)
        refine ⟨⟨j + 1, by omega, by go_num, ?_, Gt HG.out g4⟩, by simp [RowKit.intOf]; omega⟩
        rw [HT.out, ← List.append_assoc]
        exact h4
      · obtain rfl : j = l.length := by omega
        go_wp2_with fail
        go_ret2
        refine ⟨?_, HR.out.2⟩
        unfold WithSaid
        rw [HE.out]
        have h := HR.out.1
        rw [List.take_length] at h
        exact ⟨B, rfl, h⟩
theorem ExAt.form {W : World} {K : Nat → Prop} {x : Ex} {k n f u vp vk vb va : Value} (h : ExAt W K x [k, n, f, u, vp, vk, vb, va]) : ∃ k' nm f' u' ap np cp ak nk ck ab nb cb aa na ca, k = .int .i64 k' ∧ n = .string (tx nm) ∧ f = .bool f' ∧ u = .int .u64 u' ∧ vp = .slice ap np cp ∧ vk = .slice ak nk ck ∧ vb = .slice ab nb cb ∧ va = .slice aa na ca := by
  cases h with
  | mk k n f x ps ks bs al vp vk vb va xk xb xa hp hk hb ha tk tb ta =>
    obtain ⟨ap, cp, rfl⟩ := hp.sl
    obtain ⟨ak, ck, rfl⟩ := hk.sl
    obtain ⟨ab, cb, rfl⟩ := hb.sl
    obtain ⟨aa, ca, rfl⟩ := ha.sl
    exact ⟨k, n, f, x, ap, _, cp, ak, _, ck, ab, _, cb, aa, _, ca, rfl, rfl, rfl, rfl, rfl, rfl, rfl, rfl⟩
theorem ExsAt.cells {W : World} {K : Nat → Prop} {l : List Ex} {xs : List Value} (h : ExsAt W K l xs) (j : Nat) (hj : j < l.length) : ∃ k nm f u ap np cp ak nk ck ab nb cb aa na ca, ExAt W K l[j] [.int .i64 k, .string (tx nm), .bool f, .int .u64 u, .slice ap np cp, .slice ak nk ck, .slice ab nb cb, .slice aa na ca] ∧
    ∀ i v, [Value.int .i64 k, .string (tx nm), .bool f, .int .u64 u, .slice ap np cp, .slice ak nk ck, .slice ab nb cb, .slice aa na ca][i]? = some v → xs[j * 8 + i]? = some v := by
  obtain ⟨k, nm, f, u, vp, vk, vb, va, h1, z0, z1, z2, z3, z4, z5, z6, z7⟩ := h.at j hj
  obtain ⟨k', nm', f', u', ap, np, cp, ak, nk, ck, ab, nb, cb, aa, na, ca, e0, e1, e2, e3, rfl, rfl, rfl, rfl⟩ := h1.form
  cases e0; cases e1; cases e2; cases e3
  refine ⟨k, nm', f, u, ap, np, cp, ak, nk, ck, ab, nb, cb, aa, na, ca, h1, fun i v hi => ?_⟩
  match i, hi with
  | 0, hi => cases hi; exact z0
  | 1, hi => cases hi; exact z1
  | 2, hi => cases hi; exact z2
  | 3, hi => cases hi; exact z3
  | 4, hi => cases hi; exact z4
  | 5, hi => cases hi; exact z5
  | 6, hi => cases hi; exact z6
  | 7, hi => cases hi; exact z7
theorem BndsAt.cells {W : World} {K : Nat → Prop} {l : List Bnd} {xs : List Value} (h : BndsAt W K l xs) (j : Nat) (hj : j < l.length) : ∃ aq cq k nm f u ap np cp ak nk ck ab nb cb aa na ca, RowAt W K 9 1 (.slice aq l[j].2.1.length cq) l[j].2.1.length (namesV l[j].2.1) ∧ ExAt W K l[j].2.2 [.int .i64 k, .string (tx nm), .bool f, .int .u64 u, .slice ap np cp, .slice ak nk ck, .slice ab nb cb, .slice aa na ca] ∧
    ∀ i v, [Value.string (tx l[j].1), .slice aq l[j].2.1.length cq, .int .i64 k, .string (tx nm), .bool f, .int .u64 u, .slice ap np cp, .slice ak nk ck, .slice ab nb cb, .slice aa na ca][i]? = some v → xs[j * 10 + i]? = some v := by
  obtain ⟨vq, k, nm, f, u, vp, vk, vb, va, h0, h1, z0, z1, z2, z3, z4, z5, z6, z7, z8, z9⟩ := h.at j hj
  obtain ⟨k', nm', f', u', ap, np, cp, ak, nk, ck, ab, nb, cb, aa, na, ca, e0, e1, e2, e3, rfl, rfl, rfl, rfl⟩ := h1.form
  cases e0; cases e1; cases e2; cases e3
  obtain ⟨aq, cq, rfl⟩ := h0.sl
  refine ⟨aq, cq, k, nm', f, u, ap, np, cp, ak, nk, ck, ab, nb, cb, aa, na, ca, h0, h1, fun i v hi => ?_⟩
  match i, hi with
  | 0, hi => cases hi; exact z0
  | 1, hi => cases hi; exact z1
  | 2, hi => cases hi; exact z2
  | 3, hi => cases hi; exact z3
  | 4, hi => cases hi; exact z4
  | 5, hi => cases hi; exact z5
  | 6, hi => cases hi; exact z6
  | 7, hi => cases hi; exact z7
  | 8, hi => cases hi; exact z8
  | 9, hi => cases hi; exact z9
theorem AltsAt.cells {W : World} {K : Nat → Prop} {l : List Alt} {xs : List Value} (h : AltsAt W K l xs) (j : Nat) (hj : j < l.length) : ∃ aq cq k nm f u ap np cp ak nk ck ab nb cb aa na ca, RowAt W K 9 1 (.slice aq l[j].2.2.2.2.1.length cq) l[j].2.2.2.2.1.length (namesV l[j].2.2.2.2.1) ∧ ExAt W K l[j].2.2.2.2.2 [.int .i64 k, .string (tx nm), .bool f, .int .u64 u, .slice ap np cp, .slice ak nk ck, .slice ab nb cb, .slice aa na ca] ∧
    ∀ i v, [Value.int .i64 l[j].1, .string (tx l[j].2.1), .bool l[j].2.2.1, .int .u64 l[j].2.2.2.1, .slice aq l[j].2.2.2.2.1.length cq, .int .i64 k, .string (tx nm), .bool f, .int .u64 u, .slice ap np cp, .slice ak nk ck, .slice ab nb cb, .slice aa na ca][i]? = some v → xs[j * 13 + i]? = some v := by
  obtain ⟨vq, k, nm, f, u, vp, vk, vb, va, h0, h1, z0, z1, z2, z3, z4, z5, z6, z7, z8, z9, z10, z11, z12⟩ := h.at j hj
  obtain ⟨k', nm', f', u', ap, np, cp, ak, nk, ck, ab, nb, cb, aa, na, ca, e0, e1, e2, e3, rfl, rfl, rfl, rfl⟩ := h1.form
  cases e0; cases e1; cases e2; cases e3
  obtain ⟨aq, cq, rfl⟩ := h0.sl
  refine ⟨aq, cq, k, nm', f, u, ap, np, cp, ak, nk, ck, ab, nb, cb, aa, na, ca, h0, h1, fun i v hi => ?_⟩
  match i, hi with
  | 0, hi => cases hi; exact z0
  | 1, hi => cases hi; exact z1
  | 2, hi => cases hi; exact z2
  | 3, hi => cases hi; exact z3
  | 4, hi => cases hi; exact z4
  | 5, hi => cases hi; exact z5
  | 6, hi => cases hi; exact z6
  | 7, hi => cases hi; exact z7
  | 8, hi => cases hi; exact z8
  | 9, hi => cases hi; exact z9
  | 10, hi => cases hi; exact z10
  | 11, hi => cases hi; exact z11
  | 12, hi => cases hi; exact z12
theorem bind_name (nb0 : Nm) (aq : Option Addr) (nq cq : Nat) (k : Int) (nm : Nm) (f : Bool) (u : Int) (ap : Option Addr) (np cp : Nat) (ak : Option Addr) (nk ck : Nat) (ab : Option Addr) (nb cb : Nat) (aa : Option Addr) (na ca : Nat) (w : World) : Calls Tryz.prog 63 #[.agg #[.string (tx nb0), .slice aq nq cq, .int .i64 k, .string (tx nm), .bool f, .int .u64 u, .slice ap np cp, .slice ak nk ck, .slice ab nb cb, .slice aa na ca]] w fun e w' => e = .returned (.string (tx nb0)) ∧ Below w.heap.size w w' := by
  have hx := (Below.refl w.heap.size w).alloc Nr (.cells #[.string (tx nb0), .slice aq nq cq, .int .i64 k, .string (tx nm), .bool f, .int .u64 u, .slice ap np cp, .slice ak nk ck, .slice ab nb cb, .slice aa na ca] 59)
  go_enter Tryz.func63, Tryz.ntmps63
  go_wp2_with fail
  go_ret
  exact ⟨rfl, hx⟩
theorem names_of_any (bs : List Bnd) (a : Option Addr) (c : Nat) (K K2 : Nat → Prop) (xb : List Value) (w : World) (hn : bs.length ≤ 100000) (hr : RowAt w K 59 10 (.slice a bs.length c) bs.length xb) (hb : BndsAt w K2 bs xb) :
    Calls Tryz.prog 62 #[.slice a bs.length c, .func (.func 63) #[] #[]] w fun e w' => (∃ v, e = .returned v ∧ w'.ownsRow w.heap.size 9 1 v bs.length (namesV (bNames bs))) ∧ Below w.heap.size w w' := by
  have HO := Hd (Ai hr hb)
  obtain ⟨i0, hi0, hz0, hzs, hzb⟩ := info_parts Tryz.info_text
  have eg := enters_of Tryz.func63 (by kernel_rfl) rfl
  clear hr hb
  go_enter Tryz.func62, Tryz.ntmps62
  go_wp2_with fail
  go_loopw [5, 10] (fun s2 s3 wr => ∃ (j : Nat) (vv : Value), j ≤ bs.length ∧ vv = s2 ∧ s3 = .int .i64 j ∧ wr.ownsRow w.heap.size 9 1 vv j (namesV (bNames (bs.take j))) ∧ Below w.heap.size w wr) (fun _ s3 _ => bs.length - (RowKit.intOf s3).toNat)
  case atStart => exact ⟨0, _, Nat.zero_le _, rfl, rfl, World.ownsRow_nil _ _ _ _, Below.refl _ _⟩
  case round =>
    obtain ⟨j, vv, hj, rfl, rfl, hown, hbr⟩ := hrel
    obtain ⟨av, cc, rfl, hlow⟩ := own_shape hown
    have HW := Hd (Ai hown (Ai hbr hlow))
    clear hown hbr hlow
    by_cases gj : j < bs.length
    · have gj' : (j : Int) < (bs.length : Int) := by omega
      obtain ⟨aq, cq, k, nm, f, u, ap, np, cp, ak, nk, ck, ab, nb, cb, aa, na, ca, -, -, hc⟩ := HO.out.2.cells j gj
      obtain ⟨g1, o1, ea1, k1, m1', -, ht1⟩ := HO.out.1.at (by omega)
      subst ea1
      have HP := Hd (fun i v h => later' HW.out.2.1 (ht1 _ _ (hc i v h)))
      have HT := Hd (show namesV (bNames (bs.take (j + 1))) = namesV (bNames (bs.take j)) ++ [.string (tx bs[j].1)] by rw [List.take_succ_eq_append_getElem gj]; simp only [namesV, bNames, List.map_append, List.map_cons, List.map_nil])
      clear ht1 hc
      generalize bs[j].1 = nb0 at *
      generalize bs[j].2.1.length = nq at *
      have p0 : wr.cell? ⟨g1, o1 + j * 10, none⟩ = some (.string (tx nb0)) := HP.out 0 _ rfl
      have p1 : wr.cell? ⟨g1, o1 + j * 10 + 1, none⟩ = some (.slice aq nq cq) := by rw [Nat.add_assoc]; exact HP.out 1 _ rfl
      have p2 : wr.cell? ⟨g1, o1 + j * 10 + 2, none⟩ = some (.int .i64 k) := by rw [Nat.add_assoc]; exact HP.out 2 _ rfl
      have p3 : wr.cell? ⟨g1, o1 + j * 10 + 3, none⟩ = some (.string (tx nm)) := by rw [Nat.add_assoc]; exact HP.out 3 _ rfl
      have p4 : wr.cell? ⟨g1, o1 + j * 10 + 4, none⟩ = some (.bool f) := by rw [Nat.add_assoc]; exact HP.out 4 _ rfl
      have p5 : wr.cell? ⟨g1, o1 + j * 10 + 5, none⟩ = some (.int .u64 u) := by rw [Nat.add_assoc]; exact HP.out 5 _ rfl
      have p6 : wr.cell? ⟨g1, o1 + j * 10 + 6, none⟩ = some (.slice ap np cp) := by rw [Nat.add_assoc]; exact HP.out 6 _ rfl
      have p7 : wr.cell? ⟨g1, o1 + j * 10 + 7, none⟩ = some (.slice ak nk ck) := by rw [Nat.add_assoc]; exact HP.out 7 _ rfl
      have p8 : wr.cell? ⟨g1, o1 + j * 10 + 8, none⟩ = some (.slice ab nb cb) := by rw [Nat.add_assoc]; exact HP.out 8 _ rfl
      have p9 : wr.cell? ⟨g1, o1 + j * 10 + 9, none⟩ = some (.slice aa na ca) := by rw [Nat.add_assoc]; exact HP.out 9 _ rfl
      have hwz : w.heap.size ≤ wr.heap.size := HW.out.2.1.size
      have ej : IntKind.i64.wrap ((j : Int) + 1) = (j : Int) + 1 := by rw [IntKind.wrap_i64]; omega
      have b0 : (0 : Int) ≤ (j : Int) := by omega
      have one1 : ∀ u ∈ [Value.string (tx nb0)], u.oneCell' = true := by intro u hu; simp at hu; rw [hu]; rfl
      have m9 : j + 1 ≤ maxLen := by unfold maxLen; omega
      have m8 : (j + 1) * 16 ≤ 140737488355328 := by omega
      have HX := Hd ((Below.refl wr.heap.size wr).alloc Nr (.cells #[.string (tx nb0), .slice aq nq cq, .int .i64 k, .string (tx nm), .bool f, .int .u64 u, .slice ap np cp, .slice ak nk ck, .slice ab nb cb, .slice aa na ca] 59))
      have HN := Hd (fun W => bind_name nb0 aq nq cq k nm f u ap np cp ak nk ck ab nb cb aa na ca W)
      go_wp2_with fail
      refine (HN.out _).mono ?_
      rintro e w4 ⟨rfl, hb4⟩
      have HB4 := Hd (onB' HX.out hb4)
      clear hb4 HN
      have H5 := Hd (onB' HB4.out ((Below.refl w4.heap.size w4).alloc Nr (.cells #[.string (tx nb0)] 9)))
      have hz5 := H5.out.size
      have HO5 := Hd (own_below HW.out.1 H5.out)
      go_wp2_with (at_builtin; refine wpList_append_lies _ rfl _ _ 50 rfl w.heap.size 9 i0 (.string ⟨#[]⟩) 1 16 Tryz.underlying50 hi0 hz0 hzs hzb rfl (by decide) (.slice av j cc) j (namesV (bNames (bs.take j))) rfl HO5.out ⟨w4.heap.size, 0, none⟩ 1 1 [.string (tx nb0)] rfl rfl (World.news_of_block (heap_alloc_new _ _)) one1 (by decide) m9 m8 (by omega) _ rfl ?_; intro g9 cap9 w9 o1 o2 o3 o4)
      refine ⟨⟨j + 1, _, by omega, rfl, by go_num, by rw [HT.out]; exact o1, ?_⟩, by simp [RowKit.intOf]; omega⟩
      have hx := onB' HW.out.2.1 H5.out
      exact ⟨o2.os.trans hx.os, o2.tape.trans hx.tape, o2.output.trans hx.output, Nt hx.size o2.size, fun k hk => (o2.block k (by have := hx.size; omega) (fun e => by have := HW.out.2.2 k e.symm; omega)).trans (hx.block k hk)⟩
    · obtain rfl : j = bs.length := by omega
      go_wp2_with fail
      go_ret
      have h := HW.out.1
      rw [List.take_length] at h
      exact ⟨⟨_, rfl, h⟩, HW.out.2.1⟩
theorem declV_here : ∀ {l : List (Nm × Int)} {j : Nat} (hj : j < l.length), (declV l)[j * 2]? = some (.string (tx l[j].1)) ∧ (declV l)[j * 2 + 1]? = some (.int .i64 l[j].2)
  | (n, x) :: _, 0, _ => ⟨rfl, rfl⟩
  | (n, x) :: ds, j + 1, hj => by
    have h := declV_here (l := ds) (j := j) (by simpa using hj)
    rw [show (j + 1) * 2 = j * 2 + 1 + 1 by omega]
    exact h
theorem decl_name (nb0 : Nm) (x0 : Int) (w : World) : Calls Tryz.prog 61 #[.agg #[.string (tx nb0), .int .i64 x0]] w fun e w' => e = .returned (.string (tx nb0)) ∧ Below w.heap.size w w' := by
  have hx := (Below.refl w.heap.size w).alloc Nr (.cells #[.string (tx nb0), .int .i64 x0] 92)
  go_enter Tryz.func61, Tryz.ntmps61
  go_wp2_with fail
  go_ret
  exact ⟨rfl, hx⟩
theorem cnames_of_any (ds : List (Nm × Int)) (a : Option Addr) (c : Nat) (K : Nat → Prop) (w : World) (hn : ds.length ≤ 100000) (hr : RowAt w K 92 2 (.slice a ds.length c) ds.length (declV ds)) :
    Calls Tryz.prog 59 #[.slice a ds.length c, .func (.func 61) #[] #[]] w fun e w' => (∃ v, e = .returned v ∧ w'.ownsRow w.heap.size 9 1 v ds.length (namesV (ds.map (·.1)))) ∧ Below w.heap.size w w' := by
  have HO := Hd hr
  obtain ⟨i0, hi0, hz0, hzs, hzb⟩ := info_parts Tryz.info_text
  have eg := enters_of Tryz.func61 (by kernel_rfl) rfl
  clear hr
  go_enter Tryz.func59, Tryz.ntmps59
  go_wp2_with fail
  go_loopw [5, 10] (fun s2 s3 wr => ∃ (j : Nat) (vv : Value), j ≤ ds.length ∧ vv = s2 ∧ s3 = .int .i64 j ∧ wr.ownsRow w.heap.size 9 1 vv j (namesV ((ds.take j).map (·.1))) ∧ Below w.heap.size w wr) (fun _ s3 _ => ds.length - (RowKit.intOf s3).toNat)
  case atStart => exact ⟨0, _, Nat.zero_le _, rfl, rfl, World.ownsRow_nil _ _ _ _, Below.refl _ _⟩
  case round =>
    obtain ⟨j, vv, hj, rfl, rfl, hown, hbr⟩ := hrel
    obtain ⟨av, cc, rfl, hlow⟩ := own_shape hown
    have HW := Hd (Ai hown (Ai hbr hlow))
    clear hown hbr hlow
    by_cases gj : j < ds.length
    · have gj' : (j : Int) < (ds.length : Int) := by omega
      obtain ⟨g1, o1, ea1, k1, m1', -, ht1⟩ := HO.out.at (by omega)
      subst ea1
      obtain ⟨z0, z1⟩ := declV_here gj
      have p0 : wr.cell? ⟨g1, o1 + j * 2, none⟩ = some (.string (tx ds[j].1)) := later' HW.out.2.1 (ht1 _ _ z0)
      have p1 : wr.cell? ⟨g1, o1 + j * 2 + 1, none⟩ = some (.int .i64 ds[j].2) := by rw [Nat.add_assoc]; exact later' HW.out.2.1 (ht1 _ _ z1)
      have HT := Hd (show namesV ((ds.take (j + 1)).map (·.1)) = namesV ((ds.take j).map (·.1)) ++ [.string (tx ds[j].1)] by rw [List.take_succ_eq_append_getElem gj]; simp only [namesV, List.map_append, List.map_cons, List.map_nil])
      clear ht1 z0 z1
      generalize ds[j].1 = nb0 at *
      generalize ds[j].2 = x0 at *
      have hwz : w.heap.size ≤ wr.heap.size := HW.out.2.1.size
      have ej : IntKind.i64.wrap ((j : Int) + 1) = (j : Int) + 1 := by rw [IntKind.wrap_i64]; omega
      have b0 : (0 : Int) ≤ (j : Int) := by omega
      have one1 : ∀ u ∈ [Value.string (tx nb0)], u.oneCell' = true := by intro u hu; simp at hu; rw [hu]; rfl
      have m9 : j + 1 ≤ maxLen := by unfold maxLen; omega
      have m8 : (j + 1) * 16 ≤ 140737488355328 := by omega
      have HX := Hd ((Below.refl wr.heap.size wr).alloc Nr (.cells #[.string (tx nb0), .int .i64 x0] 92))
      have HN := Hd (fun W => decl_name nb0 x0 W)
      go_wp2_with fail
      refine (HN.out _).mono ?_
      rintro e w4 ⟨rfl, hb4⟩
      have HB4 := Hd (onB' HX.out hb4)
      clear hb4 HN
      have H5 := Hd (onB' HB4.out ((Below.refl w4.heap.size w4).alloc Nr (.cells #[.string (tx nb0)] 9)))
      have hz5 := H5.out.size
      have HO5 := Hd (own_below HW.out.1 H5.out)
      go_wp2_with (at_builtin; refine wpList_append_lies _ rfl _ _ 50 rfl w.heap.size 9 i0 (.string ⟨#[]⟩) 1 16 Tryz.underlying50 hi0 hz0 hzs hzb rfl (by decide) (.slice av j cc) j (namesV ((ds.take j).map (·.1))) rfl HO5.out ⟨w4.heap.size, 0, none⟩ 1 1 [.string (tx nb0)] rfl rfl (World.news_of_block (heap_alloc_new _ _)) one1 (by decide) m9 m8 (by omega) _ rfl ?_; intro g9 cap9 w9 o1 o2 o3 o4)
      refine ⟨⟨j + 1, _, by omega, rfl, by go_num, by rw [HT.out]; exact o1, ?_⟩, by simp [RowKit.intOf]; omega⟩
      have hx := onB' HW.out.2.1 H5.out
      exact ⟨o2.os.trans hx.os, o2.tape.trans hx.tape, o2.output.trans hx.output, Nt hx.size o2.size, fun k hk => (o2.block k (by have := hx.size; omega) (fun e => by have := HW.out.2.2 k e.symm; omega)).trans (hx.block k hk)⟩
    · obtain rfl : j = ds.length := by omega
      go_wp2_with fail
      go_ret
      have h := HW.out.1
      rw [List.take_length] at h
      exact ⟨⟨_, rfl, h⟩, HW.out.2.1⟩
theorem pcons_any (ds : List (Nm × Int)) (hl : ∀ d, d ∈ ds → d.1.length ≤ 100000) (a : Option Addr) (c : Nat) (b : Value) (K : Nat → Prop) (w : World) (hn : 4 + ds.length ≤ 100000) (hr : RowAt w K 92 2 (.slice a ds.length c) ds.length (declV ds)) (hb : ∃ a n c, b = .slice a n c) :
    Calls Tryz.prog 60 #[.agg #[.slice a ds.length c, b]] w fun e w' => (∃ v, e = .returned v ∧ w'.ownsRow w.heap.size 92 2 v (4 + ds.length) (declV (four ++ ds))) ∧ Below w.heap.size w w' := by
  obtain ⟨ab, nb, cb, rfl⟩ := hb
  have HO := Hd hr
  have HL := Hd hl
  obtain ⟨i0, hi0, hz0, hzs, hzb⟩ := info_parts Tryz.info_decl
  clear hr hl
  have ba := (Below.refl w.heap.size w).alloc Nr (.cells #[.slice a ds.length c, .slice ab nb cb] 27)
  have bb := ba.alloc ba.size (.cells (declV four).toArray 92)
  have hz : (w.alloc (.cells #[.slice a ds.length c, .slice ab nb cb] 27)).heap.size = w.heap.size + 1 := Array.size_push ..
  have HA : ((w.alloc (.cells #[.slice a ds.length c, .slice ab nb cb] 27)).alloc (.cells (declV four).toArray 92)).ownsRow w.heap.size 92 2 (.slice (some ⟨w.heap.size + 1, 0, none⟩) 4 4) 4 (declV four) := ⟨rfl, Or.inr ⟨w.heap.size + 1, 4, (declV four).toArray, rfl, by omega, by rw [← hz]; exact heap_alloc_new _ _, Nat.le_refl _, by decide, rfl, rfl⟩⟩
  have HD := Hd (Ai HA bb)
  clear HA ba bb hz
  go_enter Tryz.func60, Tryz.ntmps60
  go_wp2_with fail
  generalize hW0 : ((w.alloc (.cells #[.slice a ds.length c, .slice ab nb cb] 27)).alloc (.cells (declV four).toArray 92)) = W0 at HD
  have hW1 : ((w.alloc (.cells #[.slice a ds.length c, .slice ab nb cb] 27)).alloc (.cells #[.string ⟨#[70, 97, 108, 115, 101]⟩, .int .i64 0, .string ⟨#[84, 114, 117, 101]⟩, .int .i64 0, .string ⟨#[78, 111, 116, 104, 105, 110, 103]⟩, .int .i64 0, .string ⟨#[74, 117, 115, 116]⟩, .int .i64 1] 92)) = W0 := hW0
  rw [hW1]
  clear hW0 hW1
  go_loopw [3, 14] (fun s2 s3 wr => ∃ (j : Nat) (vv : Value), j ≤ ds.length ∧ vv = s2 ∧ s3 = .int .i64 j ∧ wr.ownsRow w.heap.size 92 2 vv (4 + j) (declV (four ++ ds.take j)) ∧ Below w.heap.size w wr) (fun _ s3 _ => ds.length - (RowKit.intOf s3).toNat)
  case atStart => exact ⟨0, _, Nat.zero_le _, rfl, rfl, by rw [List.take_zero, List.append_nil]; exact HD.out.1, HD.out.2⟩
  case round =>
    obtain ⟨j, vv, hj, rfl, rfl, hown, hbr⟩ := hrel
    obtain ⟨av, cc, rfl, hlow⟩ := own_shape hown
    have HW := Hd (Ai hown (Ai hbr hlow))
    clear hown hbr hlow
    by_cases gj : j < ds.length
    · have gj' : (j : Int) < (ds.length : Int) := by omega
      obtain ⟨g1, o1, ea1, k1, m1', -, ht1⟩ := HO.out.at (by omega)
      subst ea1
      obtain ⟨z0, z1⟩ := declV_here gj
      have p0 : wr.cell? ⟨g1, o1 + j * 2, none⟩ = some (.string (tx ds[j].1)) := later' HW.out.2.1 (ht1 _ _ z0)
      have p1 : wr.cell? ⟨g1, o1 + j * 2 + 1, none⟩ = some (.int .i64 ds[j].2) := by rw [Nat.add_assoc]; exact later' HW.out.2.1 (ht1 _ _ z1)
      have HT := Hd (show declV (four ++ ds.take (j + 1)) = declV (four ++ ds.take j) ++ [.string (tx ds[j].1), .int .i64 ds[j].2] by rw [List.take_succ_eq_append_getElem gj, ← List.append_assoc, declV_snoc])
      have hlx := HL.out ds[j] (List.getElem_mem gj)
      clear ht1 z0 z1
      generalize ds[j].1 = nb0 at *
      generalize ds[j].2 = x0 at *
      have ej : IntKind.i64.wrap ((j : Int) + 1) = (j : Int) + 1 := by rw [IntKind.wrap_i64]; omega
      have b0 : (0 : Int) ≤ (j : Int) := by omega
      have HX := Hd (Ai ((Below.refl wr.heap.size wr).alloc Nr (.cells #[.string (tx nb0), .int .i64 x0] 92)) (BoxW.alloc wr #[.string (tx nb0), .int .i64 x0] 92))
      go_upto_region 5 with fail
      have hwz : w.heap.size ≤ wr.heap.size := HW.out.2.1.size
      generalize (wr.alloc (.cells #[.string (tx nb0), .int .i64 x0] 92)) = W at *
      have d0 : W.cell? ⟨wr.heap.size, 0, none⟩ = some (.string (tx nb0)) := HX.out.2.1 0 _ rfl
      have d1 : W.cell? ⟨wr.heap.size, 1, none⟩ = some (.int .i64 x0) := HX.out.2.1 1 _ rfl
      have hbd : wr.heap.size < W.heap.size := Bl d0
      have hsx : (tx nb0).size ≤ 140737488355328 := by
        have : (tx nb0).size = nb0.length := by simp [tx, ByteArray.size]
        omega
      have HC := Hd (clone_any (tx nb0) hsx W.drew)
      have HDr := Hd (show Below W.heap.size W W.drew from Br.drew)
      have m9 : 4 + j + 1 ≤ maxLen := by unfold maxLen; omega
      have m8 : (4 + j + 1) * 24 ≤ 140737488355328 := by omega
      have one1 : ∀ u ∈ [Value.string (tx nb0), .int .i64 x0], u.oneCell' = true := by intro u hu; simp at hu; rcases hu with rfl | rfl <;> rfl
      clear hsx hlx
      go_region_law (first
        | (refine step_wanted rfl ?_; go_simp; go_at_call 15; refine HC.out.mono ?_; rintro e W6 ⟨rfl, hb6⟩; have hb60 := onB' HDr.out hb6; have hb7 : Below W6.heap.size W6 (W6.alloc (.cells #[.string (tx nb0), .int .i64 x0] 92)) := Br.alloc Nr _; have e1 := later' hb60 d1; have HB7 := Hd (onB' (onB' HX.out.1 hb60) hb7); have HO7 := Hd (own_below HW.out.1 HB7.out); have hz7 := HB7.out.size)
        | (refine step_append_lies _ rfl _ _ 24 rfl w.heap.size 92 i0 (.agg #[.string ⟨#[]⟩, .int .i64 0]) 2 24 Tryz.underlying24 hi0 hz0 hzs hzb rfl (by decide) (.slice av (4 + j) cc) (4 + j) (declV (four ++ ds.take j)) rfl HO7.out ⟨W6.heap.size, 0, none⟩ 1 1 [.string (tx nb0), .int .i64 x0] rfl rfl (World.news_of_block (heap_alloc_new _ _)) one1 (by decide) m9 m8 (by omega) _ rfl ?_; intro g9 cap9 w9 o1 o2 o3 o4))
      all_goals go_wp2_with fail
      all_goals (refine ⟨⟨j + 1, _, by omega, rfl, by go_num, by rw [HT.out]; exact o1, ?_⟩, by simp [RowKit.intOf]; omega⟩; have hx := onB' HW.out.2.1 HB7.out; exact ⟨o2.os.trans hx.os, o2.tape.trans hx.tape, o2.output.trans hx.output, Nt hx.size o2.size, fun k hk => (o2.block k (by have := hx.size; omega) (fun e => by have := HW.out.2.2 k e.symm; omega)).trans (hx.block k hk)⟩)
    · obtain rfl : j = ds.length := by omega
      go_wp2_with fail
      go_ret
      have h := HW.out.1
      rw [List.take_length] at h
      exact ⟨⟨_, rfl, h⟩, HW.out.2.1⟩
theorem nfault_any (b n : Nat) (dom : List Nm) (x : Nm) (hx : x.length ≤ 100000) (w : World) (h : NSet w b n dom) : Calls Tryz.prog 97 #[.map (some b), .string (tx x)] w fun e w' => e = .returned (vErr (hasF dom x)) ∧ Below w.heap.size w w' := by
  have hl := h.look x hx
  by_cases g : x ∈ dom
  · rw [decide_eq_true g] at hl
    have hf : hasF dom x = none := if_pos g
    rw [hf]
    go_enter Tryz.func97, Tryz.ntmps97
    go_wp2_with fail
    go_ret
    exact ⟨rfl, Below.refl _ _⟩
  · rw [decide_eq_false g] at hl
    have hf : hasF dom x = some (4, x) := if_neg g
    rw [hf]
    go_enter Tryz.func97, Tryz.ntmps97
    go_wp2_with fail
    go_ret
    exact ⟨rfl, Below.refl _ _⟩
theorem NSet.ne {w : World} {b n k i : Nat} {dom : List Nm} {v : Value} (h : NSet w b n dom) (hc : w.cell? ⟨k, i, none⟩ = some v) : b ≠ k := by
  obtain ⟨D, ⟨es, c, hb, r⟩, h2⟩ := h
  intro e
  subst e
  simp [World.cell?, hb] at hc
def UnderSaid (bc cnt : Nat) (dom l : List Nm) (e : Ending) (w' : World) : Prop :=
  match twF l with
  | some f => e = .returned (.tuple #[.agg #[.map (some bc), .map none], vErr (some f)])
  | none => ∃ b, e = .returned (.tuple #[.agg #[.map (some bc), .map (some b)], .nilIface]) ∧ NSet w' b (cnt + l.length) (dom ++ l)
theorem under_any (bc bm cnt : Nat) (dom l : List Nm) (hl : ∀ x, x ∈ l → x.length ≤ 100000) (hn : cnt + l.length ≤ 100000) (a : Option Addr) (c : Nat) (K : Nat → Prop) (w : World) (hs : NSet w bm cnt dom) (hr : RowAt w K 9 1 (.slice a l.length c) l.length (namesV l)) :
    Calls Tryz.prog 94 #[.agg #[.map (some bc), .map (some bm)], .slice a l.length c] w fun e w' => UnderSaid bc cnt dom l e w' ∧ Below w.heap.size w w' := by
  have hx1 := (Below.refl w.heap.size w).alloc Nr (.cells #[.map (some bc), .map (some bm)] 131)
  have hx := hx1.alloc hx1.size (.cells #[.map none, .map none] 131)
  have hB1 := (BoxW.alloc w #[.map (some bc), .map (some bm)] 131).below (Br.alloc Nr (.cells #[.map none, .map none] 131))
  have hB2 := BoxW.alloc (w.alloc (.cells #[.map (some bc), .map (some bm)] 131)) #[.map none, .map none] 131
  rw [show (w.alloc (.cells #[.map (some bc), .map (some bm)] 131)).heap.size = w.heap.size + 1 by simp] at hB2
  have HX := Hd (Ai hx (Ai hB1 hB2))
  have HW := Hd (with_any bm cnt dom l hl hn a c (fun g => g < w.heap.size) ((w.alloc (.cells #[.map (some bc), .map (some bm)] 131)).alloc (.cells #[.map none, .map none] 131)) (hs.later hx) (hr.low hx))
  clear hx hx1 hs hr hl hB1 hB2
  go_enter Tryz.func94, Tryz.ntmps94
  go_upto_region 1 with fail
  generalize ((w.alloc (.cells #[.map (some bc), .map (some bm)] 131)).alloc (.cells #[.map none, .map none] 131)) = W at *
  have d0 : W.cell? ⟨w.heap.size, 0, none⟩ = some (.map (some bc)) := HX.out.2.1.1 0 _ rfl
  have d1 : W.cell? ⟨w.heap.size, 1, none⟩ = some (.map (some bm)) := HX.out.2.1.1 1 _ rfl
  go_wp2_with fail
  refine HW.out.mono ?_
  rintro e w2 ⟨hw, hb2⟩
  have HB2 := Hd (onB' HX.out.1 hb2)
  have e0 := later' hb2 d0
  have HBx := Hd (HX.out.2.2.below hb2)
  have c0 : w2.cell? ⟨w.heap.size + 1, 0, none⟩ = some _ := HBx.out.1 0 _ rfl
  have c1 : w2.cell? ⟨w.heap.size + 1, 1, none⟩ = some _ := HBx.out.1 1 _ rfl
  have f0 := HBx.out.2 0
  have f1 := HBx.out.2 1
  have HS := Hd hw
  clear hb2 hw d0 d1 HW HX
  cases htw : twF l with
  | some fo =>
    have h := HS.out
    unfold WithSaid at h
    rw [htw] at h
    subst h
    obtain ⟨er, nm⟩ := fo
    unfold vErr
    have HE := Hd htw
    clear htw HS
    go_wp2_with fail
    have v0 : ((w2.setCell ⟨w.heap.size + 1, 0, none⟩ (.map (some bc))).setCell ⟨w.heap.size + 1, 1, none⟩ (.map none)).cell? ⟨w.heap.size + 1, 0, none⟩ = some (.map (some bc)) := (at_oth _ _ _ _ _ (by decide)).trans (at_sam _ c0)
    have v1 : ((w2.setCell ⟨w.heap.size + 1, 0, none⟩ (.map (some bc))).setCell ⟨w.heap.size + 1, 1, none⟩ (.map none)).cell? ⟨w.heap.size + 1, 1, none⟩ = some (.map none) := at_sam _ ((at_oth _ _ _ _ _ (by decide)).trans c1)
    refine bodyPost_ret (v := .tuple #[.agg #[.map (some bc), .map none], .iface 76 (.agg #[.int .i64 er, .string (tx nm)])]) (by simp [results, Tryz.results94, go_sem, v0, v1]) rfl ⟨?_, ?_⟩
    · unfold UnderSaid
      rw [HE.out]
      rfl
    · exact below_of_new (below_of_new HB2.out (set_grown ..) (by omega)) (set_grown ..) (by omega)
  | none =>
    have h := HS.out
    unfold WithSaid at h
    rw [htw] at h
    obtain ⟨b, rfl, hs⟩ := h
    have HE := Hd (Ai htw hs)
    clear htw HS hs
    go_wp2_with fail
    have v0 : ((w2.setCell ⟨w.heap.size + 1, 0, none⟩ (.map (some bc))).setCell ⟨w.heap.size + 1, 1, none⟩ (.map (some b))).cell? ⟨w.heap.size + 1, 0, none⟩ = some (.map (some bc)) := (at_oth _ _ _ _ _ (by decide)).trans (at_sam _ c0)
    have v1 : ((w2.setCell ⟨w.heap.size + 1, 0, none⟩ (.map (some bc))).setCell ⟨w.heap.size + 1, 1, none⟩ (.map (some b))).cell? ⟨w.heap.size + 1, 1, none⟩ = some (.map (some b)) := at_sam _ ((at_oth _ _ _ _ _ (by decide)).trans c1)
    refine bodyPost_ret (v := .tuple #[.agg #[.map (some bc), .map (some b)], .nilIface]) (by simp [results, Tryz.results94, go_sem, v0, v1]) rfl ⟨?_, ?_⟩
    · unfold UnderSaid
      rw [HE.out.1]
      have hne := HE.out.2.ne c0
      have hlt := HE.out.2.lt
      have g := Gt (set_grown w2 (w.heap.size + 1) 0 (.map (some bc))) (set_grown (w2.setCell ⟨w.heap.size + 1, 0, none⟩ (.map (some bc))) (w.heap.size + 1) 1 (.map (some b)))
      exact ⟨b, rfl, HE.out.2.same (g.block b hlt (by simpa using hne))⟩
    · exact below_of_new (below_of_new HB2.out (set_grown ..) (by omega)) (set_grown ..) (by omega)
def firstF {α : Type} (F : α → Fo) : List α → Fo
  | [] => none
  | x :: r => (F x).or (firstF F r)
theorem firstF_here {α : Type} (F : α → Fo) : ∀ (l : List α) (j : Nat) (hj : j < l.length), firstF F (l.take j) = none → (F l[j]).isSome → firstF F l = F l[j]
  | x :: r, 0, _, _, h => by
    show (F x).or (firstF F r) = F x
    have h' : (F x).isSome := h
    cases hx : F x with
    | none => rw [hx] at h'; cases h'
    | some v => rfl
  | x :: r, j + 1, hj, h0, h => by
    have h0' : (F x).or (firstF F (r.take j)) = none := h0
    obtain ⟨p, q⟩ := or_none.1 h0'
    show (F x).or (firstF F r) = F (r[j]'(by simpa using hj))
    rw [p, Option.none_or]
    exact firstF_here F r j (by simpa using hj) q h
theorem firstF_snoc {α : Type} (F : α → Fo) : ∀ (l : List α) (x : α), firstF F (l ++ [x]) = (firstF F l).or (F x)
  | [], x => by show (F x).or none = _; cases F x <;> rfl
  | y :: r, x => by
    show (F y).or (firstF F (r ++ [x])) = ((F y).or (firstF F r)).or (F x)
    rw [firstF_snoc F r x, or_assoc_f]
theorem scEs_first (cs sc : List Nm) : ∀ (l : List Ex), scEs cs sc l = firstF (scE cs sc) l
  | [] => by unfold scEs firstF; rfl
  | e :: r => by unfold scEs firstF; rw [scEs_first cs sc r]
theorem scBs_first (cs sc : List Nm) : ∀ (l : List Bnd), scBs cs sc l = firstF (fun b => (twF b.2.1).or (scE cs (sc ++ b.2.1) b.2.2)) l
  | [] => by unfold scBs firstF; rfl
  | (n, ps, e) :: r => by unfold scBs firstF; rw [scBs_first cs sc r]
def scA (cs sc : List Nm) (a : Alt) : Fo := if a.1 = 0 then (hasF cs a.2.1).or ((twF a.2.2.2.2.1).or (scE cs (sc ++ a.2.2.2.2.1) a.2.2.2.2.2)) else if a.1 = 2 then scE cs (sc ++ [a.2.1]) a.2.2.2.2.2 else scE cs sc a.2.2.2.2.2
theorem scAs_first (cs sc : List Nm) : ∀ (l : List Alt), scAs cs sc l = firstF (scA cs sc) l
  | [] => by unfold scAs firstF; rfl
  | (k, n, f, x, ns, e) :: r => by unfold scAs firstF; rw [scAs_first cs sc r]; rfl
theorem first_expr (fid : Nat) (eg : ∀ args w, (callFunc fid args).run Tryz.prog w = .ok (.enter fid args) w) (bc bs : Nat) (F : Ex → Fo) (l : List Ex) (a : Option Addr) (c : Nat) (K K2 : Nat → Prop) (xs : List Value) (w : World) (hr : RowAt w K 57 8 (.slice a l.length c) l.length xs) (ht : ExsAt w K2 l xs)
    (HC : ∀ j (hj : j < l.length) (k : Int) (nm : Nm) (f : Bool) (u : Int) (ap : Option Addr) (np cp : Nat) (ak : Option Addr) (nk ck : Nat) (ab : Option Addr) (nb cb : Nat) (aa : Option Addr) (na ca : Nat) (W : World), Below w.heap.size w W → ExAt W K2 l[j] [.int .i64 k, .string (tx nm), .bool f, .int .u64 u, .slice ap np cp, .slice ak nk ck, .slice ab nb cb, .slice aa na ca] → Calls Tryz.prog fid #[.agg #[.map (some bc), .map (some bs)], .agg #[.int .i64 k, .string (tx nm), .bool f, .int .u64 u, .slice ap np cp, .slice ak nk ck, .slice ab nb cb, .slice aa na ca]] W fun e w' => e = .returned (vErr (F l[j])) ∧ Below W.heap.size W w') :
    Calls Tryz.prog 95 #[.slice a l.length c, .func (.func fid) #[.agg #[.map (some bc), .map (some bs)]] #[]] w fun e w' => e = .returned (vErr (firstF F l)) ∧ Below w.heap.size w w' := by
  have HO := Hd (Ai hr ht)
  replace HC := Hd HC
  have hmx := hr.cap
  unfold maxLen at hmx
  clear hr ht
  go_enter Tryz.func95, Tryz.ntmps95
  go_wp2_with fail
  go_loopw [10] (fun s wr => ∃ j : Nat, j ≤ l.length ∧ s = .int .i64 j ∧ Below w.heap.size w wr ∧ firstF F (l.take j) = none) (fun s _ => l.length - (RowKit.intOf s).toNat)
  case atStart => exact ⟨0, Nat.zero_le _, rfl, Below.refl _ _, rfl⟩
  case round =>
    obtain ⟨j, hj, rfl, hbr, hno⟩ := hrel
    have HR := Hd (Ai hbr hno)
    clear hbr hno
    by_cases gj : j < l.length
    · have gj' : (j : Int) < (l.length : Int) := by omega
      obtain ⟨k, nm, f, u, ap, np, cp, ak, nk, ck, ab, nb, cb, aa, na, ca, hE, hc⟩ := HO.out.2.cells j gj
      obtain ⟨g1, o1, ea1, k1, m1', -, ht1⟩ := HO.out.1.at (by omega)
      subst ea1
      have HP := Hd (fun i v h => later' HR.out.1 (ht1 _ _ (hc i v h)))
      have HT := Hd (show l.take (j + 1) = l.take j ++ [l[j]] from List.take_succ_eq_append_getElem gj)
      have HF := Hd (firstF_here F l j gj HR.out.2)
      have HCj := Hd (fun (W : World) (hb : Below w.heap.size w W) => HC.out j gj k nm f u ap np cp ak nk ck ab nb cb aa na ca W hb (hE.move fun g hk lt => ⟨hk, hb.block g lt⟩))
      clear ht1 hc HC hE
      generalize hfo : F l[j] = fo at *
      have HTj := Hd (show firstF F (l.take (j + 1)) = fo by rw [HT.out, firstF_snoc, HR.out.2, hfo]; rfl)
      clear hfo HT
      have p0 : wr.cell? ⟨g1, o1 + j * 8, none⟩ = some (.int .i64 k) := HP.out 0 _ rfl
      have p1 : wr.cell? ⟨g1, o1 + j * 8 + 1, none⟩ = some (.string (tx nm)) := by rw [Nat.add_assoc]; exact HP.out 1 _ rfl
      have p2 : wr.cell? ⟨g1, o1 + j * 8 + 2, none⟩ = some (.bool f) := by rw [Nat.add_assoc]; exact HP.out 2 _ rfl
      have p3 : wr.cell? ⟨g1, o1 + j * 8 + 3, none⟩ = some (.int .u64 u) := by rw [Nat.add_assoc]; exact HP.out 3 _ rfl
      have p4 : wr.cell? ⟨g1, o1 + j * 8 + 4, none⟩ = some (.slice ap np cp) := by rw [Nat.add_assoc]; exact HP.out 4 _ rfl
      have p5 : wr.cell? ⟨g1, o1 + j * 8 + 5, none⟩ = some (.slice ak nk ck) := by rw [Nat.add_assoc]; exact HP.out 5 _ rfl
      have p6 : wr.cell? ⟨g1, o1 + j * 8 + 6, none⟩ = some (.slice ab nb cb) := by rw [Nat.add_assoc]; exact HP.out 6 _ rfl
      have p7 : wr.cell? ⟨g1, o1 + j * 8 + 7, none⟩ = some (.slice aa na ca) := by rw [Nat.add_assoc]; exact HP.out 7 _ rfl
      have ej : IntKind.i64.wrap ((j : Int) + 1) = (j : Int) + 1 := by rw [IntKind.wrap_i64]; omega
      have b0 : (0 : Int) ≤ (j : Int) := by omega
      have HX := Hd ((Below.refl wr.heap.size wr).alloc Nr (.cells #[.int .i64 k, .string (tx nm), .bool f, .int .u64 u, .slice ap np cp, .slice ak nk ck, .slice ab nb cb, .slice aa na ca] 57))
      go_wp2_with fail
      refine (HCj.out _ (onB' HR.out.1 HX.out)).mono ?_
      rintro e w4 ⟨rfl, hb4⟩
      have HB4 := Hd (onB' (onB' HR.out.1 HX.out) hb4)
      clear hb4 HCj HP
      cases hfo : fo with
      | none =>
        unfold vErr
        have HTn := Hd (HTj.out.trans hfo)
        clear hfo
        go_wp2_with fail
        exact ⟨⟨j + 1, by omega, by go_num, HB4.out, HTn.out⟩, by simp [RowKit.intOf]; omega⟩
      | some v =>
        obtain ⟨er, n⟩ := v
        have HFn := Hd (HF.out (by rw [hfo]; rfl))
        unfold vErr
        clear HF HTj
        subst hfo
        go_wp2_with fail
        go_ret
        exact ⟨by rw [HFn.out]; rfl, HB4.out⟩
    · obtain rfl : j = l.length := by omega
      go_wp2_with fail
      go_ret
      have h := HR.out.2
      rw [List.take_length] at h
      rw [h]
      exact ⟨rfl, HR.out.1⟩
theorem first_bind (fid : Nat) (eg : ∀ args w, (callFunc fid args).run Tryz.prog w = .ok (.enter fid args) w) (bc bs : Nat) (F : Bnd → Fo) (l : List Bnd) (a : Option Addr) (c : Nat) (K K2 : Nat → Prop) (xs : List Value) (w : World) (hr : RowAt w K 59 10 (.slice a l.length c) l.length xs) (ht : BndsAt w K2 l xs)
    (HC : ∀ j (hj : j < l.length) (aq : Option Addr) (cq : Nat) (k : Int) (nm : Nm) (f : Bool) (u : Int) (ap : Option Addr) (np cp : Nat) (ak : Option Addr) (nk ck : Nat) (ab : Option Addr) (nb cb : Nat) (aa : Option Addr) (na ca : Nat) (W : World), Below w.heap.size w W → RowAt W K2 9 1 (.slice aq l[j].2.1.length cq) l[j].2.1.length (namesV l[j].2.1) → ExAt W K2 l[j].2.2 [.int .i64 k, .string (tx nm), .bool f, .int .u64 u, .slice ap np cp, .slice ak nk ck, .slice ab nb cb, .slice aa na ca] → Calls Tryz.prog fid #[.agg #[.map (some bc), .map (some bs)], .agg #[.string (tx l[j].1), .slice aq l[j].2.1.length cq, .int .i64 k, .string (tx nm), .bool f, .int .u64 u, .slice ap np cp, .slice ak nk ck, .slice ab nb cb, .slice aa na ca]] W fun e w' => e = .returned (vErr (F l[j])) ∧ Below W.heap.size W w') :
    Calls Tryz.prog 64 #[.slice a l.length c, .func (.func fid) #[.agg #[.map (some bc), .map (some bs)]] #[]] w fun e w' => e = .returned (vErr (firstF F l)) ∧ Below w.heap.size w w' := by
  have HO := Hd (Ai hr ht)
  replace HC := Hd HC
  have hmx := hr.cap
  unfold maxLen at hmx
  clear hr ht
  go_enter Tryz.func64, Tryz.ntmps64
  go_wp2_with fail
  go_loopw [10] (fun s wr => ∃ j : Nat, j ≤ l.length ∧ s = .int .i64 j ∧ Below w.heap.size w wr ∧ firstF F (l.take j) = none) (fun s _ => l.length - (RowKit.intOf s).toNat)
  case atStart => exact ⟨0, Nat.zero_le _, rfl, Below.refl _ _, rfl⟩
  case round =>
    obtain ⟨j, hj, rfl, hbr, hno⟩ := hrel
    have HR := Hd (Ai hbr hno)
    clear hbr hno
    by_cases gj : j < l.length
    · have gj' : (j : Int) < (l.length : Int) := by omega
      obtain ⟨aq, cq, k, nm, f, u, ap, np, cp, ak, nk, ck, ab, nb, cb, aa, na, ca, hQ, hE, hc⟩ := HO.out.2.cells j gj
      obtain ⟨g1, o1, ea1, k1, m1', -, ht1⟩ := HO.out.1.at (by omega)
      subst ea1
      have HP := Hd (fun i v h => later' HR.out.1 (ht1 _ _ (hc i v h)))
      have HT := Hd (show l.take (j + 1) = l.take j ++ [l[j]] from List.take_succ_eq_append_getElem gj)
      have HF := Hd (firstF_here F l j gj HR.out.2)
      have HCj := Hd (fun (W : World) (hb : Below w.heap.size w W) => HC.out j gj aq cq k nm f u ap np cp ak nk ck ab nb cb aa na ca W hb (hQ.move fun g hk lt => ⟨hk, hb.block g lt⟩) (hE.move fun g hk lt => ⟨hk, hb.block g lt⟩))
      clear ht1 hc HC hE hQ
      generalize hfo : F l[j] = fo at *
      have HTj := Hd (show firstF F (l.take (j + 1)) = fo by rw [HT.out, firstF_snoc, HR.out.2, hfo]; rfl)
      clear hfo HT
      generalize l[j].1 = nb0 at *
      generalize l[j].2.1.length = nq at *
      have p0 : wr.cell? ⟨g1, o1 + j * 10, none⟩ = some (.string (tx nb0)) := HP.out 0 _ rfl
      have p1 : wr.cell? ⟨g1, o1 + j * 10 + 1, none⟩ = some (.slice aq nq cq) := by rw [Nat.add_assoc]; exact HP.out 1 _ rfl
      have p2 : wr.cell? ⟨g1, o1 + j * 10 + 2, none⟩ = some (.int .i64 k) := by rw [Nat.add_assoc]; exact HP.out 2 _ rfl
      have p3 : wr.cell? ⟨g1, o1 + j * 10 + 3, none⟩ = some (.string (tx nm)) := by rw [Nat.add_assoc]; exact HP.out 3 _ rfl
      have p4 : wr.cell? ⟨g1, o1 + j * 10 + 4, none⟩ = some (.bool f) := by rw [Nat.add_assoc]; exact HP.out 4 _ rfl
      have p5 : wr.cell? ⟨g1, o1 + j * 10 + 5, none⟩ = some (.int .u64 u) := by rw [Nat.add_assoc]; exact HP.out 5 _ rfl
      have p6 : wr.cell? ⟨g1, o1 + j * 10 + 6, none⟩ = some (.slice ap np cp) := by rw [Nat.add_assoc]; exact HP.out 6 _ rfl
      have p7 : wr.cell? ⟨g1, o1 + j * 10 + 7, none⟩ = some (.slice ak nk ck) := by rw [Nat.add_assoc]; exact HP.out 7 _ rfl
      have p8 : wr.cell? ⟨g1, o1 + j * 10 + 8, none⟩ = some (.slice ab nb cb) := by rw [Nat.add_assoc]; exact HP.out 8 _ rfl
      have p9 : wr.cell? ⟨g1, o1 + j * 10 + 9, none⟩ = some (.slice aa na ca) := by rw [Nat.add_assoc]; exact HP.out 9 _ rfl
      have ej : IntKind.i64.wrap ((j : Int) + 1) = (j : Int) + 1 := by rw [IntKind.wrap_i64]; omega
      have b0 : (0 : Int) ≤ (j : Int) := by omega
      have HX := Hd ((Below.refl wr.heap.size wr).alloc Nr (.cells #[.string (tx nb0), .slice aq nq cq, .int .i64 k, .string (tx nm), .bool f, .int .u64 u, .slice ap np cp, .slice ak nk ck, .slice ab nb cb, .slice aa na ca] 59))
      go_wp2_with fail
      refine (HCj.out _ (onB' HR.out.1 HX.out)).mono ?_
      rintro e w4 ⟨rfl, hb4⟩
      have HB4 := Hd (onB' (onB' HR.out.1 HX.out) hb4)
      clear hb4 HCj HP
      cases hfo : fo with
      | none =>
        unfold vErr
        have HTn := Hd (HTj.out.trans hfo)
        clear hfo
        go_wp2_with fail
        exact ⟨⟨j + 1, by omega, by go_num, HB4.out, HTn.out⟩, by simp [RowKit.intOf]; omega⟩
      | some v =>
        obtain ⟨er, n⟩ := v
        have HFn := Hd (HF.out (by rw [hfo]; rfl))
        unfold vErr
        clear HF HTj
        subst hfo
        go_wp2_with fail
        go_ret
        exact ⟨by rw [HFn.out]; rfl, HB4.out⟩
    · obtain rfl : j = l.length := by omega
      go_wp2_with fail
      go_ret
      have h := HR.out.2
      rw [List.take_length] at h
      rw [h]
      exact ⟨rfl, HR.out.1⟩
theorem first_alt (fid : Nat) (eg : ∀ args w, (callFunc fid args).run Tryz.prog w = .ok (.enter fid args) w) (bc bs : Nat) (F : Alt → Fo) (l : List Alt) (a : Option Addr) (c : Nat) (K K2 : Nat → Prop) (xs : List Value) (w : World) (hr : RowAt w K 135 13 (.slice a l.length c) l.length xs) (ht : AltsAt w K2 l xs)
    (HC : ∀ j (hj : j < l.length) (aq : Option Addr) (cq : Nat) (k : Int) (nm : Nm) (f : Bool) (u : Int) (ap : Option Addr) (np cp : Nat) (ak : Option Addr) (nk ck : Nat) (ab : Option Addr) (nb cb : Nat) (aa : Option Addr) (na ca : Nat) (W : World), Below w.heap.size w W → RowAt W K2 9 1 (.slice aq l[j].2.2.2.2.1.length cq) l[j].2.2.2.2.1.length (namesV l[j].2.2.2.2.1) → ExAt W K2 l[j].2.2.2.2.2 [.int .i64 k, .string (tx nm), .bool f, .int .u64 u, .slice ap np cp, .slice ak nk ck, .slice ab nb cb, .slice aa na ca] → Calls Tryz.prog fid #[.agg #[.map (some bc), .map (some bs)], .agg #[.int .i64 l[j].1, .string (tx l[j].2.1), .bool l[j].2.2.1, .int .u64 l[j].2.2.2.1, .slice aq l[j].2.2.2.2.1.length cq, .int .i64 k, .string (tx nm), .bool f, .int .u64 u, .slice ap np cp, .slice ak nk ck, .slice ab nb cb, .slice aa na ca]] W fun e w' => e = .returned (vErr (F l[j])) ∧ Below W.heap.size W w') :
    Calls Tryz.prog 100 #[.slice a l.length c, .func (.func fid) #[.agg #[.map (some bc), .map (some bs)]] #[]] w fun e w' => e = .returned (vErr (firstF F l)) ∧ Below w.heap.size w w' := by
  have HO := Hd (Ai hr ht)
  replace HC := Hd HC
  have hmx := hr.cap
  unfold maxLen at hmx
  clear hr ht
  go_enter Tryz.func100, Tryz.ntmps100
  go_wp2_with fail
  go_loopw [10] (fun s wr => ∃ j : Nat, j ≤ l.length ∧ s = .int .i64 j ∧ Below w.heap.size w wr ∧ firstF F (l.take j) = none) (fun s _ => l.length - (RowKit.intOf s).toNat)
  case atStart => exact ⟨0, Nat.zero_le _, rfl, Below.refl _ _, rfl⟩
  case round =>
    obtain ⟨j, hj, rfl, hbr, hno⟩ := hrel
    have HR := Hd (Ai hbr hno)
    clear hbr hno
    by_cases gj : j < l.length
    · have gj' : (j : Int) < (l.length : Int) := by omega
      obtain ⟨aq, cq, k, nm, f, u, ap, np, cp, ak, nk, ck, ab, nb, cb, aa, na, ca, hQ, hE, hc⟩ := HO.out.2.cells j gj
      obtain ⟨g1, o1, ea1, k1, m1', -, ht1⟩ := HO.out.1.at (by omega)
      subst ea1
      have HP := Hd (fun i v h => later' HR.out.1 (ht1 _ _ (hc i v h)))
      have HT := Hd (show l.take (j + 1) = l.take j ++ [l[j]] from List.take_succ_eq_append_getElem gj)
      have HF := Hd (firstF_here F l j gj HR.out.2)
      have HCj := Hd (fun (W : World) (hb : Below w.heap.size w W) => HC.out j gj aq cq k nm f u ap np cp ak nk ck ab nb cb aa na ca W hb (hQ.move fun g hk lt => ⟨hk, hb.block g lt⟩) (hE.move fun g hk lt => ⟨hk, hb.block g lt⟩))
      clear ht1 hc HC hE hQ
      generalize hfo : F l[j] = fo at *
      have HTj := Hd (show firstF F (l.take (j + 1)) = fo by rw [HT.out, firstF_snoc, HR.out.2, hfo]; rfl)
      clear hfo HT
      generalize l[j].2.1 = nb0 at *
      generalize l[j].2.2.2.2.1.length = nq at *
      generalize l[j].1 = kd at *
      generalize l[j].2.2.1 = fd at *
      generalize l[j].2.2.2.1 = ud at *
      have p0 : wr.cell? ⟨g1, o1 + j * 13, none⟩ = some (.int .i64 kd) := HP.out 0 _ rfl
      have p1 : wr.cell? ⟨g1, o1 + j * 13 + 1, none⟩ = some (.string (tx nb0)) := by rw [Nat.add_assoc]; exact HP.out 1 _ rfl
      have p2 : wr.cell? ⟨g1, o1 + j * 13 + 2, none⟩ = some (.bool fd) := by rw [Nat.add_assoc]; exact HP.out 2 _ rfl
      have p3 : wr.cell? ⟨g1, o1 + j * 13 + 3, none⟩ = some (.int .u64 ud) := by rw [Nat.add_assoc]; exact HP.out 3 _ rfl
      have p4 : wr.cell? ⟨g1, o1 + j * 13 + 4, none⟩ = some (.slice aq nq cq) := by rw [Nat.add_assoc]; exact HP.out 4 _ rfl
      have p5 : wr.cell? ⟨g1, o1 + j * 13 + 5, none⟩ = some (.int .i64 k) := by rw [Nat.add_assoc]; exact HP.out 5 _ rfl
      have p6 : wr.cell? ⟨g1, o1 + j * 13 + 6, none⟩ = some (.string (tx nm)) := by rw [Nat.add_assoc]; exact HP.out 6 _ rfl
      have p7 : wr.cell? ⟨g1, o1 + j * 13 + 7, none⟩ = some (.bool f) := by rw [Nat.add_assoc]; exact HP.out 7 _ rfl
      have p8 : wr.cell? ⟨g1, o1 + j * 13 + 8, none⟩ = some (.int .u64 u) := by rw [Nat.add_assoc]; exact HP.out 8 _ rfl
      have p9 : wr.cell? ⟨g1, o1 + j * 13 + 9, none⟩ = some (.slice ap np cp) := by rw [Nat.add_assoc]; exact HP.out 9 _ rfl
      have p10 : wr.cell? ⟨g1, o1 + j * 13 + 10, none⟩ = some (.slice ak nk ck) := by rw [Nat.add_assoc]; exact HP.out 10 _ rfl
      have p11 : wr.cell? ⟨g1, o1 + j * 13 + 11, none⟩ = some (.slice ab nb cb) := by rw [Nat.add_assoc]; exact HP.out 11 _ rfl
      have p12 : wr.cell? ⟨g1, o1 + j * 13 + 12, none⟩ = some (.slice aa na ca) := by rw [Nat.add_assoc]; exact HP.out 12 _ rfl
      have ej : IntKind.i64.wrap ((j : Int) + 1) = (j : Int) + 1 := by rw [IntKind.wrap_i64]; omega
      have b0 : (0 : Int) ≤ (j : Int) := by omega
      have HX := Hd ((Below.refl wr.heap.size wr).alloc Nr (.cells #[.int .i64 kd, .string (tx nb0), .bool fd, .int .u64 ud, .slice aq nq cq, .int .i64 k, .string (tx nm), .bool f, .int .u64 u, .slice ap np cp, .slice ak nk ck, .slice ab nb cb, .slice aa na ca] 135))
      go_wp2_with fail
      refine (HCj.out _ (onB' HR.out.1 HX.out)).mono ?_
      rintro e w4 ⟨rfl, hb4⟩
      have HB4 := Hd (onB' (onB' HR.out.1 HX.out) hb4)
      clear hb4 HCj HP
      cases hfo : fo with
      | none =>
        unfold vErr
        have HTn := Hd (HTj.out.trans hfo)
        clear hfo
        go_wp2_with fail
        exact ⟨⟨j + 1, by omega, by go_num, HB4.out, HTn.out⟩, by simp [RowKit.intOf]; omega⟩
      | some v =>
        obtain ⟨er, n⟩ := v
        have HFn := Hd (HF.out (by rw [hfo]; rfl))
        unfold vErr
        clear HF HTj
        subst hfo
        go_wp2_with fail
        go_ret
        exact ⟨by rw [HFn.out]; rfl, HB4.out⟩
    · obtain rfl : j = l.length := by omega
      go_wp2_with fail
      go_ret
      have h := HR.out.2
      rw [List.take_length] at h
      rw [h]
      exact ⟨rfl, HR.out.1⟩
def PlcC (n : Nat) : Prop :=
  ∀ (x : Ex) (K : Nat → Prop) (W : World) (bc nc : Nat) (cs : List Nm) (bs ns : Nat) (sc : List Nm) (k : Int) (nm : Nm) (f : Bool) (u : Int) (ap : Option Addr) (np cp : Nat) (ak : Option Addr) (nk ck : Nat) (ab : Option Addr) (nb cb : Nat) (aa : Option Addr) (na ca : Nat), SizeOf.sizeOf x ≤ n → wfE x → ns + wtE x ≤ 100000 → NSet W bc nc cs → NSet W bs ns sc → ExAt W K x [.int .i64 k, .string (tx nm), .bool f, .int .u64 u, .slice ap np cp, .slice ak nk ck, .slice ab nb cb, .slice aa na ca] →
    Calls Tryz.prog 96 #[.agg #[.map (some bc), .map (some bs)], .agg #[.int .i64 k, .string (tx nm), .bool f, .int .u64 u, .slice ap np cp, .slice ak nk ck, .slice ab nb cb, .slice aa na ca]] W fun e w' => e = .returned (vErr (scE cs sc x)) ∧ Below W.heap.size W w'
theorem nms_len {l : List Nm} (h : Nms l) : ∀ x, x ∈ l → x.length ≤ 100000 := fun x hx => (h x hx).2
theorem bodies_any (n : Nat) (hP : PlcC n) (bc nc : Nat) (cs : List Nm) (bs ns : Nat) (sc l : List Nm) (of : List Ex) (hl : Nms l) (hof : ∀ x, x ∈ of → SizeOf.sizeOf x ≤ n ∧ wfE x) (hn : ns + l.length + sumN wtE of ≤ 100000) (a1 : Option Addr) (c1 : Nat) (a2 : Option Addr) (c2 : Nat) (K1 K2 K3 : Nat → Prop) (xs : List Value) (w : World) (hc : NSet w bc nc cs) (hs : NSet w bs ns sc) (hr : RowAt w K1 9 1 (.slice a1 l.length c1) l.length (namesV l)) (hr2 : RowAt w K2 57 8 (.slice a2 of.length c2) of.length xs) (ht : ExsAt w K3 of xs) :
    Calls Tryz.prog 85 #[.agg #[.map (some bc), .map (some bs)], .slice a1 l.length c1, .slice a2 of.length c2] w fun e w' => e = .returned (vErr ((twF l).or (scEs cs (sc ++ l) of))) ∧ Below w.heap.size w w' := by
  have hx := (Below.refl w.heap.size w).alloc Nr (.cells #[.map (some bc), .map (some bs)] 131)
  have HX := Hd hx
  have HU := Hd (under_any bc bs ns sc l (nms_len hl) (by omega) a1 c1 (fun g => g < w.heap.size) (w.alloc (.cells #[.map (some bc), .map (some bs)] 131)) (hs.later hx) (hr.low hx))
  have HO := Hd (Ai hc (Ai hr2 ht))
  have HOf := Hd hof
  clear hx hs hr hr2 ht hc hl hof
  go_enter Tryz.func85, Tryz.ntmps85
  go_wp2_with fail
  refine HU.out.mono ?_
  rintro e w2 ⟨hw, hb2⟩
  have HB2 := Hd (onB' HX.out hb2)
  have HS := Hd hw
  clear hb2 hw HU HX
  cases htw : twF l with
  | some fo =>
    have h := HS.out
    unfold UnderSaid at h
    rw [htw] at h
    subst h
    obtain ⟨er, nm⟩ := fo
    unfold vErr
    have HE := Hd ((Below.refl w2.heap.size w2).alloc Nr (.cells #[.map (some bc), .map none] 131))
    have HT := Hd htw
    clear htw HS
    go_wp2_with fail
    go_ret
    exact ⟨by rw [HT.out]; rfl, onB' HB2.out HE.out⟩
  | none =>
    have h := HS.out
    unfold UnderSaid at h
    rw [htw] at h
    obtain ⟨b, rfl, hs⟩ := h
    have hy := (Below.refl w2.heap.size w2).alloc Nr (.cells #[.map (some bc), .map (some b)] 131)
    have HE := Hd (Ai (onB' HB2.out hy) (hs.later hy))
    have HBy := Hd (BoxW.alloc w2 #[.map (some bc), .map (some b)] 131)
    have HT := Hd htw
    clear htw HS hs hy
    go_upto_region 4 with fail
    generalize (w2.alloc (.cells #[.map (some bc), .map (some b)] 131)) = W3 at *
    have d0 : W3.cell? ⟨w2.heap.size, 0, none⟩ = some (.map (some bc)) := HBy.out.1 0 _ rfl
    have d1 : W3.cell? ⟨w2.heap.size, 1, none⟩ = some (.map (some b)) := HBy.out.1 1 _ rfl
    have hmf : ∀ (fn : Fn) (first cap : Array Value) (w : World), (Instr.makeFunc fn first cap).run Tryz.prog w = .ok (.func fn first cap) w := fun _ _ _ _ => rfl
    have HF := Hd (first_expr 96 (enters_of Tryz.func96 (by kernel_rfl) rfl) bc b (scE cs (sc ++ l)) of a2 c2 (fun g => g < w.heap.size) K3 xs W3 (HO.out.2.1.low HE.out.1) (HO.out.2.2.move fun g hk lt => ⟨hk, HE.out.1.block g lt⟩)
      (fun j hj k nm f u ap np cp ak nk ck ab nb cb aa na ca W hb hE => hP of[j] K3 W bc nc cs b (ns + l.length) (sc ++ l) k nm f u ap np cp ak nk ck ab nb cb aa na ca (HOf.out _ (List.getElem_mem hj)).1 (HOf.out _ (List.getElem_mem hj)).2 (by have := sumN_mem wtE (List.getElem_mem hj); omega) (HO.out.1.later (onB' HE.out.1 hb)) (HE.out.2.later hb) hE))
    rw [← scEs_first] at HF
    go_wp2_with fail
    refine HF.out.mono ?_
    rintro e w4 ⟨rfl, hb4⟩
    have H4 := Hd (onB' HE.out.1 hb4)
    clear hb4 HF
    go_wp2_with fail
    go_ret
    exact ⟨by rw [HT.out]; rfl, H4.out⟩
theorem one_row {W : World} {B : Nat} {k : Int} {nm : Nm} {f : Bool} {u : Int} {ap : Option Addr} {np cp : Nat} {ak : Option Addr} {nk ck : Nat} {ab : Option Addr} {nb cb : Nat} {aa : Option Addr} {na ca : Nat} (h : W.heap[B]? = some (.cells #[.int .i64 k, .string (tx nm), .bool f, .int .u64 u, .slice ap np cp, .slice ak nk ck, .slice ab nb cb, .slice aa na ca] 57 (0, 0))) : RowAt W (fun _ => True) 57 8 (.slice (some ⟨B, 0, none⟩) 1 1) 1 [.int .i64 k, .string (tx nm), .bool f, .int .u64 u, .slice ap np cp, .slice ak nk ck, .slice ab nb cb, .slice aa na ca] := by
  refine ⟨rfl, Or.inr ⟨B, 0, 1, _, rfl, trivial, h, Nat.le_refl _, by decide, fun j v hj => ?_⟩⟩
  rw [Nat.zero_add, cell_of_row W B j _ _ (0, 0) h]
  simpa using hj
theorem name_row {W : World} {B : Nat} {x : Nm} (h : W.heap[B]? = some (.cells #[.string (tx x)] 9 (0, 0))) : RowAt W (fun _ => True) 9 1 (.slice (some ⟨B, 0, none⟩) 1 1) 1 (namesV [x]) := by
  refine ⟨rfl, Or.inr ⟨B, 0, 1, _, rfl, trivial, h, Nat.le_refl _, by decide, fun j v hj => ?_⟩⟩
  rw [Nat.zero_add, cell_of_row W B j _ _ (0, 0) h]
  simpa [namesV] using hj
theorem bodies_one (n : Nat) (hP : PlcC n) (bc nc : Nat) (cs : List Nm) (bs ns : Nat) (sc l : List Nm) (x : Ex) (hl : Nms l) (hx : SizeOf.sizeOf x ≤ n ∧ wfE x) (hn : ns + l.length + wtE x ≤ 100000) (a1 : Option Addr) (c1 : Nat) (k : Int) (nm : Nm) (f : Bool) (u : Int) (ap : Option Addr) (np cp : Nat) (ak : Option Addr) (nk ck : Nat) (ab : Option Addr) (nb cb : Nat) (aa : Option Addr) (na ca : Nat) (K1 K3 : Nat → Prop) (V : World) (B : Nat) (hB : V.heap.size = B) (hc : NSet V bc nc cs) (hs : NSet V bs ns sc) (hr : RowAt V K1 9 1 (.slice a1 l.length c1) l.length (namesV l)) (ht : ExAt V K3 x [.int .i64 k, .string (tx nm), .bool f, .int .u64 u, .slice ap np cp, .slice ak nk ck, .slice ab nb cb, .slice aa na ca]) :
    Calls Tryz.prog 85 #[.agg #[.map (some bc), .map (some bs)], .slice a1 l.length c1, .slice (some ⟨B, 0, none⟩) 1 1] (V.alloc (.cells #[.int .i64 k, .string (tx nm), .bool f, .int .u64 u, .slice ap np cp, .slice ak nk ck, .slice ab nb cb, .slice aa na ca] 57)) fun e w' => e = .returned (vErr ((twF l).or (scE cs (sc ++ l) x))) ∧ Below V.heap.size V w' := by
  subst hB
  have hb := (Below.refl V.heap.size V).alloc Nr (.cells #[.int .i64 k, .string (tx nm), .bool f, .int .u64 u, .slice ap np cp, .slice ak nk ck, .slice ab nb cb, .slice aa na ca] 57)
  have h := bodies_any n hP bc nc cs bs ns sc l [x] hl (fun y hy => by rw [List.mem_singleton.1 hy]; exact hx) (by simp only [sumN]; omega) a1 c1 (some ⟨V.heap.size, 0, none⟩) 1 (fun g => g < V.heap.size) (fun _ => True) K3 [.int .i64 k, .string (tx nm), .bool f, .int .u64 u, .slice ap np cp, .slice ak nk ck, .slice ab nb cb, .slice aa na ca] (V.alloc (.cells #[.int .i64 k, .string (tx nm), .bool f, .int .u64 u, .slice ap np cp, .slice ak nk ck, .slice ab nb cb, .slice aa na ca] 57)) (hc.later hb) (hs.later hb) (hr.low hb) (one_row (heap_alloc_new _ _)) (by
    have h := ExsAt.cons x [] _ [] (ht.move fun g hk lt => ⟨hk, hb.block g lt⟩) .nil
    rwa [List.append_nil] at h)
  refine h.mono fun e w' hh => ⟨?_, onB' hb hh.2⟩
  rw [hh.1]
  unfold scEs
  have e0 : scEs cs (sc ++ l) [] = none := by unfold scEs; rfl
  rw [e0, or_nil]
theorem pbind_any (n : Nat) (hP : PlcC n) (bc nc : Nat) (cs : List Nm) (bs ns : Nat) (sc : List Nm) (bd : Bnd) (hz : SizeOf.sizeOf bd.2.2 ≤ n) (hw : Nms bd.2.1 ∧ wfE bd.2.2) (hn : ns + nB bd ≤ 100000) (aq : Option Addr) (cq : Nat) (k : Int) (nm : Nm) (f : Bool) (u : Int) (ap : Option Addr) (np cp : Nat) (ak : Option Addr) (nk ck : Nat) (ab : Option Addr) (nb cb : Nat) (aa : Option Addr) (na ca : Nat) (K1 K3 : Nat → Prop) (w : World) (hc : NSet w bc nc cs) (hs : NSet w bs ns sc) (hr : RowAt w K1 9 1 (.slice aq bd.2.1.length cq) bd.2.1.length (namesV bd.2.1)) (ht : ExAt w K3 bd.2.2 [.int .i64 k, .string (tx nm), .bool f, .int .u64 u, .slice ap np cp, .slice ak nk ck, .slice ab nb cb, .slice aa na ca]) :
    Calls Tryz.prog 65 #[.agg #[.map (some bc), .map (some bs)], .agg #[.string (tx bd.1), .slice aq bd.2.1.length cq, .int .i64 k, .string (tx nm), .bool f, .int .u64 u, .slice ap np cp, .slice ak nk ck, .slice ab nb cb, .slice aa na ca]] w fun e w' => e = .returned (vErr ((twF bd.2.1).or (scE cs (sc ++ bd.2.1) bd.2.2))) ∧ Below w.heap.size w w' := by
  have hx1 := (Below.refl w.heap.size w).alloc Nr (.cells #[.map (some bc), .map (some bs)] 131)
  have hx := hx1.alloc hx1.size (.cells #[.string (tx bd.1), .slice aq bd.2.1.length cq, .int .i64 k, .string (tx nm), .bool f, .int .u64 u, .slice ap np cp, .slice ak nk ck, .slice ab nb cb, .slice aa na ca] 59)
  have HO := Hd (bodies_one n hP bc nc cs bs ns sc bd.2.1 bd.2.2 hw.1 ⟨hz, hw.2⟩ (by unfold nB at hn; omega) aq cq k nm f u ap np cp ak nk ck ab nb cb aa na ca (fun g => g < w.heap.size) K3 ((w.alloc (.cells #[.map (some bc), .map (some bs)] 131)).alloc (.cells #[.string (tx bd.1), .slice aq bd.2.1.length cq, .int .i64 k, .string (tx nm), .bool f, .int .u64 u, .slice ap np cp, .slice ak nk ck, .slice ab nb cb, .slice aa na ca] 59)) (w.heap.size + 1 + 1) (by simp) (hc.later hx) (hs.later hx) (hr.low hx) (ht.move fun g hk lt => ⟨hk, hx.block g lt⟩))
  have HX := Hd hx
  clear hc hs hr ht hx hx1
  go_enter Tryz.func65, Tryz.ntmps65
  go_wp2_with fail
  refine HO.out.mono ?_
  rintro e w2 ⟨rfl, hb2⟩
  have HB := Hd (onB' HX.out hb2)
  clear hb2 HO
  go_wp2_with fail
  go_ret
  exact ⟨rfl, HB.out⟩
theorem palt_any (n : Nat) (hP : PlcC n) (bc nc : Nat) (cs : List Nm) (bs ns : Nat) (sc : List Nm) (al : Alt) (hz : SizeOf.sizeOf al.2.2.2.2.2 ≤ n) (hw : wA al) (hn : ns + nA al ≤ 100000) (aq : Option Addr) (cq : Nat) (k : Int) (nm : Nm) (f : Bool) (u : Int) (ap : Option Addr) (np cp : Nat) (ak : Option Addr) (nk ck : Nat) (ab : Option Addr) (nb cb : Nat) (aa : Option Addr) (na ca : Nat) (K1 K3 : Nat → Prop) (w : World) (hc : NSet w bc nc cs) (hs : NSet w bs ns sc) (hr : RowAt w K1 9 1 (.slice aq al.2.2.2.2.1.length cq) al.2.2.2.2.1.length (namesV al.2.2.2.2.1)) (ht : ExAt w K3 al.2.2.2.2.2 [.int .i64 k, .string (tx nm), .bool f, .int .u64 u, .slice ap np cp, .slice ak nk ck, .slice ab nb cb, .slice aa na ca]) :
    Calls Tryz.prog 101 #[.agg #[.map (some bc), .map (some bs)], .agg #[.int .i64 al.1, .string (tx al.2.1), .bool al.2.2.1, .int .u64 al.2.2.2.1, .slice aq al.2.2.2.2.1.length cq, .int .i64 k, .string (tx nm), .bool f, .int .u64 u, .slice ap np cp, .slice ak nk ck, .slice ab nb cb, .slice aa na ca]] w fun e w' => e = .returned (vErr (scA cs sc al)) ∧ Below w.heap.size w w' := by
  have hx1 := (Below.refl w.heap.size w).alloc Nr (.cells #[.map (some bc), .map (some bs)] 131)
  have hx := hx1.alloc hx1.size (.cells #[.int .i64 al.1, .string (tx al.2.1), .bool al.2.2.1, .int .u64 al.2.2.2.1, .slice aq al.2.2.2.2.1.length cq, .int .i64 k, .string (tx nm), .bool f, .int .u64 u, .slice ap np cp, .slice ak nk ck, .slice ab nb cb, .slice aa na ca] 135)
  have hB1 := (BoxW.alloc w #[.map (some bc), .map (some bs)] 131).below (Br.alloc Nr (.cells #[.int .i64 al.1, .string (tx al.2.1), .bool al.2.2.1, .int .u64 al.2.2.2.1, .slice aq al.2.2.2.2.1.length cq, .int .i64 k, .string (tx nm), .bool f, .int .u64 u, .slice ap np cp, .slice ak nk ck, .slice ab nb cb, .slice aa na ca] 135))
  have hB2 := BoxW.alloc (w.alloc (.cells #[.map (some bc), .map (some bs)] 131)) #[.int .i64 al.1, .string (tx al.2.1), .bool al.2.2.1, .int .u64 al.2.2.2.1, .slice aq al.2.2.2.2.1.length cq, .int .i64 k, .string (tx nm), .bool f, .int .u64 u, .slice ap np cp, .slice ak nk ck, .slice ab nb cb, .slice aa na ca] 135
  rw [show (w.alloc (.cells #[.map (some bc), .map (some bs)] 131)).heap.size = w.heap.size + 1 by simp] at hB2
  have hz2 : ((w.alloc (.cells #[.map (some bc), .map (some bs)] 131)).alloc (.cells #[.int .i64 al.1, .string (tx al.2.1), .bool al.2.2.1, .int .u64 al.2.2.2.1, .slice aq al.2.2.2.2.1.length cq, .int .i64 k, .string (tx nm), .bool f, .int .u64 u, .slice ap np cp, .slice ak nk ck, .slice ab nb cb, .slice aa na ca] 135)).heap.size = w.heap.size + 1 + 1 := by simp
  obtain ⟨hw1, ⟨hw2, -⟩, hw3⟩ := hw
  have hn' : ns + (1 + al.2.2.2.2.1.length + wtE al.2.2.2.2.2) ≤ 100000 := hn
  by_cases g0 : al.1 = 0
  · have hsa : scA cs sc al = (hasF cs al.2.1).or ((twF al.2.2.2.2.1).or (scE cs (sc ++ al.2.2.2.2.1) al.2.2.2.2.2)) := if_pos g0
    rw [hsa, g0]
    rw [g0] at hx hB1 hB2 hz2
    have HF := Hd (nfault_any bc nc cs al.2.1 (hw1 (Or.inl g0)).2 ((w.alloc (.cells #[.map (some bc), .map (some bs)] 131)).alloc (.cells #[.int .i64 0, .string (tx al.2.1), .bool al.2.2.1, .int .u64 al.2.2.2.1, .slice aq al.2.2.2.2.1.length cq, .int .i64 k, .string (tx nm), .bool f, .int .u64 u, .slice ap np cp, .slice ak nk ck, .slice ab nb cb, .slice aa na ca] 135)) (hc.later hx))
    have HX := Hd (Ai hx (Ai hB1 (Ai hB2 hz2)))
    have HO := Hd (Ai hc (Ai hs (Ai hr ht)))
    clear hc hs hr ht hx hx1 hB1 hB2 hz2 hsa
    go_enter Tryz.func101, Tryz.ntmps101
    go_wp2_with fail
    refine HF.out.mono ?_
    rintro e w2 ⟨rfl, hb2⟩
    have HB := Hd (Ai (onB' HX.out.1 hb2) (Ai (HX.out.2.1.below hb2) (HX.out.2.2.1.below hb2)))
    clear hb2 HF HX
    cases hfo : hasF cs al.2.1 with
    | some fo =>
      obtain ⟨er, nn⟩ := fo
      have HT := Hd hfo
      unfold vErr
      clear hfo
      go_wp2_with fail
      go_ret
      exact ⟨by rw [HT.out]; rfl, HB.out.1⟩
    | none =>
      have HT := Hd hfo
      unfold vErr
      clear hfo
      have r0 : w2.cell? ⟨w.heap.size, 0, none⟩ = some (.map (some bc)) := HB.out.2.1.1 0 _ rfl
      have r1 : w2.cell? ⟨w.heap.size, 1, none⟩ = some (.map (some bs)) := HB.out.2.1.1 1 _ rfl
      have q0 : w2.cell? ⟨w.heap.size + 1, 0, none⟩ = some (.int .i64 0) := HB.out.2.2.1 0 _ rfl
      have q1 : w2.cell? ⟨w.heap.size + 1, 1, none⟩ = some (.string (tx al.2.1)) := HB.out.2.2.1 1 _ rfl
      have q2 : w2.cell? ⟨w.heap.size + 1, 2, none⟩ = some (.bool al.2.2.1) := HB.out.2.2.1 2 _ rfl
      have q3 : w2.cell? ⟨w.heap.size + 1, 3, none⟩ = some (.int .u64 al.2.2.2.1) := HB.out.2.2.1 3 _ rfl
      have q4 : w2.cell? ⟨w.heap.size + 1, 4, none⟩ = some (.slice aq al.2.2.2.2.1.length cq) := HB.out.2.2.1 4 _ rfl
      have q5 : w2.cell? ⟨w.heap.size + 1, 5, none⟩ = some (.int .i64 k) := HB.out.2.2.1 5 _ rfl
      have q6 : w2.cell? ⟨w.heap.size + 1, 6, none⟩ = some (.string (tx nm)) := HB.out.2.2.1 6 _ rfl
      have q7 : w2.cell? ⟨w.heap.size + 1, 7, none⟩ = some (.bool f) := HB.out.2.2.1 7 _ rfl
      have q8 : w2.cell? ⟨w.heap.size + 1, 8, none⟩ = some (.int .u64 u) := HB.out.2.2.1 8 _ rfl
      have q9 : w2.cell? ⟨w.heap.size + 1, 9, none⟩ = some (.slice ap np cp) := HB.out.2.2.1 9 _ rfl
      have q10 : w2.cell? ⟨w.heap.size + 1, 10, none⟩ = some (.slice ak nk ck) := HB.out.2.2.1 10 _ rfl
      have q11 : w2.cell? ⟨w.heap.size + 1, 11, none⟩ = some (.slice ab nb cb) := HB.out.2.2.1 11 _ rfl
      have q12 : w2.cell? ⟨w.heap.size + 1, 12, none⟩ = some (.slice aa na ca) := HB.out.2.2.1 12 _ rfl
      have HO2 := Hd (bodies_one n hP bc nc cs bs ns sc al.2.2.2.2.1 al.2.2.2.2.2 hw2 ⟨hz, hw3⟩ (by omega) aq cq k nm f u ap np cp ak nk ck ab nb cb aa na ca (fun g => g < w.heap.size) K3 w2 w2.heap.size rfl (HO.out.1.later HB.out.1) (HO.out.2.1.later HB.out.1) (HO.out.2.2.1.low HB.out.1) (HO.out.2.2.2.move fun g hk lt => ⟨hk, HB.out.1.block g lt⟩))
      go_wp2_with fail
      refine HO2.out.mono ?_
      rintro e w3 ⟨rfl, hb3⟩
      have HB3 := Hd (onB' HB.out.1 hb3)
      clear hb3 HO2
      go_wp2_with fail
      go_ret
      exact ⟨by rw [HT.out]; rfl, HB3.out⟩
  · by_cases g2 : al.1 = 2
    · have hsa : scA cs sc al = scE cs (sc ++ [al.2.1]) al.2.2.2.2.2 := (if_neg g0).trans (if_pos g2)
      rw [hsa, g2]
      rw [g2] at hx hB1 hB2 hz2
      have hy := hx.alloc hx.size (.cells #[.string (tx al.2.1)] 9)
      have hrow : RowAt ((((w.alloc (.cells #[.map (some bc), .map (some bs)] 131)).alloc (.cells #[.int .i64 2, .string (tx al.2.1), .bool al.2.2.1, .int .u64 al.2.2.2.1, .slice aq al.2.2.2.2.1.length cq, .int .i64 k, .string (tx nm), .bool f, .int .u64 u, .slice ap np cp, .slice ak nk ck, .slice ab nb cb, .slice aa na ca] 135))).alloc (.cells #[.string (tx al.2.1)] 9)) (fun _ => True) 9 1 (.slice (some ⟨w.heap.size + 1 + 1, 0, none⟩) 1 1) 1 (namesV [al.2.1]) := by
        have h := heap_alloc_new ((w.alloc (.cells #[.map (some bc), .map (some bs)] 131)).alloc (.cells #[.int .i64 2, .string (tx al.2.1), .bool al.2.2.1, .int .u64 al.2.2.2.1, .slice aq al.2.2.2.2.1.length cq, .int .i64 k, .string (tx nm), .bool f, .int .u64 u, .slice ap np cp, .slice ak nk ck, .slice ab nb cb, .slice aa na ca] 135)) (.cells #[.string (tx al.2.1)] 9)
        rw [hz2] at h
        exact name_row h
      have HO := Hd (bodies_one n hP bc nc cs bs ns sc [al.2.1] al.2.2.2.2.2 (fun y hy => by rw [List.mem_singleton.1 hy]; exact hw1 (Or.inr g2)) ⟨hz, hw3⟩ (by simp only [List.length_cons, List.length_nil]; omega) (some ⟨w.heap.size + 1 + 1, 0, none⟩) 1 k nm f u ap np cp ak nk ck ab nb cb aa na ca (fun _ => True) K3 ((((w.alloc (.cells #[.map (some bc), .map (some bs)] 131)).alloc (.cells #[.int .i64 2, .string (tx al.2.1), .bool al.2.2.1, .int .u64 al.2.2.2.1, .slice aq al.2.2.2.2.1.length cq, .int .i64 k, .string (tx nm), .bool f, .int .u64 u, .slice ap np cp, .slice ak nk ck, .slice ab nb cb, .slice aa na ca] 135))).alloc (.cells #[.string (tx al.2.1)] 9)) (w.heap.size + 1 + 1 + 1) (by simp) (hc.later hy) (hs.later hy) hrow (ht.move fun g hk lt => ⟨hk, hy.block g lt⟩))
      have HX := Hd hy
      clear hc hs hr ht hx hx1 hB1 hB2 hz2 hsa hrow hy
      go_enter Tryz.func101, Tryz.ntmps101
      go_wp2_with fail
      refine HO.out.mono ?_
      rintro e w3 ⟨rfl, hb3⟩
      have HB3 := Hd (onB' HX.out hb3)
      clear hb3 HO
      go_wp2_with fail
      go_ret
      exact ⟨rfl, HB3.out⟩
    · have hsa : scA cs sc al = scE cs sc al.2.2.2.2.2 := (if_neg g0).trans (if_neg g2)
      rw [hsa]
      have f0 : (al.1 == 0) = false := by simpa using g0
      have f2 : (al.1 == 2) = false := by simpa using g2
      have HO := Hd (hP al.2.2.2.2.2 K3 ((w.alloc (.cells #[.map (some bc), .map (some bs)] 131)).alloc (.cells #[.int .i64 al.1, .string (tx al.2.1), .bool al.2.2.1, .int .u64 al.2.2.2.1, .slice aq al.2.2.2.2.1.length cq, .int .i64 k, .string (tx nm), .bool f, .int .u64 u, .slice ap np cp, .slice ak nk ck, .slice ab nb cb, .slice aa na ca] 135)) bc nc cs bs ns sc k nm f u ap np cp ak nk ck ab nb cb aa na ca hz hw3 (by omega) (hc.later hx) (hs.later hx) (ht.move fun g hk lt => ⟨hk, hx.block g lt⟩))
      have HX := Hd hx
      clear hc hs hr ht hx hx1 hB1 hB2 hz2 hsa
      go_enter Tryz.func101, Tryz.ntmps101
      go_wp2_with fail
      refine HO.out.mono ?_
      rintro e w3 ⟨rfl, hb3⟩
      have HB3 := Hd (onB' HX.out hb3)
      clear hb3 HO
      go_wp2_with fail
      go_ret
      exact ⟨rfl, HB3.out⟩
end Go.Proofs.YtdjcdecbmeickaaGreatDoor
