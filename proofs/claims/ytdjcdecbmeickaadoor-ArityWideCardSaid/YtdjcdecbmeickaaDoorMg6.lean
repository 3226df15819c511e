import Derived.Test.YtdjcdecbmeickaaDoorMg4
import Derived.Test.YtdjcdecbmeickaaDoorMg5
namespace Go.Proofs.YtdjcdecbmeickaaDoor
set_option maxHeartbeats 64000000
set_option maxRecDepth 100000
open Go.RowKit Go.Lib
theorem nfault_any (b n : Nat) (dom : List Nm) (x : Nm) (hx : x.length ≤ 100000) (w : World) (h : NSet w b n dom) : Calls Tryd.prog 97 #[.map (some b), .string (tx x)] w fun e w' => e = .returned (vErr (hasF dom x)) ∧ Below w.heap.size w w' := by
  have hl := h.look x hx
  by_cases g : x ∈ dom
  · rw [decide_eq_true g] at hl
    have hf : hasF dom x = none := if_pos g
    rw [hf]
    go_enter Tryd.func97, Tryd.ntmps97
    go_wp2_with fail
    go_ret
    exact ⟨rfl, Below.refl _ _⟩
  · rw [decide_eq_false g] at hl
    have hf : hasF dom x = some (4, x) := if_neg g
    rw [hf]
    go_enter Tryd.func97, Tryd.ntmps97
    go_wp2_with fail
    go_ret
    exact ⟨rfl, Below.refl _ _⟩
theorem NSet.ne {w : World} {b n k i : Nat} {dom : List Nm} {v : Value} (h : NSet w b n dom) (hc : w.cell? ⟨k, i, none⟩ = some v) : b ≠ k := by
  obtain ⟨D, ⟨es, c, hb, r⟩, h2⟩ := h
  intro e
  subst e
  simp [World.cell?, hb] at hc
def UnderSaid (bc cnt : Nat) (dom l : List Nm) (e : Ending) (w' : World) : Prop :=
  match twF l with
  | some f => e = .returned (.tuple #[.agg #[.map (some bc), .map none], vErr (some f)])
  | none => ∃ b, e = .returned (.tuple #[.agg #[.map (some bc), .map (some b)], .nilIface]) ∧ NSet w' b (cnt + l.length) (dom ++ l)
theorem under_any (bc bm cnt : Nat) (dom l : List Nm) (hl : ∀ x, x ∈ l → x.length ≤ 100000) (hn : cnt + l.length ≤ 100000) (a : Option Addr) (c : Nat) (K : Nat → Prop) (w : World) (hs : NSet w bm cnt dom) (hr : RowAt w K 9 1 (.slice a l.length c) l.length (namesV l)) :
    Calls Tryd.prog 90 #[.agg #[.map (some bc), .map (some bm)], .slice a l.length c] w fun e w' => UnderSaid bc cnt dom l e w' ∧ Below w.heap.size w w' := by
  have hx1 := (Below.refl w.heap.size w).alloc Nr (.cells #[.map (some bc), .map (some bm)] 113)
  have hx := hx1.alloc hx1.size (.cells #[.map none, .map none] 113)
  have hB1 := (BoxW.alloc w #[.map (some bc), .map (some bm)] 113).below (Br.alloc Nr (.cells #[.map none, .map none] 113))
  have hB2 := BoxW.alloc (w.alloc (.cells #[.map (some bc), .map (some bm)] 113)) #[.map none, .map none] 113
  rw [show (w.alloc (.cells #[.map (some bc), .map (some bm)] 113)).heap.size = w.heap.size + 1 by simp] at hB2
  have HX := Hd (Ai hx (Ai hB1 hB2))
  have HW := Hd (with_any bm cnt dom l hl hn a c (fun g => g < w.heap.size) ((w.alloc (.cells #[.map (some bc), .map (some bm)] 113)).alloc (.cells #[.map none, .map none] 113)) (hs.later hx) (hr.low hx))
  clear hx hx1 hs hr hl hB1 hB2
  go_enter Tryd.func90, Tryd.ntmps90
  go_upto_region 1 with fail
  generalize ((w.alloc (.cells #[.map (some bc), .map (some bm)] 113)).alloc (.cells #[.map none, .map none] 113)) = W at *
  have d0 : W.cell? ⟨w.heap.size, 0, none⟩ = some (.map (some bc)) := HX.out.2.1.1 0 _ rfl
  have d1 : W.cell? ⟨w.heap.size, 1, none⟩ = some (.map (some bm)) := HX.out.2.1.1 1 _ rfl
  go_wp2_with fail
  refine HW.out.mono ?_
  rintro e w2 ⟨hw, hb2⟩
  have HB2 := Hd (onB' HX.out.1 hb2)
  have e0 := later' hb2 d0
  have HBx := Hd (HX.out.2.2.below hb2)
  have c0 : w2.cell? ⟨w.heap.size + 1, 0, none⟩ = some _ := HBx.out.1 0 _ rfl
  have c1 : w2.cell? ⟨w.heap.size + 1, 1, none⟩ = some _ := HBx.out.1 1 _ rfl
  have f0 := HBx.out.2 0
  have f1 := HBx.out.2 1
  have HS := Hd hw
  clear hb2 hw d0 d1 HW HX
  cases htw : twF l with
  | some fo =>
    have h := HS.out
    unfold WithSaid at h
    rw [htw] at h
    subst h
    obtain ⟨er, nm⟩ := fo
    unfold vErr
    have HE := Hd htw
    clear htw HS
    go_wp2_with fail
    have v0 : ((w2.setCell ⟨w.heap.size + 1, 0, none⟩ (.map (some bc))).setCell ⟨w.heap.size + 1, 1, none⟩ (.map none)).cell? ⟨w.heap.size + 1, 0, none⟩ = some (.map (some bc)) := (at_oth _ _ _ _ _ (by decide)).trans (at_sam _ c0)
    have v1 : ((w2.setCell ⟨w.heap.size + 1, 0, none⟩ (.map (some bc))).setCell ⟨w.heap.size + 1, 1, none⟩ (.map none)).cell? ⟨w.heap.size + 1, 1, none⟩ = some (.map none) := at_sam _ ((at_oth _ _ _ _ _ (by decide)).trans c1)
    refine bodyPost_ret (v := .tuple #[.agg #[.map (some bc), .map none], .iface 59 (.agg #[.int .i64 er, .string (tx nm)])]) (by simp [results, Tryd.results90, go_sem, v0, v1]) rfl ⟨?_, ?_⟩
    · unfold UnderSaid
      rw [HE.out]
      rfl
    · exact below_of_new (below_of_new HB2.out (set_grown ..) (by omega)) (set_grown ..) (by omega)
  | none =>
    have h := HS.out
    unfold WithSaid at h
    rw [htw] at h
    obtain ⟨b, rfl, hs⟩ := h
    have HE := Hd (Ai htw hs)
    clear htw HS hs
    go_wp2_with fail
    have v0 : ((w2.setCell ⟨w.heap.size + 1, 0, none⟩ (.map (some bc))).setCell ⟨w.heap.size + 1, 1, none⟩ (.map (some b))).cell? ⟨w.heap.size + 1, 0, none⟩ = some (.map (some bc)) := (at_oth _ _ _ _ _ (by decide)).trans (at_sam _ c0)
    have v1 : ((w2.setCell ⟨w.heap.size + 1, 0, none⟩ (.map (some bc))).setCell ⟨w.heap.size + 1, 1, none⟩ (.map (some b))).cell? ⟨w.heap.size + 1, 1, none⟩ = some (.map (some b)) := at_sam _ ((at_oth _ _ _ _ _ (by decide)).trans c1)
    refine bodyPost_ret (v := .tuple #[.agg #[.map (some bc), .map (some b)], .nilIface]) (by simp [results, Tryd.results90, go_sem, v0, v1]) rfl ⟨?_, ?_⟩
    · unfold UnderSaid
      rw [HE.out.1]
      have hne := HE.out.2.ne c0
      have hlt := HE.out.2.lt
      have g := Gt (set_grown w2 (w.heap.size + 1) 0 (.map (some bc))) (set_grown (w2.setCell ⟨w.heap.size + 1, 0, none⟩ (.map (some bc))) (w.heap.size + 1) 1 (.map (some b)))
      exact ⟨b, rfl, HE.out.2.same (g.block b hlt (by simpa using hne))⟩
    · exact below_of_new (below_of_new HB2.out (set_grown ..) (by omega)) (set_grown ..) (by omega)
def firstF {α : Type} (F : α → Fo) : List α → Fo
  | [] => none
  | x :: r => (F x).or (firstF F r)
theorem firstF_here {α : Type} (F : α → Fo) : ∀ (l : List α) (j : Nat) (hj : j < l.length), firstF F (l.take j) = none → (F l[j]).isSome → firstF F l = F l[j]
  | x :: r, 0, _, _, h => by
    show (F x).or (firstF F r) = F x
    have h' : (F x).isSome := h
    cases hx : F x with
    | none => rw [hx] at h'; cases h'
    | some v => rfl
  | x :: r, j + 1, hj, h0, h => by
    have h0' : (F x).or (firstF F (r.take j)) = none := h0
    obtain ⟨p, q⟩ := or_none.1 h0'
    show (F x).or (firstF F r) = F (r[j]'(by simpa using hj))
    rw [p, Option.none_or]
    exact firstF_here F r j (by simpa using hj) q h
theorem firstF_snoc {α : Type} (F : α → Fo) : ∀ (l : List α) (x : α), firstF F (l ++ [x]) = (firstF F l).or (F x)
  | [], x => by show (F x).or none = _; cases F x <;> rfl
  | y :: r, x => by
    show (F y).or (firstF F (r ++ [x])) = ((F y).or (firstF F r)).or (F x)
    rw [firstF_snoc F r x, or_assoc_f]
theorem scEs_first (cs sc : List Nm) : ∀ (l : List Ex), scEs cs sc l = firstF (scE cs sc) l
  | [] => by unfold scEs firstF; rfl
  | e :: r => by unfold scEs firstF; rw [scEs_first cs sc r]
theorem scBs_first (cs sc : List Nm) : ∀ (l : List Bnd), scBs cs sc l = firstF (fun b => (twF b.2.1).or (scE cs (sc ++ b.2.1) b.2.2)) l
  | [] => by unfold scBs firstF; rfl
  | (n, ps, e) :: r => by unfold scBs firstF; rw [scBs_first cs sc r]
def scA (cs sc : List Nm) (a : Alt) : Fo := if a.1 = 0 then (hasF cs a.2.1).or ((twF a.2.2.2.2.1).or (scE cs (sc ++ a.2.2.2.2.1) a.2.2.2.2.2)) else if a.1 = 2 then scE cs (sc ++ [a.2.1]) a.2.2.2.2.2 else scE cs sc a.2.2.2.2.2
theorem scAs_first (cs sc : List Nm) : ∀ (l : List Alt), scAs cs sc l = firstF (scA cs sc) l
  | [] => by unfold scAs firstF; rfl
  | (k, n, f, x, ns, e) :: r => by unfold scAs firstF; rw [scAs_first cs sc r]; rfl
theorem first_expr (fid : Nat) (eg : ∀ args w, (callFunc fid args).run Tryd.prog w = .ok (.enter fid args) w) (bc bs : Nat) (F : Ex → Fo) (l : List Ex) (a : Option Addr) (c : Nat) (K K2 : Nat → Prop) (xs : List Value) (w : World) (hr : RowAt w K 46 8 (.slice a l.length c) l.length xs) (ht : ExsAt w K2 l xs)
    (HC : ∀ j (hj : j < l.length) (k : Int) (nm : Nm) (f : Bool) (u : Int) (ap : Option Addr) (np cp : Nat) (ak : Option Addr) (nk ck : Nat) (ab : Option Addr) (nb cb : Nat) (aa : Option Addr) (na ca : Nat) (W : World), Below w.heap.size w W → ExAt W K2 l[j] [.int .i64 k, .string (tx nm), .bool f, .int .u64 u, .slice ap np cp, .slice ak nk ck, .slice ab nb cb, .slice aa na ca] → Calls Tryd.prog fid #[.agg #[.map (some bc), .map (some bs)], .agg #[.int .i64 k, .string (tx nm), .bool f, .int .u64 u, .slice ap np cp, .slice ak nk ck, .slice ab nb cb, .slice aa na ca]] W fun e w' => e = .returned (vErr (F l[j])) ∧ Below W.heap.size W w') :
    Calls Tryd.prog 91 #[.slice a l.length c, .func (.func fid) #[.agg #[.map (some bc), .map (some bs)]] #[]] w fun e w' => e = .returned (vErr (firstF F l)) ∧ Below w.heap.size w w' := by
  have HO := Hd (Ai hr ht)
  replace HC := Hd HC
  have hmx := hr.cap
  unfold maxLen at hmx
  clear hr ht
  go_enter Tryd.func91, Tryd.ntmps91
  go_wp2_with fail
  go_loopw [10] (fun s wr => ∃ j : Nat, j ≤ l.length ∧ s = .int .i64 j ∧ Below w.heap.size w wr ∧ firstF F (l.take j) = none) (fun s _ => l.length - (RowKit.intOf s).toNat)
  case atStart => exact ⟨0, Nat.zero_le _, rfl, Below.refl _ _, rfl⟩
  case round =>
    obtain ⟨j, hj, rfl, hbr, hno⟩ := hrel
    have HR := Hd (Ai hbr hno)
    clear hbr hno
    by_cases gj : j < l.length
    · have gj' : (j : Int) < (l.length : Int) := by omega
      obtain ⟨k, nm, f, u, ap, np, cp, ak, nk, ck, ab, nb, cb, aa, na, ca, hE, hc⟩ := HO.out.2.cells j gj
      obtain ⟨g1, o1, ea1, k1, m1', -, ht1⟩ := HO.out.1.at (by omega)
      subst ea1
      have HP := Hd (fun i v h => later' HR.out.1 (ht1 _ _ (hc i v h)))
      have HT := Hd (show l.take (j + 1) = l.take j ++ [l[j]] from List.take_succ_eq_append_getElem gj)
      have HF := Hd (firstF_here F l j gj HR.out.2)
      have HCj := Hd (fun (W : World) (hb : Below w.heap.size w W) => HC.out j gj k nm f u ap np cp ak nk ck ab nb cb aa na ca W hb (hE.move fun g hk lt => ⟨hk, hb.block g lt⟩))
      clear ht1 hc HC hE
      generalize hfo : F l[j] = fo at *
      have HTj := Hd (show firstF F (l.take (j + 1)) = fo by rw [HT.out, firstF_snoc, HR.out.2, hfo]; rfl)
      clear hfo HT
      have p0 : wr.cell? ⟨g1, o1 + j * 8, none⟩ = some (.int .i64 k) := HP.out 0 _ rfl
      have p1 : wr.cell? ⟨g1, o1 + j * 8 + 1, none⟩ = some (.string (tx nm)) := by rw [Nat.add_assoc]; exact HP.out 1 _ rfl
      have p2 : wr.cell? ⟨g1, o1 + j * 8 + 2, none⟩ = some (.bool f) := by rw [Nat.add_assoc]; exact HP.out 2 _ rfl
      have p3 : wr.cell? ⟨g1, o1 + j * 8 + 3, none⟩ = some (.int .u64 u) := by rw [Nat.add_assoc]; exact HP.out 3 _ rfl
      have p4 : wr.cell? ⟨g1, o1 + j * 8 + 4, none⟩ = some (.slice ap np cp) := by rw [Nat.add_assoc]; exact HP.out 4 _ rfl
      have p5 : wr.cell? ⟨g1, o1 + j * 8 + 5, none⟩ = some (.slice ak nk ck) := by rw [Nat.add_assoc]; exact HP.out 5 _ rfl
      have p6 : wr.cell? ⟨g1, o1 + j * 8 + 6, none⟩ = some (.slice ab nb cb) := by rw [Nat.add_assoc]; exact HP.out 6 _ rfl
      have p7 : wr.cell? ⟨g1, o1 + j * 8 + 7, none⟩ = some (.slice aa na ca) := by rw [Nat.add_assoc]; exact HP.out 7 _ rfl
      have ej : IntKind.i64.wrap ((j : Int) + 1) = (j : Int) + 1 := by rw [IntKind.wrap_i64]; omega
      have b0 : (0 : Int) ≤ (j : Int) := by omega
      have HX := Hd ((Below.refl wr.heap.size wr).alloc Nr (.cells #[.int .i64 k, .string (tx nm), .bool f, .int .u64 u, .slice ap np cp, .slice ak nk ck, .slice ab nb cb, .slice aa na ca] 46))
      go_wp2_with fail
      refine (HCj.out _ (onB' HR.out.1 HX.out)).mono ?_
      rintro e w4 ⟨rfl, hb4⟩
      have HB4 := Hd (onB' (onB' HR.out.1 HX.out) hb4)
      clear hb4 HCj HP
      cases hfo : fo with
      | none =>
        unfold vErr
        have HTn := Hd (HTj.out.trans hfo)
        clear hfo
        go_wp2_with fail
        exact ⟨⟨j + 1, by omega, by go_num, HB4.out, HTn.out⟩, by simp [RowKit.intOf]; omega⟩
      | some v =>
        obtain ⟨er, n⟩ := v
        have HFn := Hd (HF.out (by rw [hfo]; rfl))
        unfold vErr
        clear HF HTj
        subst hfo
        go_wp2_with fail
        go_ret
        exact ⟨by rw [HFn.out]; rfl, HB4.out⟩
    · obtain rfl : j = l.length := by omega
      go_wp2_with fail
      go_ret
      have h := HR.out.2
      rw [List.take_length] at h
      rw [h]
      exact ⟨rfl, HR.out.1⟩
theorem first_bind (fid : Nat) (eg : ∀ args w, (callFunc fid args).run Tryd.prog w = .ok (.enter fid args) w) (bc bs : Nat) (F : Bnd → Fo) (l : List Bnd) (a : Option Addr) (c : Nat) (K K2 : Nat → Prop) (xs : List Value) (w : World) (hr : RowAt w K 48 10 (.slice a l.length c) l.length xs) (ht : BndsAt w K2 l xs)
    (HC : ∀ j (hj : j < l.length) (aq : Option Addr) (cq : Nat) (k : Int) (nm : Nm) (f : Bool) (u : Int) (ap : Option Addr) (np cp : Nat) (ak : Option Addr) (nk ck : Nat) (ab : Option Addr) (nb cb : Nat) (aa : Option Addr) (na ca : Nat) (W : World), Below w.heap.size w W → RowAt W K2 9 1 (.slice aq l[j].2.1.length cq) l[j].2.1.length (namesV l[j].2.1) → ExAt W K2 l[j].2.2 [.int .i64 k, .string (tx nm), .bool f, .int .u64 u, .slice ap np cp, .slice ak nk ck, .slice ab nb cb, .slice aa na ca] → Calls Tryd.prog fid #[.agg #[.map (some bc), .map (some bs)], .agg #[.string (tx l[j].1), .slice aq l[j].2.1.length cq, .int .i64 k, .string (tx nm), .bool f, .int .u64 u, .slice ap np cp, .slice ak nk ck, .slice ab nb cb, .slice aa na ca]] W fun e w' => e = .returned (vErr (F l[j])) ∧ Below W.heap.size W w') :
    Calls Tryd.prog 44 #[.slice a l.length c, .func (.func fid) #[.agg #[.map (some bc), .map (some bs)]] #[]] w fun e w' => e = .returned (vErr (firstF F l)) ∧ Below w.heap.size w w' := by
  have HO := Hd (Ai hr ht)
  replace HC := Hd HC
  have hmx := hr.cap
  unfold maxLen at hmx
  clear hr ht
  go_enter Tryd.func44, Tryd.ntmps44
  go_wp2_with fail
  go_loopw [10] (fun s wr => ∃ j : Nat, j ≤ l.length ∧ s = .int .i64 j ∧ Below w.heap.size w wr ∧ firstF F (l.take j) = none) (fun s _ => l.length - (RowKit.intOf s).toNat)
  case atStart => exact ⟨0, Nat.zero_le _, rfl, Below.refl _ _, rfl⟩
  case round =>
    obtain ⟨j, hj, rfl, hbr, hno⟩ := hrel
    have HR := Hd (Ai hbr hno)
    clear hbr hno
    by_cases gj : j < l.length
    · have gj' : (j : Int) < (l.length : Int) := by omega
      obtain ⟨aq, cq, k, nm, f, u, ap, np, cp, ak, nk, ck, ab, nb, cb, aa, na, ca, hQ, hE, hc⟩ := HO.out.2.cells j gj
      obtain ⟨g1, o1, ea1, k1, m1', -, ht1⟩ := HO.out.1.at (by omega)
      subst ea1
      have HP := Hd (fun i v h => later' HR.out.1 (ht1 _ _ (hc i v h)))
      have HT := Hd (show l.take (j + 1) = l.take j ++ [l[j]] from List.take_succ_eq_append_getElem gj)
      have HF := Hd (firstF_here F l j gj HR.out.2)
      have HCj := Hd (fun (W : World) (hb : Below w.heap.size w W) => HC.out j gj aq cq k nm f u ap np cp ak nk ck ab nb cb aa na ca W hb (hQ.move fun g hk lt => ⟨hk, hb.block g lt⟩) (hE.move fun g hk lt => ⟨hk, hb.block g lt⟩))
      clear ht1 hc HC hE hQ
      generalize hfo : F l[j] = fo at *
      have HTj := Hd (show firstF F (l.take (j + 1)) = fo by rw [HT.out, firstF_snoc, HR.out.2, hfo]; rfl)
      clear hfo HT
      generalize l[j].1 = nb0 at *
      generalize l[j].2.1.length = nq at *
      have p0 : wr.cell? ⟨g1, o1 + j * 10, none⟩ = some (.string (tx nb0)) := HP.out 0 _ rfl
      have p1 : wr.cell? ⟨g1, o1 + j * 10 + 1, none⟩ = some (.slice aq nq cq) := by rw [Nat.add_assoc]; exact HP.out 1 _ rfl
      have p2 : wr.cell? ⟨g1, o1 + j * 10 + 2, none⟩ = some (.int .i64 k) := by rw [Nat.add_assoc]; exact HP.out 2 _ rfl
      have p3 : wr.cell? ⟨g1, o1 + j * 10 + 3, none⟩ = some (.string (tx nm)) := by rw [Nat.add_assoc]; exact HP.out 3 _ rfl
      have p4 : wr.cell? ⟨g1, o1 + j * 10 + 4, none⟩ = some (.bool f) := by rw [Nat.add_assoc]; exact HP.out 4 _ rfl
      have p5 : wr.cell? ⟨g1, o1 + j * 10 + 5, none⟩ = some (.int .u64 u) := by rw [Nat.add_assoc]; exact HP.out 5 _ rfl
      have p6 : wr.cell? ⟨g1, o1 + j * 10 + 6, none⟩ = some (.slice ap np cp) := by rw [Nat.add_assoc]; exact HP.out 6 _ rfl
      have p7 : wr.cell? ⟨g1, o1 + j * 10 + 7, none⟩ = some (.slice ak nk ck) := by rw [Nat.add_assoc]; exact HP.out 7 _ rfl
      have p8 : wr.cell? ⟨g1, o1 + j * 10 + 8, none⟩ = some (.slice ab nb cb) := by rw [Nat.add_assoc]; exact HP.out 8 _ rfl
      have p9 : wr.cell? ⟨g1, o1 + j * 10 + 9, none⟩ = some (.slice aa na ca) := by rw [Nat.add_assoc]; exact HP.out 9 _ rfl
      have ej : IntKind.i64.wrap ((j : Int) + 1) = (j : Int) + 1 := by rw [IntKind.wrap_i64]; omega
      have b0 : (0 : Int) ≤ (j : Int) := by omega
      have HX := Hd ((Below.refl wr.heap.size wr).alloc Nr (.cells #[.string (tx nb0), .slice aq nq cq, .int .i64 k, .string (tx nm), .bool f, .int .u64 u, .slice ap np cp, .slice ak nk ck, .slice ab nb cb, .slice aa na ca] 48))
      go_wp2_with fail
      refine (HCj.out _ (onB' HR.out.1 HX.out)).mono ?_
      rintro e w4 ⟨rfl, hb4⟩
      have HB4 := Hd (onB' (onB' HR.out.1 HX.out) hb4)
      clear hb4 HCj HP
      cases hfo : fo with
      | none =>
        unfold vErr
        have HTn := Hd (HTj.out.trans hfo)
        clear hfo
        go_wp2_with fail
        exact ⟨⟨j + 1, by omega, by go_num, HB4.out, HTn.out⟩, by simp [RowKit.intOf]; omega⟩
      | some v =>
        obtain ⟨er, n⟩ := v
        have HFn := Hd (HF.out (by rw [hfo]; rfl))
        unfold vErr
        clear HF HTj
        subst hfo
        go_wp2_with fail
        go_ret
        exact ⟨by rw [HFn.out]; rfl, HB4.out⟩
    · obtain rfl : j = l.length := by omega
      go_wp2_with fail
      go_ret
      have h := HR.out.2
      rw [List.take_length] at h
      rw [h]
      exact ⟨rfl, HR.out.1⟩
theorem first_alt (fid : Nat) (eg : ∀ args w, (callFunc fid args).run Tryd.prog w = .ok (.enter fid args) w) (bc bs : Nat) (F : Alt → Fo) (l : List Alt) (a : Option Addr) (c : Nat) (K K2 : Nat → Prop) (xs : List Value) (w : World) (hr : RowAt w K 52 13 (.slice a l.length c) l.length xs) (ht : AltsAt w K2 l xs)
    (HC : ∀ j (hj : j < l.length) (aq : Option Addr) (cq : Nat) (k : Int) (nm : Nm) (f : Bool) (u : Int) (ap : Option Addr) (np cp : Nat) (ak : Option Addr) (nk ck : Nat) (ab : Option Addr) (nb cb : Nat) (aa : Option Addr) (na ca : Nat) (W : World), Below w.heap.size w W → RowAt W K2 9 1 (.slice aq l[j].2.2.2.2.1.length cq) l[j].2.2.2.2.1.length (namesV l[j].2.2.2.2.1) → ExAt W K2 l[j].2.2.2.2.2 [.int .i64 k, .string (tx nm), .bool f, .int .u64 u, .slice ap np cp, .slice ak nk ck, .slice ab nb cb, .slice aa na ca] → Calls Tryd.prog fid #[.agg #[.map (some bc), .map (some bs)], .agg #[.int .i64 l[j].1, .string (tx l[j].2.1), .bool l[j].2.2.1, .int .u64 l[j].2.2.2.1, .slice aq l[j].2.2.2.2.1.length cq, .int .i64 k, .string (tx nm), .bool f, .int .u64 u, .slice ap np cp, .slice ak nk ck, .slice ab nb cb, .slice aa na ca]] W fun e w' => e = .returned (vErr (F l[j])) ∧ Below W.heap.size W w') :
    Calls Tryd.prog 100 #[.slice a l.length c, .func (.func fid) #[.agg #[.map (some bc), .map (some bs)]] #[]] w fun e w' => e = .returned (vErr (firstF F l)) ∧ Below w.heap.size w w' := by
  have HO := Hd (Ai hr ht)
  replace HC := Hd HC
  have hmx := hr.cap
  unfold maxLen at hmx
  clear hr ht
  go_enter Tryd.func100, Tryd.ntmps100
  go_wp2_with fail
  go_loopw [10] (fun s wr => ∃ j : Nat, j ≤ l.length ∧ s = .int .i64 j ∧ Below w.heap.size w wr ∧ firstF F (l.take j) = none) (fun s _ => l.length - (RowKit.intOf s).toNat)
  case atStart => exact ⟨0, Nat.zero_le _, rfl, Below.refl _ _, rfl⟩
  case round =>
    obtain ⟨j, hj, rfl, hbr, hno⟩ := hrel
    have HR := Hd (Ai hbr hno)
    clear hbr hno
    by_cases gj : j < l.length
    · have gj' : (j : Int) < (l.length : Int) := by omega
      obtain ⟨aq, cq, k, nm, f, u, ap, np, cp, ak, nk, ck, ab, nb, cb, aa, na, ca, hQ, hE, hc⟩ := HO.out.2.cells j gj
      obtain ⟨g1, o1, ea1, k1, m1', -, ht1⟩ := HO.out.1.at (by omega)
      subst ea1
      have HP := Hd (fun i v h => later' HR.out.1 (ht1 _ _ (hc i v h)))
      have HT := Hd (show l.take (j + 1) = l.take j ++ [l[j]] from List.take_succ_eq_append_getElem gj)
      have HF := Hd (firstF_here F l j gj HR.out.2)
      have HCj := Hd (fun (W : World) (hb : Below w.heap.size w W) => HC.out j gj aq cq k nm f u ap np cp ak nk ck ab nb cb aa na ca W hb (hQ.move fun g hk lt => ⟨hk, hb.block g lt⟩) (hE.move fun g hk lt => ⟨hk, hb.block g lt⟩))
      clear ht1 hc HC hE hQ
      generalize hfo : F l[j] = fo at *
      have HTj := Hd (show firstF F (l.take (j + 1)) = fo by rw [HT.out, firstF_snoc, HR.out.2, hfo]; rfl)
      clear hfo HT
      generalize l[j].2.1 = nb0 at *
      generalize l[j].2.2.2.2.1.length = nq at *
      generalize l[j].1 = kd at *
      generalize l[j].2.2.1 = fd at *
      generalize l[j].2.2.2.1 = ud at *
      have p0 : wr.cell? ⟨g1, o1 + j * 13, none⟩ = some (.int .i64 kd) := HP.out 0 _ rfl
      have p1 : wr.cell? ⟨g1, o1 + j * 13 + 1, none⟩ = some (.string (tx nb0)) := by rw [Nat.add_assoc]; exact HP.out 1 _ rfl
      have p2 : wr.cell? ⟨g1, o1 + j * 13 + 2, none⟩ = some (.bool fd) := by rw [Nat.add_assoc]; exact HP.out 2 _ rfl
      have p3 : wr.cell? ⟨g1, o1 + j * 13 + 3, none⟩ = some (.int .u64 ud) := by rw [Nat.add_assoc]; exact HP.out 3 _ rfl
      have p4 : wr.cell? ⟨g1, o1 + j * 13 + 4, none⟩ = some (.slice aq nq cq) := by rw [Nat.add_assoc]; exact HP.out 4 _ rfl
      have p5 : wr.cell? ⟨g1, o1 + j * 13 + 5, none⟩ = some (.int .i64 k) := by rw [Nat.add_assoc]; exact HP.out 5 _ rfl
      have p6 : wr.cell? ⟨g1, o1 + j * 13 + 6, none⟩ = some (.string (tx nm)) := by rw [Nat.add_assoc]; exact HP.out 6 _ rfl
      have p7 : wr.cell? ⟨g1, o1 + j * 13 + 7, none⟩ = some (.bool f) := by rw [Nat.add_assoc]; exact HP.out 7 _ rfl
      have p8 : wr.cell? ⟨g1, o1 + j * 13 + 8, none⟩ = some (.int .u64 u) := by rw [Nat.add_assoc]; exact HP.out 8 _ rfl
      have p9 : wr.cell? ⟨g1, o1 + j * 13 + 9, none⟩ = some (.slice ap np cp) := by rw [Nat.add_assoc]; exact HP.out 9 _ rfl
      have p10 : wr.cell? ⟨g1, o1 + j * 13 + 10, none⟩ = some (.slice ak nk ck) := by rw [Nat.add_assoc]; exact HP.out 10 _ rfl
      have p11 : wr.cell? ⟨g1, o1 + j * 13 + 11, none⟩ = some (.slice ab nb cb) := by rw [Nat.add_assoc]; exact HP.out 11 _ rfl
      have p12 : wr.cell? ⟨g1, o1 + j * 13 + 12, none⟩ = some (.slice aa na ca) := by rw [Nat.add_assoc]; exact HP.out 12 _ rfl
      have ej : IntKind.i64.wrap ((j : Int) + 1) = (j : Int) + 1 := by rw [IntKind.wrap_i64]; omega
      have b0 : (0 : Int) ≤ (j : Int) := by omega
      have HX := Hd ((Below.refl wr.heap.size wr).alloc Nr (.cells #[.int .i64 kd, .string (tx nb0), .bool fd, .int .u64 ud, .slice aq nq cq, .int .i64 k, .string (tx nm), .bool f, .int .u64 u, .slice ap np cp, .slice ak nk ck, .slice ab nb cb, .slice aa na ca] 52))
      go_wp2_with fail
      refine (HCj.out _ (onB' HR.out.1 HX.out)).mono ?_
      rintro e w4 ⟨rfl, hb4⟩
      have HB4 := Hd (onB' (onB' HR.out.1 HX.out) hb4)
      clear hb4 HCj HP
      cases hfo : fo with
      | none =>
        unfold vErr
        have HTn := Hd (HTj.out.trans hfo)
        clear hfo
        go_wp2_with fail
        exact ⟨⟨j + 1, by omega, by go_num, HB4.out, HTn.out⟩, by simp [RowKit.intOf]; omega⟩
      | some v =>
        obtain ⟨er, n⟩ := v
        have HFn := Hd (HF.out (by rw [hfo]; rfl))
        unfold vErr
        clear HF HTj
        subst hfo
        go_wp2_with fail
        go_ret
        exact ⟨by rw [HFn.out]; rfl, HB4.out⟩
    · obtain rfl : j = l.length := by omega
      go_wp2_with fail
      go_ret
      have h := HR.out.2
      rw [List.take_length] at h
      rw [h]
      exact ⟨rfl, HR.out.1⟩
def PlcC (n : Nat) : Prop :=
  ∀ (x : Ex) (K : Nat → Prop) (W : World) (bc nc : Nat) (cs : List Nm) (bs ns : Nat) (sc : List Nm) (k : Int) (nm : Nm) (f : Bool) (u : Int) (ap : Option Addr) (np cp : Nat) (ak : Option Addr) (nk ck : Nat) (ab : Option Addr) (nb cb : Nat) (aa : Option Addr) (na ca : Nat), SizeOf.sizeOf x ≤ n → wfE x → ns + wtE x ≤ 100000 → NSet W bc nc cs → NSet W bs ns sc → ExAt W K x [.int .i64 k, .string (tx nm), .bool f, .int .u64 u, .slice ap np cp, .slice ak nk ck, .slice ab nb cb, .slice aa na ca] →
    Calls Tryd.prog 92 #[.agg #[.map (some bc), .map (some bs)], .agg #[.int .i64 k, .string (tx nm), .bool f, .int .u64 u, .slice ap np cp, .slice ak nk ck, .slice ab nb cb, .slice aa na ca]] W fun e w' => e = .returned (vErr (scE cs sc x)) ∧ Below W.heap.size W w'
theorem nms_len {l : List Nm} (h : Nms l) : ∀ x, x ∈ l → x.length ≤ 100000 := fun x hx => (h x hx).2
theorem bodies_any (n : Nat) (hP : PlcC n) (bc nc : Nat) (cs : List Nm) (bs ns : Nat) (sc l : List Nm) (of : List Ex) (hl : Nms l) (hof : ∀ x, x ∈ of → SizeOf.sizeOf x ≤ n ∧ wfE x) (hn : ns + l.length + sumN wtE of ≤ 100000) (a1 : Option Addr) (c1 : Nat) (a2 : Option Addr) (c2 : Nat) (K1 K2 K3 : Nat → Prop) (xs : List Value) (w : World) (hc : NSet w bc nc cs) (hs : NSet w bs ns sc) (hr : RowAt w K1 9 1 (.slice a1 l.length c1) l.length (namesV l)) (hr2 : RowAt w K2 46 8 (.slice a2 of.length c2) of.length xs) (ht : ExsAt w K3 of xs) :
    Calls Tryd.prog 75 #[.agg #[.map (some bc), .map (some bs)], .slice a1 l.length c1, .slice a2 of.length c2] w fun e w' => e = .returned (vErr ((twF l).or (scEs cs (sc ++ l) of))) ∧ Below w.heap.size w w' := by
  have hx := (Below.refl w.heap.size w).alloc Nr (.cells #[.map (some bc), .map (some bs)] 113)
  have HX := Hd hx
  have HU := Hd (under_any bc bs ns sc l (nms_len hl) (by omega) a1 c1 (fun g => g < w.heap.size) (w.alloc (.cells #[.map (some bc), .map (some bs)] 113)) (hs.later hx) (hr.low hx))
  have HO := Hd (Ai hc (Ai hr2 ht))
  have HOf := Hd hof
  clear hx hs hr hr2 ht hc hl hof
  go_enter Tryd.func75, Tryd.ntmps75
  go_wp2_with fail
  refine HU.out.mono ?_
  rintro e w2 ⟨hw, hb2⟩
  have HB2 := Hd (onB' HX.out hb2)
  have HS := Hd hw
  clear hb2 hw HU HX
  cases htw : twF l with
  | some fo =>
    have h := HS.out
    unfold UnderSaid at h
    rw [htw] at h
    subst h
    obtain ⟨er, nm⟩ := fo
    unfold vErr
    have HE := Hd ((Below.refl w2.heap.size w2).alloc Nr (.cells #[.map (some bc), .map none] 113))
    have HT := Hd htw
    clear htw HS
    go_wp2_with fail
    go_ret
    exact ⟨by rw [HT.out]; rfl, onB' HB2.out HE.out⟩
  | none =>
    have h := HS.out
    unfold UnderSaid at h
    rw [htw] at h
    obtain ⟨b, rfl, hs⟩ := h
    have hy := (Below.refl w2.heap.size w2).alloc Nr (.cells #[.map (some bc), .map (some b)] 113)
    have HE := Hd (Ai (onB' HB2.out hy) (hs.later hy))
    have HBy := Hd (BoxW.alloc w2 #[.map (some bc), .map (some b)] 113)
    have HT := Hd htw
    clear htw HS hs hy
    go_upto_region 4 with fail
    generalize (w2.alloc (.cells #[.map (some bc), .map (some b)] 113)) = W3 at *
    have d0 : W3.cell? ⟨w2.heap.size, 0, none⟩ = some (.map (some bc)) := HBy.out.1 0 _ rfl
    have d1 : W3.cell? ⟨w2.heap.size, 1, none⟩ = some (.map (some b)) := HBy.out.1 1 _ rfl
    have hmf : ∀ (fn : Fn) (first cap : Array Value) (w : World), (Instr.makeFunc fn first cap).run Tryd.prog w = .ok (.func fn first cap) w := fun _ _ _ _ => rfl
    have HF := Hd (first_expr 92 (enters_of Tryd.func92 (by kernel_rfl) rfl) bc b (scE cs (sc ++ l)) of a2 c2 (fun g => g < w.heap.size) K3 xs W3 (HO.out.2.1.low HE.out.1) (HO.out.2.2.move fun g hk lt => ⟨hk, HE.out.1.block g lt⟩)
      (fun j hj k nm f u ap np cp ak nk ck ab nb cb aa na ca W hb hE => hP of[j] K3 W bc nc cs b (ns + l.length) (sc ++ l) k nm f u ap np cp ak nk ck ab nb cb aa na ca (HOf.out _ (List.getElem_mem hj)).1 (HOf.out _ (List.getElem_mem hj)).2 (by have := sumN_mem wtE (List.getElem_mem hj); omega) (HO.out.1.later (onB' HE.out.1 hb)) (HE.out.2.later hb) hE))
    rw [← scEs_first] at HF
    go_wp2_with fail
    refine HF.out.mono ?_
    rintro e w4 ⟨rfl, hb4⟩
    have H4 := Hd (onB' HE.out.1 hb4)
    clear hb4 HF
    go_wp2_with fail
    go_ret
    exact ⟨by rw [HT.out]; rfl, H4.out⟩
def lookA (cs : List (Nm × Int)) (n : Nm) : Int := ((cs.find? fun d => d.1 == n).map (·.2)).getD 0
def takesL (n : Nm) : Int :=
  if n = [119, 101, 97, 107] then 3
  else if n = [100, 101, 114, 101, 102] ∨ n = [102, 108, 111, 97, 116] ∨ n = [116, 114, 117, 110, 99] then 1
  else if n = [115, 101, 113] ∨ n = [43] ∨ n = [45] ∨ n = [42] ∨ n = [47] ∨ n = [37] ∨ n = [61, 61] ∨ n = [60] ∨ n = [43, 46] ∨ n = [45, 46] ∨ n = [42, 46] ∨ n = [47, 46] ∨ n = [61, 61, 46] ∨ n = [60, 46] then 2
  else 0
def oneF (c : Bool) (e : Int) (n : Nm) : Fo := if c = true then some (e, n) else none
mutual
def arE (cs : List (Nm × Int)) : Ex → Fo
  | .mk k n _ _ ps ks bs al =>
    (if k = 2 then oneF (decide ((ks.length : Int) ≠ lookA cs n)) 11 n
     else if k = 5 then oneF (decide ((ks.length : Int) ≠ takesL n)) 11 n
     else if k = 4 then oneF (decide (25 < ks.length)) 12 []
     else if k = 8 then oneF (decide (24 < ps.length)) 12 (ps.headD [])
     else none).or ((arBs cs bs).or ((arEs cs ks).or (arAs cs al)))
def arEs (cs : List (Nm × Int)) : List Ex → Fo
  | [] => none
  | e :: r => (arE cs e).or (arEs cs r)
def arBs (cs : List (Nm × Int)) : List (Nm × List Nm × Ex) → Fo
  | [] => none
  | (n, ps, e) :: r => ((oneF (decide (24 < ps.length)) 12 n).or (arE cs e)).or (arBs cs r)
def arAs (cs : List (Nm × Int)) : List (Int × Nm × Bool × Int × List Nm × Ex) → Fo
  | [] => none
  | (k, n, _, _, ns, e) :: r => ((if k = 0 then oneF (decide ((ns.length : Int) ≠ lookA cs n)) 11 n else none).or (arE cs e)).or (arAs cs r)
end
def countD (cs : List (Nm × Int)) (n : Nm) (k : Int) : Fo := oneF (cs.any fun d => d.1 == n && decide (d.2 ≠ k)) 11 n
mutual
def adE (cs : List (Nm × Int)) : Ex → Fo
  | .mk k n _ _ ps ks bs al =>
    (if k = 2 then countD cs n ks.length
     else if k = 5 then oneF (decide ((ks.length : Int) ≠ takesL n)) 11 n
     else if k = 4 then oneF (decide (25 < ks.length)) 12 []
     else if k = 8 then oneF (decide (24 < ps.length)) 12 (ps.headD [])
     else none).or ((adBs cs bs).or ((adEs cs ks).or (adAs cs al)))
def adEs (cs : List (Nm × Int)) : List Ex → Fo
  | [] => none
  | e :: r => (adE cs e).or (adEs cs r)
def adBs (cs : List (Nm × Int)) : List (Nm × List Nm × Ex) → Fo
  | [] => none
  | (n, ps, e) :: r => ((oneF (decide (24 < ps.length)) 12 n).or (adE cs e)).or (adBs cs r)
def adAs (cs : List (Nm × Int)) : List (Int × Nm × Bool × Int × List Nm × Ex) → Fo
  | [] => none
  | (k, n, _, _, ns, e) :: r => ((if k = 0 then countD cs n ns.length else none).or (adE cs e)).or (adAs cs r)
end
def mainF (bs : List Bnd) : Fo := oneF (bs.any fun b => b.1 == mainL && decide (0 < b.2.1.length)) 11 mainL
def arM (m : Md) : Fo := (scM m).or ((mainF m.2).or (arBs (four ++ m.1) m.2))
def adM (m : Md) : Fo := (sdM m).or ((mainF m.2).or (adBs (four ++ m.1) m.2))
def AMap (w : World) (b n : Nat) (f : Nm → Int) : Prop :=
  ∃ D : DataW Unit, w.ownsMap Tryd.prog 9 (plainElem Tryd.prog 3) b n D ∧ ∀ x, D.atKey (.string x) (.lit (.int .i64 0)) = .lit (.int .i64 (f x))
theorem amap_made (w : World) : AMap (w.alloc (.map #[] 0)) w.heap.size 0 (fun _ => 0) := ⟨_, World.ownsMap_made w _ _ _, fun _ => rfl⟩
theorem AMap.same {w w' : World} {b n : Nat} {f : Nm → Int} (h : AMap w b n f) (hk : w'.heap[b]? = w.heap[b]?) : AMap w' b n f := by
  obtain ⟨D, ⟨es, c, hb, r⟩, h2⟩ := h
  exact ⟨D, ⟨es, c, hk.trans hb, r⟩, h2⟩
theorem AMap.lt {w : World} {b n : Nat} {f : Nm → Int} (h : AMap w b n f) : b < w.heap.size := by
  obtain ⟨D, h1, h2⟩ := h
  exact h1.lt
theorem AMap.later {w w' : World} {b n : Nat} {f : Nm → Int} (h : AMap w b n f) (hb : Below w.heap.size w w') : AMap w' b n f := h.same (hb.block b h.lt)
theorem AMap.to {w : World} {b n : Nat} {f g : Nm → Int} (h : AMap w b n f) (e : ∀ x, f x = g x) : AMap w b n g := by
  obtain rfl : f = g := funext e
  exact h
theorem AMap.ne {w : World} {b n k i : Nat} {f : Nm → Int} {v : Value} (h : AMap w b n f) (hc : w.cell? ⟨k, i, none⟩ = some v) : b ≠ k := by
  obtain ⟨D, ⟨es, c, hb, r⟩, h2⟩ := h
  intro e
  subst e
  simp [World.cell?, hb] at hc
theorem nzero_int (w : World) : (zeroValue 3).run Tryd.prog w = .ok (.int .i64 0) w := rfl
theorem AMap.look {w : World} {b n : Nat} {f : Nm → Int} (h : AMap w b n f) (x : Nm) (hx : x.length ≤ 100000) :
    (Instr.lookup 116 (.map (some b)) (.string (tx x)) false).run Tryd.prog w = .ok (.int .i64 (f x)) w := by
  obtain ⟨D, h1, h2⟩ := h
  obtain ⟨c, hr, hat, _⟩ := h1.lookup_int (Maps.string_keyed Tryd.underlying9) Tryd.underlying116 Tryd.underlying3 (nzero_int _) (nkey_of x hx)
  rw [h2] at hat
  injection hat with hat
  injection hat with _ hat
  rw [hat]
  exact hr
def aput (f : Nm → Int) (k : Nm) (u : Int) : Nm → Int := fun l => if l = k then u else f l
theorem AMap.put {w : World} {b n : Nat} {f : Nm → Int} {D : DataW Unit} {k : Nm} {u : Int} (hT : Maps.Tidy D)
    (h1 : w.ownsMap Tryd.prog 9 (plainElem Tryd.prog 3) b n (D.put (.string k) (.lit (.int .i64 u)))) (h2 : ∀ x, D.atKey (.string x) (.lit (.int .i64 0)) = .lit (.int .i64 (f x))) : AMap w b n (aput f k u) := by
  refine ⟨_, h1, fun l => ?_⟩
  unfold aput
  by_cases e : l = k
  · subst e
    rw [if_pos rfl, Maps.atKey_put_same hT.isMap (by trivial)]
  · rw [if_neg e, Maps.atKey_put_other (by simpa using e)]
    exact h2 l
theorem wp_aput {o : Oper} {a : Act} {K : Act → World → Prop} {Q : Exit → Act → World → Prop} (w : World) (m x v : Operand) (hop : o.op = Op.mapUpdate 116 m x v ∨ o.op = Op.insert 116 m x v)
    (b n : Nat) (f : Nm → Int) (hm : a.eval m = .map (some b)) (h : AMap w b n f) (hn : n < 1000000) (k : Nm) (hk : k.length ≤ 100000) (u : Int) (hx : a.eval x = .string (tx k)) (hv : a.eval v = .int .i64 u) (hu : (Lit.int .i64 u).wf = true)
    (hK : ∀ w', AMap w' b (n + 1) (aput f k u) → w.grownBy w' (some b) → K (a.put o.dst undef) w') : Oper.wp Tryd.prog o a w K Q := by
  obtain ⟨D, h1, h2⟩ := h
  obtain ⟨w', hrun, r1, r2⟩ := h1.update (Maps.string_keyed Tryd.underlying9) Tryd.underlying116 (by unfold maxLen; omega) (nkey_of k hk) (plainElem_int Tryd.underlying3 hu)
  unfold Oper.wp
  have hk := hK w' (AMap.put (h1.tidy (Maps.string_keyed Tryd.underlying9)) r1 h2) r2
  rcases hop with hop | hop <;> simp [execOp, hop, hm, hx, hv, hrun, Result.andThen] <;> exact hk
theorem list_aput {ops : Array Oper} {rest : List Oper} {o : Oper} {a : Act} {Q : Exit → Act → World → Prop} (w : World) (hg : o.guard = none) (m x v : Operand) (hop : o.op = Op.mapUpdate 116 m x v ∨ o.op = Op.insert 116 m x v)
    (b n : Nat) (f : Nm → Int) (hm : a.eval m = .map (some b)) (h : AMap w b n f) (hn : n < 1000000) (k : Nm) (hk : k.length ≤ 100000) (u : Int) (hx : a.eval x = .string (tx k)) (hv : a.eval v = .int .i64 u) (hu : (Lit.int .i64 u).wf = true)
    (hK : ∀ w', AMap w' b (n + 1) (aput f k u) → w.grownBy w' (some b) → wpList Tryd.prog ops Q rest (a.put o.dst undef) w') : wpList Tryd.prog ops Q (o :: rest) a w :=
  wpList_plain hg fun _ hK' => wp_aput w m x v hop b n f hm h hn k hk u hx hv hu fun w' h1 h2 => hK' _ _ (hK w' h1 h2)
def vF (o : Fo) : Value := .agg #[.int .i64 (stN o).1, .string (tx (stN o).2)]
theorem setTwo {W : World} {b : Nat} {u0 u1 : Value} (h0 : W.cell? ⟨b, 0, none⟩ = some u0) (h1 : W.cell? ⟨b, 1, none⟩ = some u1) (v0 v1 : Value) : ((W.setCell ⟨b, 0, none⟩ v0).setCell ⟨b, 1, none⟩ v1).cell? ⟨b, 0, none⟩ = some v0 ∧ ((W.setCell ⟨b, 0, none⟩ v0).setCell ⟨b, 1, none⟩ v1).cell? ⟨b, 1, none⟩ = some v1 :=
  ⟨(at_oth _ _ _ _ _ (by decide)).trans (at_sam _ h0), at_sam _ ((at_oth _ _ _ _ _ (by decide)).trans h1)⟩
theorem below2 {w W : World} {b : Nat} (h : Below w.heap.size w W) (hb : w.heap.size ≤ b) (v0 v1 : Value) : Below w.heap.size w ((W.setCell ⟨b, 0, none⟩ v0).setCell ⟨b, 1, none⟩ v1) :=
  below_of_new (below_of_new h (set_grown ..) hb) (set_grown ..) hb
def FoNz (o : Fo) : Prop := ∀ e n, o = some (e, n) → e ≠ 0
theorem afirst_expr (ga gt gb gk gl : Nat) (F : Ex → Fo) (l : List Ex) (hz : ∀ x, x ∈ l → FoNz (F x)) (a : Option Addr) (c : Nat) (K K2 : Nat → Prop) (xs : List Value) (w : World) (hr : RowAt w K 46 8 (.slice a l.length c) l.length xs) (ht : ExsAt w K2 l xs)
    (HC : ∀ j (hj : j < l.length) (k : Int) (nm : Nm) (f : Bool) (u : Int) (ap : Option Addr) (np cp : Nat) (ak : Option Addr) (nk ck : Nat) (ab : Option Addr) (nb cb : Nat) (aa : Option Addr) (na ca : Nat) (W : World), Below w.heap.size w W → ExAt W K2 l[j] [.int .i64 k, .string (tx nm), .bool f, .int .u64 u, .slice ap np cp, .slice ak nk ck, .slice ab nb cb, .slice aa na ca] → Calls Tryd.prog 81 #[.agg #[.int .i64 k, .string (tx nm), .bool f, .int .u64 u, .slice ap np cp, .slice ak nk ck, .slice ab nb cb, .slice aa na ca], .pointer (some ⟨ga, 0, none⟩), .pointer (some ⟨gt, 0, none⟩), .pointer (some ⟨gb, 0, none⟩), .pointer (some ⟨gk, 0, none⟩), .pointer (some ⟨gl, 0, none⟩)] W fun e w' => e = .returned (vF (F l[j])) ∧ Below W.heap.size W w') :
    Calls Tryd.prog 82 #[.slice a l.length c, .func (.func 81) #[] #[.pointer (some ⟨ga, 0, none⟩), .pointer (some ⟨gt, 0, none⟩), .pointer (some ⟨gb, 0, none⟩), .pointer (some ⟨gk, 0, none⟩), .pointer (some ⟨gl, 0, none⟩)]] w fun e w' => e = .returned (vF (firstF F l)) ∧ Below w.heap.size w w' := by
  have HO := Hd (Ai hr ht)
  have HZ := Hd hz
  replace HC := Hd HC
  have hmx := hr.cap
  unfold maxLen at hmx
  clear hr ht hz
  have eg := enters_of Tryd.func81 (by kernel_rfl) rfl
  have HS := Hd (Ai ((Below.refl w.heap.size w).alloc Nr (.cells #[.int .i64 0, .string ⟨#[]⟩] 76)) (BoxW.alloc w #[.int .i64 0, .string ⟨#[]⟩] 76))
  go_enter Tryd.func82, Tryd.ntmps82
  go_wp2_with fail
  go_loopw [10] (fun s wr => ∃ j : Nat, j ≤ l.length ∧ s = .int .i64 j ∧ Below w.heap.size w wr ∧ BoxW wr w.heap.size [.int .i64 0, .string ⟨#[]⟩] ∧ firstF F (l.take j) = none) (fun s _ => l.length - (RowKit.intOf s).toNat)
  case atStart => exact ⟨0, Nat.zero_le _, rfl, HS.out.1, HS.out.2, rfl⟩
  case round =>
    obtain ⟨j, hj, rfl, hbr, hbx, hno⟩ := hrel
    have HR := Hd (Ai hbr hno)
    have HBx := Hd hbx
    clear hbr hno hbx HS
    by_cases gj : j < l.length
    · have gj' : (j : Int) < (l.length : Int) := by omega
      obtain ⟨k, nm, f, u, ap, np, cp, ak, nk, ck, ab, nb, cb, aa, na, ca, hE, hc⟩ := HO.out.2.cells j gj
      obtain ⟨g1, o1, ea1, k1, m1', -, ht1⟩ := HO.out.1.at (by omega)
      subst ea1
      have HP := Hd (fun i v h => later' HR.out.1 (ht1 _ _ (hc i v h)))
      have HT := Hd (show l.take (j + 1) = l.take j ++ [l[j]] from List.take_succ_eq_append_getElem gj)
      have HF := Hd (firstF_here F l j gj HR.out.2)
      have HZj := Hd (HZ.out l[j] (List.getElem_mem gj))
      have HCj := Hd (fun (W : World) (hb : Below w.heap.size w W) => HC.out j gj k nm f u ap np cp ak nk ck ab nb cb aa na ca W hb (hE.move fun g hk lt => ⟨hk, hb.block g lt⟩))
      clear ht1 hc HC HZ hE
      generalize hfo : F l[j] = fo at *
      have HTj := Hd (show firstF F (l.take (j + 1)) = fo by rw [HT.out, firstF_snoc, HR.out.2, hfo]; rfl)
      clear hfo HT
      have p0 : wr.cell? ⟨g1, o1 + j * 8, none⟩ = some (.int .i64 k) := HP.out 0 _ rfl
      have p1 : wr.cell? ⟨g1, o1 + j * 8 + 1, none⟩ = some (.string (tx nm)) := by rw [Nat.add_assoc]; exact HP.out 1 _ rfl
      have p2 : wr.cell? ⟨g1, o1 + j * 8 + 2, none⟩ = some (.bool f) := by rw [Nat.add_assoc]; exact HP.out 2 _ rfl
      have p3 : wr.cell? ⟨g1, o1 + j * 8 + 3, none⟩ = some (.int .u64 u) := by rw [Nat.add_assoc]; exact HP.out 3 _ rfl
      have p4 : wr.cell? ⟨g1, o1 + j * 8 + 4, none⟩ = some (.slice ap np cp) := by rw [Nat.add_assoc]; exact HP.out 4 _ rfl
      have p5 : wr.cell? ⟨g1, o1 + j * 8 + 5, none⟩ = some (.slice ak nk ck) := by rw [Nat.add_assoc]; exact HP.out 5 _ rfl
      have p6 : wr.cell? ⟨g1, o1 + j * 8 + 6, none⟩ = some (.slice ab nb cb) := by rw [Nat.add_assoc]; exact HP.out 6 _ rfl
      have p7 : wr.cell? ⟨g1, o1 + j * 8 + 7, none⟩ = some (.slice aa na ca) := by rw [Nat.add_assoc]; exact HP.out 7 _ rfl
      have ej : IntKind.i64.wrap ((j : Int) + 1) = (j : Int) + 1 := by rw [IntKind.wrap_i64]; omega
      have b0 : (0 : Int) ≤ (j : Int) := by omega
      have hx := (Below.refl wr.heap.size wr).alloc Nr (.cells #[.int .i64 k, .string (tx nm), .bool f, .int .u64 u, .slice ap np cp, .slice ak nk ck, .slice ab nb cb, .slice aa na ca] 46)
      have HX := Hd hx
      have HBx2 := Hd (HBx.out.below hx)
      clear hx
      go_wp2_with fail
      refine (HCj.out _ (onB' HR.out.1 HX.out)).mono ?_
      rintro e w4 ⟨rfl, hb4⟩
      have HB4 := Hd (onB' (onB' HR.out.1 HX.out) hb4)
      have HBx4 := Hd (HBx2.out.below hb4)
      clear hb4 HCj HP
      cases hfo : fo with
      | none =>
        have hy := (Below.refl w4.heap.size w4).alloc Nr (.cells #[.int .i64 0, .string ⟨#[]⟩] 76)
        have HB5 := Hd (onB' HB4.out hy)
        have HBx5 := Hd (HBx4.out.below hy)
        clear hy
        have ev : vF none = .agg #[.int .i64 0, .string ⟨#[]⟩] := rfl
        rw [ev]
        clear ev
        have HTn := Hd (HTj.out.trans hfo)
        clear hfo
        go_wp2_with fail
        exact ⟨⟨j + 1, by omega, by go_num, HB5.out, HBx5.out, HTn.out⟩, by simp [RowKit.intOf]; omega⟩
      | some v =>
        obtain ⟨er, n⟩ := v
        have HFn := Hd (HF.out (by rw [hfo]; rfl))
        have hne : (er != 0) = true := by simpa using HZj.out er n hfo
        have hy := (Below.refl w4.heap.size w4).alloc Nr (.cells #[.int .i64 er, .string (tx n)] 76)
        have HB5 := Hd (onB' HB4.out hy)
        have HBx5 := Hd (HBx4.out.below hy)
        have r0 := HBx5.out.1 0 _ rfl
        have r1 := HBx5.out.1 1 _ rfl
        have t0 := HBx5.out.2 0
        have t1 := HBx5.out.2 1
        clear hy
        have ev : vF (some (er, n)) = .agg #[.int .i64 er, .string (tx n)] := rfl
        rw [ev]
        clear ev HF HTj HZj
        subst hfo
        go_wp2_with fail
        have v0 := (setTwo r0 r1 (.int .i64 er) (.string (tx n))).1
        have v1 := (setTwo r0 r1 (.int .i64 er) (.string (tx n))).2
        exact bodyPost_ret (v := .agg #[.int .i64 er, .string (tx n)]) (by simp [results, Tryd.results82, go_sem, v0, v1]) rfl ⟨by rw [HFn.out]; rfl, below2 HB5.out Nr _ _⟩
    · obtain rfl : j = l.length := by omega
      have r0 := HBx.out.1 0 _ rfl
      have r1 := HBx.out.1 1 _ rfl
      have t0 := HBx.out.2 0
      have t1 := HBx.out.2 1
      go_wp2_with fail
      have h := HR.out.2
      rw [List.take_length] at h
      rw [h]
      have v0 := (setTwo r0 r1 (.int .i64 0) (.string ⟨#[]⟩)).1
      have v1 := (setTwo r0 r1 (.int .i64 0) (.string ⟨#[]⟩)).2
      exact bodyPost_ret (v := .agg #[.int .i64 0, .string ⟨#[]⟩]) (by simp [results, Tryd.results82, go_sem, v0, v1]) rfl ⟨rfl, below2 HR.out.1 Nr _ _⟩
theorem afirst_bind (gk : Nat) (F : Bnd → Fo) (l : List Bnd) (hz : ∀ x, x ∈ l → FoNz (F x)) (a : Option Addr) (c : Nat) (K K2 : Nat → Prop) (xs : List Value) (w : World) (hr : RowAt w K 48 10 (.slice a l.length c) l.length xs) (ht : BndsAt w K2 l xs)
    (HC : ∀ j (hj : j < l.length) (aq : Option Addr) (cq : Nat) (k : Int) (nm : Nm) (f : Bool) (u : Int) (ap : Option Addr) (np cp : Nat) (ak : Option Addr) (nk ck : Nat) (ab : Option Addr) (nb cb : Nat) (aa : Option Addr) (na ca : Nat) (W : World), Below w.heap.size w W → RowAt W K2 9 1 (.slice aq l[j].2.1.length cq) l[j].2.1.length (namesV l[j].2.1) → ExAt W K2 l[j].2.2 [.int .i64 k, .string (tx nm), .bool f, .int .u64 u, .slice ap np cp, .slice ak nk ck, .slice ab nb cb, .slice aa na ca] → Calls Tryd.prog 79 #[.agg #[.string (tx l[j].1), .slice aq l[j].2.1.length cq, .int .i64 k, .string (tx nm), .bool f, .int .u64 u, .slice ap np cp, .slice ak nk ck, .slice ab nb cb, .slice aa na ca], .pointer (some ⟨gk, 0, none⟩)] W fun e w' => e = .returned (vF (F l[j])) ∧ Below W.heap.size W w') :
    Calls Tryd.prog 52 #[.slice a l.length c, .func (.func 79) #[] #[.pointer (some ⟨gk, 0, none⟩)]] w fun e w' => e = .returned (vF (firstF F l)) ∧ Below w.heap.size w w' := by
  have HO := Hd (Ai hr ht)
  have HZ := Hd hz
  replace HC := Hd HC
  have hmx := hr.cap
  unfold maxLen at hmx
  clear hr ht hz
  have eg := enters_of Tryd.func79 (by kernel_rfl) rfl
  have HS := Hd (Ai ((Below.refl w.heap.size w).alloc Nr (.cells #[.int .i64 0, .string ⟨#[]⟩] 76)) (BoxW.alloc w #[.int .i64 0, .string ⟨#[]⟩] 76))
  go_enter Tryd.func52, Tryd.ntmps52
  go_wp2_with fail
  go_loopw [10] (fun s wr => ∃ j : Nat, j ≤ l.length ∧ s = .int .i64 j ∧ Below w.heap.size w wr ∧ BoxW wr w.heap.size [.int .i64 0, .string ⟨#[]⟩] ∧ firstF F (l.take j) = none) (fun s _ => l.length - (RowKit.intOf s).toNat)
  case atStart => exact ⟨0, Nat.zero_le _, rfl, HS.out.1, HS.out.2, rfl⟩
  case round =>
    obtain ⟨j, hj, rfl, hbr, hbx, hno⟩ := hrel
    have HR := Hd (Ai hbr hno)
    have HBx := Hd hbx
    clear hbr hno hbx HS
    by_cases gj : j < l.length
    · have gj' : (j : Int) < (l.length : Int) := by omega
      obtain ⟨aq, cq, k, nm, f, u, ap, np, cp, ak, nk, ck, ab, nb, cb, aa, na, ca, hQ, hE, hc⟩ := HO.out.2.cells j gj
      obtain ⟨g1, o1, ea1, k1, m1', -, ht1⟩ := HO.out.1.at (by omega)
      subst ea1
      have HP := Hd (fun i v h => later' HR.out.1 (ht1 _ _ (hc i v h)))
      have HT := Hd (show l.take (j + 1) = l.take j ++ [l[j]] from List.take_succ_eq_append_getElem gj)
      have HF := Hd (firstF_here F l j gj HR.out.2)
      have HZj := Hd (HZ.out l[j] (List.getElem_mem gj))
      have HCj := Hd (fun (W : World) (hb : Below w.heap.size w W) => HC.out j gj aq cq k nm f u ap np cp ak nk ck ab nb cb aa na ca W hb (hQ.move fun g hk lt => ⟨hk, hb.block g lt⟩) (hE.move fun g hk lt => ⟨hk, hb.block g lt⟩))
      clear ht1 hc HC HZ hE hQ
      generalize hfo : F l[j] = fo at *
      have HTj := Hd (show firstF F (l.take (j + 1)) = fo by rw [HT.out, firstF_snoc, HR.out.2, hfo]; rfl)
      clear hfo HT
      generalize l[j].1 = nb0 at *
      generalize l[j].2.1.length = nq at *
      have p0 : wr.cell? ⟨g1, o1 + j * 10, none⟩ = some (.string (tx nb0)) := HP.out 0 _ rfl
      have p1 : wr.cell? ⟨g1, o1 + j * 10 + 1, none⟩ = some (.slice aq nq cq) := by rw [Nat.add_assoc]; exact HP.out 1 _ rfl
      have p2 : wr.cell? ⟨g1, o1 + j * 10 + 2, none⟩ = some (.int .i64 k) := by rw [Nat.add_assoc]; exact HP.out 2 _ rfl
      have p3 : wr.cell? ⟨g1, o1 + j * 10 + 3, none⟩ = some (.string (tx nm)) := by rw [Nat.add_assoc]; exact HP.out 3 _ rfl
      have p4 : wr.cell? ⟨g1, o1 + j * 10 + 4, none⟩ = some (.bool f) := by rw [Nat.add_assoc]; exact HP.out 4 _ rfl
      have p5 : wr.cell? ⟨g1, o1 + j * 10 + 5, none⟩ = some (.int .u64 u) := by rw [Nat.add_assoc]; exact HP.out 5 _ rfl
      have p6 : wr.cell? ⟨g1, o1 + j * 10 + 6, none⟩ = some (.slice ap np cp) := by rw [Nat.add_assoc]; exact HP.out 6 _ rfl
      have p7 : wr.cell? ⟨g1, o1 + j * 10 + 7, none⟩ = some (.slice ak nk ck) := by rw [Nat.add_assoc]; exact HP.out 7 _ rfl
      have p8 : wr.cell? ⟨g1, o1 + j * 10 + 8, none⟩ = some (.slice ab nb cb) := by rw [Nat.add_assoc]; exact HP.out 8 _ rfl
      have p9 : wr.cell? ⟨g1, o1 + j * 10 + 9, none⟩ = some (.slice aa na ca) := by rw [Nat.add_assoc]; exact HP.out 9 _ rfl
      have ej : IntKind.i64.wrap ((j : Int) + 1) = (j : Int) + 1 := by rw [IntKind.wrap_i64]; omega
      have b0 : (0 : Int) ≤ (j : Int) := by omega
      have hx := (Below.refl wr.heap.size wr).alloc Nr (.cells #[.string (tx nb0), .slice aq nq cq, .int .i64 k, .string (tx nm), .bool f, .int .u64 u, .slice ap np cp, .slice ak nk ck, .slice ab nb cb, .slice aa na ca] 48)
      have HX := Hd hx
      have HBx2 := Hd (HBx.out.below hx)
      clear hx
      go_wp2_with fail
      refine (HCj.out _ (onB' HR.out.1 HX.out)).mono ?_
      rintro e w4 ⟨rfl, hb4⟩
      have HB4 := Hd (onB' (onB' HR.out.1 HX.out) hb4)
      have HBx4 := Hd (HBx2.out.below hb4)
      clear hb4 HCj HP
      cases hfo : fo with
      | none =>
        have hy := (Below.refl w4.heap.size w4).alloc Nr (.cells #[.int .i64 0, .string ⟨#[]⟩] 76)
        have HB5 := Hd (onB' HB4.out hy)
        have HBx5 := Hd (HBx4.out.below hy)
        clear hy
        have ev : vF none = .agg #[.int .i64 0, .string ⟨#[]⟩] := rfl
        rw [ev]
        clear ev
        have HTn := Hd (HTj.out.trans hfo)
        clear hfo
        go_wp2_with fail
        exact ⟨⟨j + 1, by omega, by go_num, HB5.out, HBx5.out, HTn.out⟩, by simp [RowKit.intOf]; omega⟩
      | some v =>
        obtain ⟨er, n⟩ := v
        have HFn := Hd (HF.out (by rw [hfo]; rfl))
        have hne : (er != 0) = true := by simpa using HZj.out er n hfo
        have hy := (Below.refl w4.heap.size w4).alloc Nr (.cells #[.int .i64 er, .string (tx n)] 76)
        have HB5 := Hd (onB' HB4.out hy)
        have HBx5 := Hd (HBx4.out.below hy)
        have r0 := HBx5.out.1 0 _ rfl
        have r1 := HBx5.out.1 1 _ rfl
        have t0 := HBx5.out.2 0
        have t1 := HBx5.out.2 1
        clear hy
        have ev : vF (some (er, n)) = .agg #[.int .i64 er, .string (tx n)] := rfl
        rw [ev]
        clear ev HF HTj HZj
        subst hfo
        go_wp2_with fail
        have v0 := (setTwo r0 r1 (.int .i64 er) (.string (tx n))).1
        have v1 := (setTwo r0 r1 (.int .i64 er) (.string (tx n))).2
        exact bodyPost_ret (v := .agg #[.int .i64 er, .string (tx n)]) (by simp [results, Tryd.results52, go_sem, v0, v1]) rfl ⟨by rw [HFn.out]; rfl, below2 HB5.out Nr _ _⟩
    · obtain rfl : j = l.length := by omega
      have r0 := HBx.out.1 0 _ rfl
      have r1 := HBx.out.1 1 _ rfl
      have t0 := HBx.out.2 0
      have t1 := HBx.out.2 1
      go_wp2_with fail
      have h := HR.out.2
      rw [List.take_length] at h
      rw [h]
      have v0 := (setTwo r0 r1 (.int .i64 0) (.string ⟨#[]⟩)).1
      have v1 := (setTwo r0 r1 (.int .i64 0) (.string ⟨#[]⟩)).2
      exact bodyPost_ret (v := .agg #[.int .i64 0, .string ⟨#[]⟩]) (by simp [results, Tryd.results52, go_sem, v0, v1]) rfl ⟨rfl, below2 HR.out.1 Nr _ _⟩
theorem afirst_alt (ga gk : Nat) (F : Alt → Fo) (l : List Alt) (hz : ∀ x, x ∈ l → FoNz (F x)) (a : Option Addr) (c : Nat) (K K2 : Nat → Prop) (xs : List Value) (w : World) (hr : RowAt w K 52 13 (.slice a l.length c) l.length xs) (ht : AltsAt w K2 l xs)
    (HC : ∀ j (hj : j < l.length) (aq : Option Addr) (cq : Nat) (k : Int) (nm : Nm) (f : Bool) (u : Int) (ap : Option Addr) (np cp : Nat) (ak : Option Addr) (nk ck : Nat) (ab : Option Addr) (nb cb : Nat) (aa : Option Addr) (na ca : Nat) (W : World), Below w.heap.size w W → RowAt W K2 9 1 (.slice aq l[j].2.2.2.2.1.length cq) l[j].2.2.2.2.1.length (namesV l[j].2.2.2.2.1) → ExAt W K2 l[j].2.2.2.2.2 [.int .i64 k, .string (tx nm), .bool f, .int .u64 u, .slice ap np cp, .slice ak nk ck, .slice ab nb cb, .slice aa na ca] → Calls Tryd.prog 80 #[.agg #[.int .i64 l[j].1, .string (tx l[j].2.1), .bool l[j].2.2.1, .int .u64 l[j].2.2.2.1, .slice aq l[j].2.2.2.2.1.length cq, .int .i64 k, .string (tx nm), .bool f, .int .u64 u, .slice ap np cp, .slice ak nk ck, .slice ab nb cb, .slice aa na ca], .pointer (some ⟨ga, 0, none⟩), .pointer (some ⟨gk, 0, none⟩)] W fun e w' => e = .returned (vF (F l[j])) ∧ Below W.heap.size W w') :
    Calls Tryd.prog 83 #[.slice a l.length c, .func (.func 80) #[] #[.pointer (some ⟨ga, 0, none⟩), .pointer (some ⟨gk, 0, none⟩)]] w fun e w' => e = .returned (vF (firstF F l)) ∧ Below w.heap.size w w' := by
  have HO := Hd (Ai hr ht)
  have HZ := Hd hz
  replace HC := Hd HC
  have hmx := hr.cap
  unfold maxLen at hmx
  clear hr ht hz
  have eg := enters_of Tryd.func80 (by kernel_rfl) rfl
  have HS := Hd (Ai ((Below.refl w.heap.size w).alloc Nr (.cells #[.int .i64 0, .string ⟨#[]⟩] 76)) (BoxW.alloc w #[.int .i64 0, .string ⟨#[]⟩] 76))
  go_enter Tryd.func83, Tryd.ntmps83
  go_wp2_with fail
  go_loopw [10] (fun s wr => ∃ j : Nat, j ≤ l.length ∧ s = .int .i64 j ∧ Below w.heap.size w wr ∧ BoxW wr w.heap.size [.int .i64 0, .string ⟨#[]⟩] ∧ firstF F (l.take j) = none) (fun s _ => l.length - (RowKit.intOf s).toNat)
  case atStart => exact ⟨0, Nat.zero_le _, rfl, HS.out.1, HS.out.2, rfl⟩
  case round =>
    obtain ⟨j, hj, rfl, hbr, hbx, hno⟩ := hrel
    have HR := Hd (Ai hbr hno)
    have HBx := Hd hbx
    clear hbr hno hbx HS
    by_cases gj : j < l.length
    · have gj' : (j : Int) < (l.length : Int) := by omega
      obtain ⟨aq, cq, k, nm, f, u, ap, np, cp, ak, nk, ck, ab, nb, cb, aa, na, ca, hQ, hE, hc⟩ := HO.out.2.cells j gj
      obtain ⟨g1, o1, ea1, k1, m1', -, ht1⟩ := HO.out.1.at (by omega)
      subst ea1
      have HP := Hd (fun i v h => later' HR.out.1 (ht1 _ _ (hc i v h)))
      have HT := Hd (show l.take (j + 1) = l.take j ++ [l[j]] from List.take_succ_eq_append_getElem gj)
      have HF := Hd (firstF_here F l j gj HR.out.2)
      have HZj := Hd (HZ.out l[j] (List.getElem_mem gj))
      have HCj := Hd (fun (W : World) (hb : Below w.heap.size w W) => HC.out j gj aq cq k nm f u ap np cp ak nk ck ab nb cb aa na ca W hb (hQ.move fun g hk lt => ⟨hk, hb.block g lt⟩) (hE.move fun g hk lt => ⟨hk, hb.block g lt⟩))
      clear ht1 hc HC HZ hE hQ
      generalize hfo : F l[j] = fo at *
      have HTj := Hd (show firstF F (l.take (j + 1)) = fo by rw [HT.out, firstF_snoc, HR.out.2, hfo]; rfl)
      clear hfo HT
      generalize l[j].2.1 = nb0 at *
      generalize l[j].2.2.2.2.1.length = nq at *
      generalize l[j].1 = kd at *
      generalize l[j].2.2.1 = fd at *
      generalize l[j].2.2.2.1 = ud at *
      have p0 : wr.cell? ⟨g1, o1 + j * 13, none⟩ = some (.int .i64 kd) := HP.out 0 _ rfl
      have p1 : wr.cell? ⟨g1, o1 + j * 13 + 1, none⟩ = some (.string (tx nb0)) := by rw [Nat.add_assoc]; exact HP.out 1 _ rfl
      have p2 : wr.cell? ⟨g1, o1 + j * 13 + 2, none⟩ = some (.bool fd) := by rw [Nat.add_assoc]; exact HP.out 2 _ rfl
      have p3 : wr.cell? ⟨g1, o1 + j * 13 + 3, none⟩ = some (.int .u64 ud) := by rw [Nat.add_assoc]; exact HP.out 3 _ rfl
      have p4 : wr.cell? ⟨g1, o1 + j * 13 + 4, none⟩ = some (.slice aq nq cq) := by rw [Nat.add_assoc]; exact HP.out 4 _ rfl
      have p5 : wr.cell? ⟨g1, o1 + j * 13 + 5, none⟩ = some (.int .i64 k) := by rw [Nat.add_assoc]; exact HP.out 5 _ rfl
      have p6 : wr.cell? ⟨g1, o1 + j * 13 + 6, none⟩ = some (.string (tx nm)) := by rw [Nat.add_assoc]; exact HP.out 6 _ rfl
      have p7 : wr.cell? ⟨g1, o1 + j * 13 + 7, none⟩ = some (.bool f) := by rw [Nat.add_assoc]; exact HP.out 7 _ rfl
      have p8 : wr.cell? ⟨g1, o1 + j * 13 + 8, none⟩ = some (.int .u64 u) := by rw [Nat.add_assoc]; exact HP.out 8 _ rfl
      have p9 : wr.cell? ⟨g1, o1 + j * 13 + 9, none⟩ = some (.slice ap np cp) := by rw [Nat.add_assoc]; exact HP.out 9 _ rfl
      have p10 : wr.cell? ⟨g1, o1 + j * 13 + 10, none⟩ = some (.slice ak nk ck) := by rw [Nat.add_assoc]; exact HP.out 10 _ rfl
      have p11 : wr.cell? ⟨g1, o1 + j * 13 + 11, none⟩ = some (.slice ab nb cb) := by rw [Nat.add_assoc]; exact HP.out 11 _ rfl
      have p12 : wr.cell? ⟨g1, o1 + j * 13 + 12, none⟩ = some (.slice aa na ca) := by rw [Nat.add_assoc]; exact HP.out 12 _ rfl
      have ej : IntKind.i64.wrap ((j : Int) + 1) = (j : Int) + 1 := by rw [IntKind.wrap_i64]; omega
      have b0 : (0 : Int) ≤ (j : Int) := by omega
      have hx := (Below.refl wr.heap.size wr).alloc Nr (.cells #[.int .i64 kd, .string (tx nb0), .bool fd, .int .u64 ud, .slice aq nq cq, .int .i64 k, .string (tx nm), .bool f, .int .u64 u, .slice ap np cp, .slice ak nk ck, .slice ab nb cb, .slice aa na ca] 52)
      have HX := Hd hx
      have HBx2 := Hd (HBx.out.below hx)
      clear hx
      go_wp2_with fail
      refine (HCj.out _ (onB' HR.out.1 HX.out)).mono ?_
      rintro e w4 ⟨rfl, hb4⟩
      have HB4 := Hd (onB' (onB' HR.out.1 HX.out) hb4)
      have HBx4 := Hd (HBx2.out.below hb4)
      clear hb4 HCj HP
      cases hfo : fo with
      | none =>
        have hy := (Below.refl w4.heap.size w4).alloc Nr (.cells #[.int .i64 0, .string ⟨#[]⟩] 76)
        have HB5 := Hd (onB' HB4.out hy)
        have HBx5 := Hd (HBx4.out.below hy)
        clear hy
        have ev : vF none = .agg #[.int .i64 0, .string ⟨#[]⟩] := rfl
        rw [ev]
        clear ev
        have HTn := Hd (HTj.out.trans hfo)
        clear hfo
        go_wp2_with fail
        exact ⟨⟨j + 1, by omega, by go_num, HB5.out, HBx5.out, HTn.out⟩, by simp [RowKit.intOf]; omega⟩
      | some v =>
        obtain ⟨er, n⟩ := v
        have HFn := Hd (HF.out (by rw [hfo]; rfl))
        have hne : (er != 0) = true := by simpa using HZj.out er n hfo
        have hy := (Below.refl w4.heap.size w4).alloc Nr (.cells #[.int .i64 er, .string (tx n)] 76)
        have HB5 := Hd (onB' HB4.out hy)
        have HBx5 := Hd (HBx4.out.below hy)
        have r0 := HBx5.out.1 0 _ rfl
        have r1 := HBx5.out.1 1 _ rfl
        have t0 := HBx5.out.2 0
        have t1 := HBx5.out.2 1
        clear hy
        have ev : vF (some (er, n)) = .agg #[.int .i64 er, .string (tx n)] := rfl
        rw [ev]
        clear ev HF HTj HZj
        subst hfo
        go_wp2_with fail
        have v0 := (setTwo r0 r1 (.int .i64 er) (.string (tx n))).1
        have v1 := (setTwo r0 r1 (.int .i64 er) (.string (tx n))).2
        exact bodyPost_ret (v := .agg #[.int .i64 er, .string (tx n)]) (by simp [results, Tryd.results83, go_sem, v0, v1]) rfl ⟨by rw [HFn.out]; rfl, below2 HB5.out Nr _ _⟩
    · obtain rfl : j = l.length := by omega
      have r0 := HBx.out.1 0 _ rfl
      have r1 := HBx.out.1 1 _ rfl
      have t0 := HBx.out.2 0
      have t1 := HBx.out.2 1
      go_wp2_with fail
      have h := HR.out.2
      rw [List.take_length] at h
      rw [h]
      have v0 := (setTwo r0 r1 (.int .i64 0) (.string ⟨#[]⟩)).1
      have v1 := (setTwo r0 r1 (.int .i64 0) (.string ⟨#[]⟩)).2
      exact bodyPost_ret (v := .agg #[.int .i64 0, .string ⟨#[]⟩]) (by simp [results, Tryd.results83, go_sem, v0, v1]) rfl ⟨rfl, below2 HR.out.1 Nr _ _⟩
def arB (cs : List (Nm × Int)) (b : Bnd) : Fo := (oneF (decide (24 < b.2.1.length)) 12 b.1).or (arE cs b.2.2)
def arA (cs : List (Nm × Int)) (a : Alt) : Fo := (if a.1 = 0 then oneF (decide ((a.2.2.2.2.1.length : Int) ≠ lookA cs a.2.1)) 11 a.2.1 else none).or (arE cs a.2.2.2.2.2)
def arH (cs : List (Nm × Int)) (k : Int) (n : Nm) (ps : List Nm) (nk : Nat) : Fo :=
  if k = 2 then oneF (decide ((nk : Int) ≠ lookA cs n)) 11 n
  else if k = 5 then oneF (decide ((nk : Int) ≠ takesL n)) 11 n
  else if k = 4 then oneF (decide (25 < nk)) 12 []
  else if k = 8 then oneF (decide (24 < ps.length)) 12 (ps.headD [])
  else none
theorem arEs_first (cs : List (Nm × Int)) : ∀ (l : List Ex), arEs cs l = firstF (arE cs) l
  | [] => by unfold arEs firstF; rfl
  | e :: r => by unfold arEs firstF; rw [arEs_first cs r]
theorem arBs_first (cs : List (Nm × Int)) : ∀ (l : List Bnd), arBs cs l = firstF (arB cs) l
  | [] => by unfold arBs firstF; rfl
  | (n, ps, e) :: r => by unfold arBs firstF; rw [arBs_first cs r]; rfl
theorem arAs_first (cs : List (Nm × Int)) : ∀ (l : List Alt), arAs cs l = firstF (arA cs) l
  | [] => by unfold arAs firstF; rfl
  | (k, n, f, x, ns, e) :: r => by unfold arAs firstF; rw [arAs_first cs r]; rfl
theorem arE_mk (cs : List (Nm × Int)) (k : Int) (n : Nm) (f : Bool) (u : Int) (ps : List Nm) (ks : List Ex) (bl : List Bnd) (al : List Alt) :
    arE cs (.mk k n f u ps ks bl al) = (arH cs k n ps ks.length).or ((firstF (arB cs) bl).or ((firstF (arE cs) ks).or (firstF (arA cs) al))) := by
  conv => lhs; unfold arE
  rw [arBs_first, arEs_first, arAs_first]
  rfl
theorem FoNz.or {a b : Fo} (ha : FoNz a) (hb : FoNz b) : FoNz (a.or b) := by
  cases a with
  | none => simpa using hb
  | some x => intro e n h; exact ha e n (by simpa using h)
theorem oneF_nz {c : Bool} {e : Int} {n : Nm} (he : e ≠ 0) : FoNz (oneF c e n) := by
  intro e' n' h
  unfold oneF at h
  split at h
  · cases h; exact he
  · cases h
theorem none_nz : FoNz none := fun _ _ h => by cases h
theorem firstF_nz {α : Type} {F : α → Fo} : ∀ {l : List α}, (∀ x, x ∈ l → FoNz (F x)) → FoNz (firstF F l)
  | [], _ => none_nz
  | x :: _, h => FoNz.or (h x (List.mem_cons_self ..)) (firstF_nz fun y hy => h y (List.mem_cons_of_mem _ hy))
theorem arH_nz (cs : List (Nm × Int)) (k : Int) (n : Nm) (ps : List Nm) (nk : Nat) : FoNz (arH cs k n ps nk) := by
  unfold arH
  split
  · exact oneF_nz (by decide)
  split
  · exact oneF_nz (by decide)
  split
  · exact oneF_nz (by decide)
  split
  · exact oneF_nz (by decide)
  · exact none_nz
theorem arE_nzn (cs : List (Nm × Int)) : ∀ (n : Nat) (e : Ex), SizeOf.sizeOf e ≤ n → FoNz (arE cs e)
  | 0, .mk k n f u ps ks bl al, h => by simp only [Ex.mk.sizeOf_spec] at h; omega
  | n + 1, .mk k nm f u ps ks bl al, h => by
    rw [arE_mk]
    simp only [Ex.mk.sizeOf_spec] at h
    refine FoNz.or (arH_nz _ _ _ _ _) (FoNz.or (firstF_nz fun x hx => ?_) (FoNz.or (firstF_nz fun x hx => ?_) (firstF_nz fun x hx => ?_)))
    · have := List.sizeOf_lt_of_mem hx
      obtain ⟨a, b, c⟩ := x
      simp only [Prod.mk.sizeOf_spec] at this
      exact (oneF_nz (by decide)).or (arE_nzn cs n c (by omega))
    · have := List.sizeOf_lt_of_mem hx
      exact arE_nzn cs n x (by omega)
    · have := List.sizeOf_lt_of_mem hx
      obtain ⟨a, b, c, d, e, g⟩ := x
      simp only [Prod.mk.sizeOf_spec] at this
      refine FoNz.or ?_ (arE_nzn cs n g (by omega))
      show FoNz (if a = 0 then _ else none)
      split
      · exact oneF_nz (by decide)
      · exact none_nz
theorem arE_nz (cs : List (Nm × Int)) (e : Ex) : FoNz (arE cs e) := arE_nzn cs _ e Nr
theorem arB_nz (cs : List (Nm × Int)) (b : Bnd) : FoNz (arB cs b) := (oneF_nz (by decide)).or (arE_nz cs _)
theorem arA_nz (cs : List (Nm × Int)) (a : Alt) : FoNz (arA cs a) := by
  refine FoNz.or ?_ (arE_nz cs _)
  split
  · exact oneF_nz (by decide)
  · exact none_nz
structure AskAt (W : World) (ga gt gb gk gl ma ma2 mt mt2 : Nat) (cs : List (Nm × Int)) : Prop where
  a : W.cell? ⟨ga, 0, none⟩ = some (.map (some ma))
  t : W.cell? ⟨gt, 0, none⟩ = some (.map (some mt))
  b : W.cell? ⟨gb, 0, none⟩ = some (.func (.func 79) #[] #[.pointer (some ⟨gk, 0, none⟩)])
  k : W.cell? ⟨gk, 0, none⟩ = some (.func (.func 81) #[] #[.pointer (some ⟨ga, 0, none⟩), .pointer (some ⟨gt, 0, none⟩), .pointer (some ⟨gb, 0, none⟩), .pointer (some ⟨gk, 0, none⟩), .pointer (some ⟨gl, 0, none⟩)])
  l : W.cell? ⟨gl, 0, none⟩ = some (.func (.func 80) #[] #[.pointer (some ⟨ga, 0, none⟩), .pointer (some ⟨gk, 0, none⟩)])
  am : AMap W ma ma2 (lookA cs)
  tm : AMap W mt mt2 takesL
theorem AskAt.later {W W' : World} {ga gt gb gk gl ma ma2 mt mt2 : Nat} {cs : List (Nm × Int)} (h : AskAt W ga gt gb gk gl ma ma2 mt mt2 cs) (hb : Below W.heap.size W W') : AskAt W' ga gt gb gk gl ma ma2 mt mt2 cs :=
  ⟨later' hb h.a, later' hb h.t, later' hb h.b, later' hb h.k, later' hb h.l, h.am.later hb, h.tm.later hb⟩
def AskC (ga gt gb gk gl ma ma2 mt mt2 : Nat) (cs : List (Nm × Int)) (n : Nat) : Prop :=
  ∀ (x : Ex) (K : Nat → Prop) (W : World) (k : Int) (nm : Nm) (f : Bool) (u : Int) (ap : Option Addr) (np cp : Nat) (ak : Option Addr) (nk ck : Nat) (ab : Option Addr) (nb cb : Nat) (aa : Option Addr) (na ca : Nat), SizeOf.sizeOf x ≤ n → wfE x → AskAt W ga gt gb gk gl ma ma2 mt mt2 cs → ExAt W K x [.int .i64 k, .string (tx nm), .bool f, .int .u64 u, .slice ap np cp, .slice ak nk ck, .slice ab nb cb, .slice aa na ca] →
    Calls Tryd.prog 81 #[.agg #[.int .i64 k, .string (tx nm), .bool f, .int .u64 u, .slice ap np cp, .slice ak nk ck, .slice ab nb cb, .slice aa na ca], .pointer (some ⟨ga, 0, none⟩), .pointer (some ⟨gt, 0, none⟩), .pointer (some ⟨gb, 0, none⟩), .pointer (some ⟨gk, 0, none⟩), .pointer (some ⟨gl, 0, none⟩)] W fun e w' => e = .returned (vF (arE cs x)) ∧ Below W.heap.size W w'
end Go.Proofs.YtdjcdecbmeickaaDoor
