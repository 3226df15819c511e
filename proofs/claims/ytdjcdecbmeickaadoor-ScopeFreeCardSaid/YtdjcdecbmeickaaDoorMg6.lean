import Derived.Deep.RegionHeld3
import Derived.Test.YtdjcdecbmeickaaDoorMg4
import Derived.Test.YtdjcdecbmeickaaDoorMg5
namespace Go.Proofs.YtdjcdecbmeickaaDoor
set_option maxHeartbeats 64000000
set_option maxRecDepth 100000
open Go.RowKit Go.Lib
theorem nfault_any (b n : Nat) (dom : List Nm) (x : Nm) (hx : x.length ≤ 100000) (w : World) (h : NSet w b n dom) : Calls Tryd.prog 97 #[.map (some b), .string (tx x)] w fun e w' => e = .returned (vErr (hasF dom x)) ∧ Below w.heap.size w w' := by
  have hl := h.look x hx
  by_cases g : x ∈ dom
  · rw [decide_eq_true g] at hl
    have hf : hasF dom x = none := if_pos g
    rw [hf]
    go_enter Tryd.func97, Tryd.ntmps97
    go_wp2_with fail
    go_ret
    exact ⟨rfl, Below.refl _ _⟩
  · rw [decide_eq_false g] at hl
    have hf : hasF dom x = some (4, x) := if_neg g
    rw [hf]
    go_enter Tryd.func97, Tryd.ntmps97
    go_wp2_with fail
    go_ret
    exact ⟨rfl, Below.refl _ _⟩
theorem NSet.ne {w : World} {b n k i : Nat} {dom : List Nm} {v : Value} (h : NSet w b n dom) (hc : w.cell? ⟨k, i, none⟩ = some v) : b ≠ k := by
  obtain ⟨D, ⟨es, c, hb, r⟩, h2⟩ := h
  intro e
  subst e
  simp [World.cell?, hb] at hc
def UnderSaid (bc cnt : Nat) (dom l : List Nm) (e : Ending) (w' : World) : Prop :=
  match twF l with
  | some f => e = .returned (.tuple #[.agg #[.map (some bc), .map none], vErr (some f)])
  | none => ∃ b, e = .returned (.tuple #[.agg #[.map (some bc), .map (some b)], .nilIface]) ∧ NSet w' b (cnt + l.length) (dom ++ l)
theorem under_any (bc bm cnt : Nat) (dom l : List Nm) (hl : ∀ x, x ∈ l → x.length ≤ 100000) (hn : cnt + l.length ≤ 100000) (a : Option Addr) (c : Nat) (K : Nat → Prop) (w : World) (hs : NSet w bm cnt dom) (hr : RowAt w K 9 1 (.slice a l.length c) l.length (namesV l)) :
    Calls Tryd.prog 90 #[.agg #[.map (some bc), .map (some bm)], .slice a l.length c] w fun e w' => UnderSaid bc cnt dom l e w' ∧ Below w.heap.size w w' := by
  have hx1 := (Below.refl w.heap.size w).alloc Nr (.cells #[.map (some bc), .map (some bm)] 113)
  have hx := hx1.alloc hx1.size (.cells #[.map none, .map none] 113)
  have hB1 := (BoxW.alloc w #[.map (some bc), .map (some bm)] 113).below (Br.alloc Nr (.cells #[.map none, .map none] 113))
  have hB2 := BoxW.alloc (w.alloc (.cells #[.map (some bc), .map (some bm)] 113)) #[.map none, .map none] 113
  rw [show (w.alloc (.cells #[.map (some bc), .map (some bm)] 113)).heap.size = w.heap.size + 1 by simp] at hB2
  have HX := Hd (Ai hx (Ai hB1 hB2))
  have HW := Hd (with_any bm cnt dom l hl hn a c (fun g => g < w.heap.size) ((w.alloc (.cells #[.map (some bc), .map (some bm)] 113)).alloc (.cells #[.map none, .map none] 113)) (hs.later hx) (hr.low hx))
  clear hx hx1 hs hr hl hB1 hB2
  go_enter Tryd.func90, Tryd.ntmps90
  go_upto_region 1 with fail
  generalize ((w.alloc (.cells #[.map (some bc), .map (some bm)] 113)).alloc (.cells #[.map none, .map none] 113)) = W at *
  have d0 : W.cell? ⟨w.heap.size, 0, none⟩ = some (.map (some bc)) := HX.out.2.1.1 0 _ rfl
  have d1 : W.cell? ⟨w.heap.size, 1, none⟩ = some (.map (some bm)) := HX.out.2.1.1 1 _ rfl
  go_wp2_with fail
  refine HW.out.mono ?_
  rintro e w2 ⟨hw, hb2⟩
  have HB2 := Hd (onB' HX.out.1 hb2)
  have e0 := later' hb2 d0
  have HBx := Hd (HX.out.2.2.below hb2)
  have c0 : w2.cell? ⟨w.heap.size + 1, 0, none⟩ = some _ := HBx.out.1 0 _ rfl
  have c1 : w2.cell? ⟨w.heap.size + 1, 1, none⟩ = some _ := HBx.out.1 1 _ rfl
  have f0 := HBx.out.2 0
  have f1 := HBx.out.2 1
  have HS := Hd hw
  clear hb2 hw d0 d1 HW HX
  cases htw : twF l with
  | some fo =>
    have h := HS.out
    unfold WithSaid at h
    rw [htw] at h
    subst h
    obtain ⟨er, nm⟩ := fo
    unfold vErr
    have HE := Hd htw
    clear htw HS
    go_wp2_with fail
    have v0 : ((w2.setCell ⟨w.heap.size + 1, 0, none⟩ (.map (some bc))).setCell ⟨w.heap.size + 1, 1, none⟩ (.map none)).cell? ⟨w.heap.size + 1, 0, none⟩ = some (.map (some bc)) := (at_oth _ _ _ _ _ (by decide)).trans (at_sam _ c0)
    have v1 : ((w2.setCell ⟨w.heap.size + 1, 0, none⟩ (.map (some bc))).setCell ⟨w.heap.size + 1, 1, none⟩ (.map none)).cell? ⟨w.heap.size + 1, 1, none⟩ = some (.map none) := at_sam _ ((at_oth _ _ _ _ _ (by decide)).trans c1)
    refine bodyPost_ret (v := .tuple #[.agg #[.map (some bc), .map none], .iface 59 (.agg #[.int .i64 er, .string (tx nm)])]) (by simp [results, Tryd.results90, go_sem, v0, v1]) rfl ⟨?_, ?_⟩
    · unfold UnderSaid
      rw [HE.out]
      rfl
    · exact below_of_new (below_of_new HB2.out (set_grown ..) (by omega)) (set_grown ..) (by omega)
  | none =>
    have h := HS.out
    unfold WithSaid at h
    rw [htw] at h
    obtain ⟨b, rfl, hs⟩ := h
    have HE := Hd (Ai htw hs)
    clear htw HS hs
    go_wp2_with fail
    have v0 : ((w2.setCell ⟨w.heap.size + 1, 0, none⟩ (.map (some bc))).setCell ⟨w.heap.size + 1, 1, none⟩ (.map (some b))).cell? ⟨w.heap.size + 1, 0, none⟩ = some (.map (some bc)) := (at_oth _ _ _ _ _ (by decide)).trans (at_sam _ c0)
    have v1 : ((w2.setCell ⟨w.heap.size + 1, 0, none⟩ (.map (some bc))).setCell ⟨w.heap.size + 1, 1, none⟩ (.map (some b))).cell? ⟨w.heap.size + 1, 1, none⟩ = some (.map (some b)) := at_sam _ ((at_oth _ _ _ _ _ (by decide)).trans c1)
    refine bodyPost_ret (v := .tuple #[.agg #[.map (some bc), .map (some b)], .nilIface]) (by simp [results, Tryd.results90, go_sem, v0, v1]) rfl ⟨?_, ?_⟩
    · unfold UnderSaid
      rw [HE.out.1]
      have hne := HE.out.2.ne c0
      have hlt := HE.out.2.lt
      have g := Gt (set_grown w2 (w.heap.size + 1) 0 (.map (some bc))) (set_grown (w2.setCell ⟨w.heap.size + 1, 0, none⟩ (.map (some bc))) (w.heap.size + 1) 1 (.map (some b)))
      exact ⟨b, rfl, HE.out.2.same (g.block b hlt (by simpa using hne))⟩
    · exact below_of_new (below_of_new HB2.out (set_grown ..) (by omega)) (set_grown ..) (by omega)
def firstF {α : Type} (F : α → Fo) : List α → Fo
  | [] => none
  | x :: r => (F x).or (firstF F r)
theorem firstF_here {α : Type} (F : α → Fo) : ∀ (l : List α) (j : Nat) (hj : j < l.length), firstF F (l.take j) = none → (F l[j]).isSome → firstF F l = F l[j]
  | x :: r, 0, _, _, h => by
    show (F x).or (firstF F r) = F x
    have h' : (F x).isSome := h
    cases hx : F x with
    | none => rw [hx] at h'; cases h'
    | some v => rfl
  | x :: r, j + 1, hj, h0, h => by
    have h0' : (F x).or (firstF F (r.take j)) = none := h0
    obtain ⟨p, q⟩ := or_none.1 h0'
    show (F x).or (firstF F r) = F (r[j]'(by simpa using hj))
    rw [p, Option.none_or]
    exact firstF_here F r j (by simpa using hj) q h
theorem firstF_snoc {α : Type} (F : α → Fo) : ∀ (l : List α) (x : α), firstF F (l ++ [x]) = (firstF F l).or (F x)
  | [], x => by show (F x).or none = _; cases F x <;> rfl
  | y :: r, x => by
    show (F y).or (firstF F (r ++ [x])) = ((F y).or (firstF F r)).or (F x)
    rw [firstF_snoc F r x, or_assoc_f]
theorem scEs_first (cs sc : List Nm) : ∀ (l : List Ex), scEs cs sc l = firstF (scE cs sc) l
  | [] => by unfold scEs firstF; rfl
  | e :: r => by unfold scEs firstF; rw [scEs_first cs sc r]
theorem scBs_first (cs sc : List Nm) : ∀ (l : List Bnd), scBs cs sc l = firstF (fun b => (twF b.2.1).or (scE cs (sc ++ b.2.1) b.2.2)) l
  | [] => by unfold scBs firstF; rfl
  | (n, ps, e) :: r => by unfold scBs firstF; rw [scBs_first cs sc r]
def scA (cs sc : List Nm) (a : Alt) : Fo := if a.1 = 0 then (hasF cs a.2.1).or ((twF a.2.2.2.2.1).or (scE cs (sc ++ a.2.2.2.2.1) a.2.2.2.2.2)) else if a.1 = 2 then scE cs (sc ++ [a.2.1]) a.2.2.2.2.2 else scE cs sc a.2.2.2.2.2
theorem scAs_first (cs sc : List Nm) : ∀ (l : List Alt), scAs cs sc l = firstF (scA cs sc) l
  | [] => by unfold scAs firstF; rfl
  | (k, n, f, x, ns, e) :: r => by unfold scAs firstF; rw [scAs_first cs sc r]; rfl
theorem first_expr (fid : Nat) (eg : ∀ args w, (callFunc fid args).run Tryd.prog w = .ok (.enter fid args) w) (bc bs : Nat) (F : Ex → Fo) (l : List Ex) (a : Option Addr) (c : Nat) (K K2 : Nat → Prop) (xs : List Value) (w : World) (hr : RowAt w K 46 8 (.slice a l.length c) l.length xs) (ht : ExsAt w K2 l xs)
    (HC : ∀ j (hj : j < l.length) (k : Int) (nm : Nm) (f : Bool) (u : Int) (ap : Option Addr) (np cp : Nat) (ak : Option Addr) (nk ck : Nat) (ab : Option Addr) (nb cb : Nat) (aa : Option Addr) (na ca : Nat) (W : World), Below w.heap.size w W → ExAt W K2 l[j] [.int .i64 k, .string (tx nm), .bool f, .int .u64 u, .slice ap np cp, .slice ak nk ck, .slice ab nb cb, .slice aa na ca] → Calls Tryd.prog fid #[.agg #[.map (some bc), .map (some bs)], .agg #[.int .i64 k, .string (tx nm), .bool f, .int .u64 u, .slice ap np cp, .slice ak nk ck, .slice ab nb cb, .slice aa na ca]] W fun e w' => e = .returned (vErr (F l[j])) ∧ Below W.heap.size W w') :
    Calls Tryd.prog 91 #[.slice a l.length c, .func (.func fid) #[.agg #[.map (some bc), .map (some bs)]] #[]] w fun e w' => e = .returned (vErr (firstF F l)) ∧ Below w.heap.size w w' := by
  have HO := Hd (Ai hr ht)
  replace HC := Hd HC
  have hmx := hr.cap
  unfold maxLen at hmx
  clear hr ht
  go_enter Tryd.func91, Tryd.ntmps91
  go_wp2_with fail
  go_loopw [10] (fun s wr => ∃ j : Nat, j ≤ l.length ∧ s = .int .i64 j ∧ Below w.heap.size w wr ∧ firstF F (l.take j) = none) (fun s _ => l.length - (RowKit.intOf s).toNat)
  case atStart => exact ⟨0, Nat.zero_le _, rfl, Below.refl _ _, rfl⟩
  case round =>
    obtain ⟨j, hj, rfl, hbr, hno⟩ := hrel
    have HR := Hd (Ai hbr hno)
    clear hbr hno
    by_cases gj : j < l.length
    · have gj' : (j : Int) < (l.length : Int) := by omega
      obtain ⟨k, nm, f, u, ap, np, cp, ak, nk, ck, ab, nb, cb, aa, na, ca, hE, hc⟩ := HO.out.2.cells j gj
      obtain ⟨g1, o1, ea1, k1, m1', -, ht1⟩ := HO.out.1.at (by omega)
      subst ea1
      have HP := Hd (fun i v h => later' HR.out.1 (ht1 _ _ (hc i v h)))
      have HT := Hd (show l.take (j + 1) = l.take j ++ [l[j]] from List.take_succ_eq_append_getElem gj)
      have HF := Hd (firstF_here F l j gj HR.out.2)
      have HCj := Hd (fun (W : World) (hb : Below w.heap.size w W) => HC.out j gj k nm f u ap np cp ak nk ck ab nb cb aa na ca W hb (hE.move fun g hk lt => ⟨hk, hb.block g lt⟩))
      clear ht1 hc HC hE
      generalize hfo : F l[j] = fo at *
      have HTj := Hd (show firstF F (l.take (j + 1)) = fo by rw [HT.out, firstF_snoc, HR.out.2, hfo]; rfl)
      clear hfo HT
      have p0 : wr.cell? ⟨g1, o1 + j * 8, none⟩ = some (.int .i64 k) := HP.out 0 _ rfl
      have p1 : wr.cell? ⟨g1, o1 + j * 8 + 1, none⟩ = some (.string (tx nm)) := by rw [Nat.add_assoc]; exact HP.out 1 _ rfl
      have p2 : wr.cell? ⟨g1, o1 + j * 8 + 2, none⟩ = some (.bool f) := by rw [Nat.add_assoc]; exact HP.out 2 _ rfl
      have p3 : wr.cell? ⟨g1, o1 + j * 8 + 3, none⟩ = some (.int .u64 u) := by rw [Nat.add_assoc]; exact HP.out 3 _ rfl
      have p4 : wr.cell? ⟨g1, o1 + j * 8 + 4, none⟩ = some (.slice ap np cp) := by rw [Nat.add_assoc]; exact HP.out 4 _ rfl
      have p5 : wr.cell? ⟨g1, o1 + j * 8 + 5, none⟩ = some (.slice ak nk ck) := by rw [Nat.add_assoc]; exact HP.out 5 _ rfl
      have p6 : wr.cell? ⟨g1, o1 + j * 8 + 6, none⟩ = some (.slice ab nb cb) := by rw [Nat.add_assoc]; exact HP.out 6 _ rfl
      have p7 : wr.cell? ⟨g1, o1 + j * 8 + 7, none⟩ = some (.slice aa na ca) := by rw [Nat.add_assoc]; exact HP.out 7 _ rfl
      have ej : IntKind.i64.wrap ((j : Int) + 1) = (j : Int) + 1 := by rw [IntKind.wrap_i64]; omega
      have b0 : (0 : Int) ≤ (j : Int) := by omega
      have HX := Hd ((Below.refl wr.heap.size wr).alloc Nr (.cells #[.int .i64 k, .string (tx nm), .bool f, .int .u64 u, .slice ap np cp, .slice ak nk ck, .slice ab nb cb, .slice aa na ca] 46))
      go_wp2_with fail
      refine (HCj.out _ (onB' HR.out.1 HX.out)).mono ?_
      rintro e w4 ⟨rfl, hb4⟩
      have HB4 := Hd (onB' (onB' HR.out.1 HX.out) hb4)
      clear hb4 HCj HP
      cases hfo : fo with
      | none =>
        unfold vErr
        have HTn := Hd (HTj.out.trans hfo)
        clear hfo
        go_wp2_with fail
        exact ⟨⟨j + 1, by omega, by go_num, HB4.out, HTn.out⟩, by simp [RowKit.intOf]; omega⟩
      | some v =>
        obtain ⟨er, n⟩ := v
        have HFn := Hd (HF.out (by rw [hfo]; rfl))
        unfold vErr
        clear HF HTj
        subst hfo
        go_wp2_with fail
        go_ret
        exact ⟨by rw [HFn.out]; rfl, HB4.out⟩
    · obtain rfl : j = l.length := by omega
      go_wp2_with fail
      go_ret
      have h := HR.out.2
      rw [List.take_length] at h
      rw [h]
      exact ⟨rfl, HR.out.1⟩
theorem first_bind (fid : Nat) (eg : ∀ args w, (callFunc fid args).run Tryd.prog w = .ok (.enter fid args) w) (bc bs : Nat) (F : Bnd → Fo) (l : List Bnd) (a : Option Addr) (c : Nat) (K K2 : Nat → Prop) (xs : List Value) (w : World) (hr : RowAt w K 48 10 (.slice a l.length c) l.length xs) (ht : BndsAt w K2 l xs)
    (HC : ∀ j (hj : j < l.length) (aq : Option Addr) (cq : Nat) (k : Int) (nm : Nm) (f : Bool) (u : Int) (ap : Option Addr) (np cp : Nat) (ak : Option Addr) (nk ck : Nat) (ab : Option Addr) (nb cb : Nat) (aa : Option Addr) (na ca : Nat) (W : World), Below w.heap.size w W → RowAt W K2 9 1 (.slice aq l[j].2.1.length cq) l[j].2.1.length (namesV l[j].2.1) → ExAt W K2 l[j].2.2 [.int .i64 k, .string (tx nm), .bool f, .int .u64 u, .slice ap np cp, .slice ak nk ck, .slice ab nb cb, .slice aa na ca] → Calls Tryd.prog fid #[.agg #[.map (some bc), .map (some bs)], .agg #[.string (tx l[j].1), .slice aq l[j].2.1.length cq, .int .i64 k, .string (tx nm), .bool f, .int .u64 u, .slice ap np cp, .slice ak nk ck, .slice ab nb cb, .slice aa na ca]] W fun e w' => e = .returned (vErr (F l[j])) ∧ Below W.heap.size W w') :
    Calls Tryd.prog 44 #[.slice a l.length c, .func (.func fid) #[.agg #[.map (some bc), .map (some bs)]] #[]] w fun e w' => e = .returned (vErr (firstF F l)) ∧ Below w.heap.size w w' := by
  have HO := Hd (Ai hr ht)
  replace HC := Hd HC
  have hmx := hr.cap
  unfold maxLen at hmx
  clear hr ht
  go_enter Tryd.func44, Tryd.ntmps44
  go_wp2_with fail
  go_loopw [10] (fun s wr => ∃ j : Nat, j ≤ l.length ∧ s = .int .i64 j ∧ Below w.heap.size w wr ∧ firstF F (l.take j) = none) (fun s _ => l.length - (RowKit.intOf s).toNat)
  case atStart => exact ⟨0, Nat.zero_le _, rfl, Below.refl _ _, rfl⟩
  case round =>
    obtain ⟨j, hj, rfl, hbr, hno⟩ := hrel
    have HR := Hd (Ai hbr hno)
    clear hbr hno
    by_cases gj : j < l.length
    · have gj' : (j : Int) < (l.length : Int) := by omega
      obtain ⟨aq, cq, k, nm, f, u, ap, np, cp, ak, nk, ck, ab, nb, cb, aa, na, ca, hQ, hE, hc⟩ := HO.out.2.cells j gj
      obtain ⟨g1, o1, ea1, k1, m1', -, ht1⟩ := HO.out.1.at (by omega)
      subst ea1
      have HP := Hd (fun i v h => later' HR.out.1 (ht1 _ _ (hc i v h)))
      have HT := Hd (show l.take (j + 1) = l.take j ++ [l[j]] from List.take_succ_eq_append_getElem gj)
      have HF := Hd (firstF_here F l j gj HR.out.2)
      have HCj := Hd (fun (W : World) (hb : Below w.heap.size w W) => HC.out j gj aq cq k nm f u ap np cp ak nk ck ab nb cb aa na ca W hb (hQ.move fun g hk lt => ⟨hk, hb.block g lt⟩) (hE.move fun g hk lt => ⟨hk, hb.block g lt⟩))
      clear ht1 hc HC hE hQ
      generalize hfo : F l[j] = fo at *
      have HTj := Hd (show firstF F (l.take (j + 1)) = fo by rw [HT.out, firstF_snoc, HR.out.2, hfo]; rfl)
      clear hfo HT
      generalize l[j].1 = nb0 at *
      generalize l[j].2.1.length = nq at *
      have p0 : wr.cell? ⟨g1, o1 + j * 10, none⟩ = some (.string (tx nb0)) := HP.out 0 _ rfl
      have p1 : wr.cell? ⟨g1, o1 + j * 10 + 1, none⟩ = some (.slice aq nq cq) := by rw [Nat.add_assoc]; exact HP.out 1 _ rfl
      have p2 : wr.cell? ⟨g1, o1 + j * 10 + 2, none⟩ = some (.int .i64 k) := by rw [Nat.add_assoc]; exact HP.out 2 _ rfl
      have p3 : wr.cell? ⟨g1, o1 + j * 10 + 3, none⟩ = some (.string (tx nm)) := by rw [Nat.add_assoc]; exact HP.out 3 _ rfl
      have p4 : wr.cell? ⟨g1, o1 + j * 10 + 4, none⟩ = some (.bool f) := by rw [Nat.add_assoc]; exact HP.out 4 _ rfl
      have p5 : wr.cell? ⟨g1, o1 + j * 10 + 5, none⟩ = some (.int .u64 u) := by rw [Nat.add_assoc]; exact HP.out 5 _ rfl
      have p6 : wr.cell? ⟨g1, o1 + j * 10 + 6, none⟩ = some (.slice ap np cp) := by rw [Nat.add_assoc]; exact HP.out 6 _ rfl
      have p7 : wr.cell? ⟨g1, o1 + j * 10 + 7, none⟩ = some (.slice ak nk ck) := by rw [Nat.add_assoc]; exact HP.out 7 _ rfl
      have p8 : wr.cell? ⟨g1, o1 + j * 10 + 8, none⟩ = some (.slice ab nb cb) := by rw [Nat.add_assoc]; exact HP.out 8 _ rfl
      have p9 : wr.cell? ⟨g1, o1 + j * 10 + 9, none⟩ = some (.slice aa na ca) := by rw [Nat.add_assoc]; exact HP.out 9 _ rfl
      have ej : IntKind.i64.wrap ((j : Int) + 1) = (j : Int) + 1 := by rw [IntKind.wrap_i64]; omega
      have b0 : (0 : Int) ≤ (j : Int) := by omega
      have HX := Hd ((Below.refl wr.heap.size wr).alloc Nr (.cells #[.string (tx nb0), .slice aq nq cq, .int .i64 k, .string (tx nm), .bool f, .int .u64 u, .slice ap np cp, .slice ak nk ck, .slice ab nb cb, .slice aa na ca] 48))
      go_wp2_with fail
      refine (HCj.out _ (onB' HR.out.1 HX.out)).mono ?_
      rintro e w4 ⟨rfl, hb4⟩
      have HB4 := Hd (onB' (onB' HR.out.1 HX.out) hb4)
      clear hb4 HCj HP
      cases hfo : fo with
      | none =>
        unfold vErr
        have HTn := Hd (HTj.out.trans hfo)
        clear hfo
        go_wp2_with fail
        exact ⟨⟨j + 1, by omega, by go_num, HB4.out, HTn.out⟩, by simp [RowKit.intOf]; omega⟩
      | some v =>
        obtain ⟨er, n⟩ := v
        have HFn := Hd (HF.out (by rw [hfo]; rfl))
        unfold vErr
        clear HF HTj
        subst hfo
        go_wp2_with fail
        go_ret
        exact ⟨by rw [HFn.out]; rfl, HB4.out⟩
    · obtain rfl : j = l.length := by omega
      go_wp2_with fail
      go_ret
      have h := HR.out.2
      rw [List.take_length] at h
      rw [h]
      exact ⟨rfl, HR.out.1⟩
theorem first_alt (fid : Nat) (eg : ∀ args w, (callFunc fid args).run Tryd.prog w = .ok (.enter fid args) w) (bc bs : Nat) (F : Alt → Fo) (l : List Alt) (a : Option Addr) (c : Nat) (K K2 : Nat → Prop) (xs : List Value) (w : World) (hr : RowAt w K 52 13 (.slice a l.length c) l.length xs) (ht : AltsAt w K2 l xs)
    (HC : ∀ j (hj : j < l.length) (aq : Option Addr) (cq : Nat) (k : Int) (nm : Nm) (f : Bool) (u : Int) (ap : Option Addr) (np cp : Nat) (ak : Option Addr) (nk ck : Nat) (ab : Option Addr) (nb cb : Nat) (aa : Option Addr) (na ca : Nat) (W : World), Below w.heap.size w W → RowAt W K2 9 1 (.slice aq l[j].2.2.2.2.1.length cq) l[j].2.2.2.2.1.length (namesV l[j].2.2.2.2.1) → ExAt W K2 l[j].2.2.2.2.2 [.int .i64 k, .string (tx nm), .bool f, .int .u64 u, .slice ap np cp, .slice ak nk ck, .slice ab nb cb, .slice aa na ca] → Calls Tryd.prog fid #[.agg #[.map (some bc), .map (some bs)], .agg #[.int .i64 l[j].1, .string (tx l[j].2.1), .bool l[j].2.2.1, .int .u64 l[j].2.2.2.1, .slice aq l[j].2.2.2.2.1.length cq, .int .i64 k, .string (tx nm), .bool f, .int .u64 u, .slice ap np cp, .slice ak nk ck, .slice ab nb cb, .slice aa na ca]] W fun e w' => e = .returned (vErr (F l[j])) ∧ Below W.heap.size W w') :
    Calls Tryd.prog 100 #[.slice a l.length c, .func (.func fid) #[.agg #[.map (some bc), .map (some bs)]] #[]] w fun e w' => e = .returned (vErr (firstF F l)) ∧ Below w.heap.size w w' := by
  have HO := Hd (Ai hr ht)
  replace HC := Hd HC
  have hmx := hr.cap
  unfold maxLen at hmx
  clear hr ht
  go_enter Tryd.func100, Tryd.ntmps100
  go_wp2_with fail
  go_loopw [10] (fun s wr => ∃ j : Nat, j ≤ l.length ∧ s = .int .i64 j ∧ Below w.heap.size w wr ∧ firstF F (l.take j) = none) (fun s _ => l.length - (RowKit.intOf s).toNat)
  case atStart => exact ⟨0, Nat.zero_le _, rfl, Below.refl _ _, rfl⟩
  case round =>
    obtain ⟨j, hj, rfl, hbr, hno⟩ := hrel
    have HR := Hd (Ai hbr hno)
    clear hbr hno
    by_cases gj : j < l.length
    · have gj' : (j : Int) < (l.length : Int) := by omega
      obtain ⟨aq, cq, k, nm, f, u, ap, np, cp, ak, nk, ck, ab, nb, cb, aa, na, ca, hQ, hE, hc⟩ := HO.out.2.cells j gj
      obtain ⟨g1, o1, ea1, k1, m1', -, ht1⟩ := HO.out.1.at (by omega)
      subst ea1
      have HP := Hd (fun i v h => later' HR.out.1 (ht1 _ _ (hc i v h)))
      have HT := Hd (show l.take (j + 1) = l.take j ++ [l[j]] from List.take_succ_eq_append_getElem gj)
      have HF := Hd (firstF_here F l j gj HR.out.2)
      have HCj := Hd (fun (W : World) (hb : Below w.heap.size w W) => HC.out j gj aq cq k nm f u ap np cp ak nk ck ab nb cb aa na ca W hb (hQ.move fun g hk lt => ⟨hk, hb.block g lt⟩) (hE.move fun g hk lt => ⟨hk, hb.block g lt⟩))
      clear ht1 hc HC hE hQ
      generalize hfo : F l[j] = fo at *
      have HTj := Hd (show firstF F (l.take (j + 1)) = fo by rw [HT.out, firstF_snoc, HR.out.2, hfo]; rfl)
      clear hfo HT
      generalize l[j].2.1 = nb0 at *
      generalize l[j].2.2.2.2.1.length = nq at *
      generalize l[j].1 = kd at *
      generalize l[j].2.2.1 = fd at *
      generalize l[j].2.2.2.1 = ud at *
      have p0 : wr.cell? ⟨g1, o1 + j * 13, none⟩ = some (.int .i64 kd) := HP.out 0 _ rfl
      have p1 : wr.cell? ⟨g1, o1 + j * 13 + 1, none⟩ = some (.string (tx nb0)) := by rw [Nat.add_assoc]; exact HP.out 1 _ rfl
      have p2 : wr.cell? ⟨g1, o1 + j * 13 + 2, none⟩ = some (.bool fd) := by rw [Nat.add_assoc]; exact HP.out 2 _ rfl
      have p3 : wr.cell? ⟨g1, o1 + j * 13 + 3, none⟩ = some (.int .u64 ud) := by rw [Nat.add_assoc]; exact HP.out 3 _ rfl
      have p4 : wr.cell? ⟨g1, o1 + j * 13 + 4, none⟩ = some (.slice aq nq cq) := by rw [Nat.add_assoc]; exact HP.out 4 _ rfl
      have p5 : wr.cell? ⟨g1, o1 + j * 13 + 5, none⟩ = some (.int .i64 k) := by rw [Nat.add_assoc]; exact HP.out 5 _ rfl
      have p6 : wr.cell? ⟨g1, o1 + j * 13 + 6, none⟩ = some (.string (tx nm)) := by rw [Nat.add_assoc]; exact HP.out 6 _ rfl
      have p7 : wr.cell? ⟨g1, o1 + j * 13 + 7, none⟩ = some (.bool f) := by rw [Nat.add_assoc]; exact HP.out 7 _ rfl
      have p8 : wr.cell? ⟨g1, o1 + j * 13 + 8, none⟩ = some (.int .u64 u) := by rw [Nat.add_assoc]; exact HP.out 8 _ rfl
      have p9 : wr.cell? ⟨g1, o1 + j * 13 + 9, none⟩ = some (.slice ap np cp) := by rw [Nat.add_assoc]; exact HP.out 9 _ rfl
      have p10 : wr.cell? ⟨g1, o1 + j * 13 + 10, none⟩ = some (.slice ak nk ck) := by rw [Nat.add_assoc]; exact HP.out 10 _ rfl
      have p11 : wr.cell? ⟨g1, o1 + j * 13 + 11, none⟩ = some (.slice ab nb cb) := by rw [Nat.add_assoc]; exact HP.out 11 _ rfl
      have p12 : wr.cell? ⟨g1, o1 + j * 13 + 12, none⟩ = some (.slice aa na ca) := by rw [Nat.add_assoc]; exact HP.out 12 _ rfl
      have ej : IntKind.i64.wrap ((j : Int) + 1) = (j : Int) + 1 := by rw [IntKind.wrap_i64]; omega
      have b0 : (0 : Int) ≤ (j : Int) := by omega
      have HX := Hd ((Below.refl wr.heap.size wr).alloc Nr (.cells #[.int .i64 kd, .string (tx nb0), .bool fd, .int .u64 ud, .slice aq nq cq, .int .i64 k, .string (tx nm), .bool f, .int .u64 u, .slice ap np cp, .slice ak nk ck, .slice ab nb cb, .slice aa na ca] 52))
      go_wp2_with fail
      refine (HCj.out _ (onB' HR.out.1 HX.out)).mono ?_
      rintro e w4 ⟨rfl, hb4⟩
      have HB4 := Hd (onB' (onB' HR.out.1 HX.out) hb4)
      clear hb4 HCj HP
      cases hfo : fo with
      | none =>
        unfold vErr
        have HTn := Hd (HTj.out.trans hfo)
        clear hfo
        go_wp2_with fail
        exact ⟨⟨j + 1, by omega, by go_num, HB4.out, HTn.out⟩, by simp [RowKit.intOf]; omega⟩
      | some v =>
        obtain ⟨er, n⟩ := v
        have HFn := Hd (HF.out (by rw [hfo]; rfl))
        unfold vErr
        clear HF HTj
        subst hfo
        go_wp2_with fail
        go_ret
        exact ⟨by rw [HFn.out]; rfl, HB4.out⟩
    · obtain rfl : j = l.length := by omega
      go_wp2_with fail
      go_ret
      have h := HR.out.2
      rw [List.take_length] at h
      rw [h]
      exact ⟨rfl, HR.out.1⟩
def PlcC (n : Nat) : Prop :=
  ∀ (x : Ex) (K : Nat → Prop) (W : World) (bc nc : Nat) (cs : List Nm) (bs ns : Nat) (sc : List Nm) (k : Int) (nm : Nm) (f : Bool) (u : Int) (ap : Option Addr) (np cp : Nat) (ak : Option Addr) (nk ck : Nat) (ab : Option Addr) (nb cb : Nat) (aa : Option Addr) (na ca : Nat), SizeOf.sizeOf x ≤ n → wfE x → ns + wtE x ≤ 100000 → NSet W bc nc cs → NSet W bs ns sc → ExAt W K x [.int .i64 k, .string (tx nm), .bool f, .int .u64 u, .slice ap np cp, .slice ak nk ck, .slice ab nb cb, .slice aa na ca] →
    Calls Tryd.prog 92 #[.agg #[.map (some bc), .map (some bs)], .agg #[.int .i64 k, .string (tx nm), .bool f, .int .u64 u, .slice ap np cp, .slice ak nk ck, .slice ab nb cb, .slice aa na ca]] W fun e w' => e = .returned (vErr (scE cs sc x)) ∧ Below W.heap.size W w'
theorem nms_len {l : List Nm} (h : Nms l) : ∀ x, x ∈ l → x.length ≤ 100000 := fun x hx => (h x hx).2
theorem bodies_any (n : Nat) (hP : PlcC n) (bc nc : Nat) (cs : List Nm) (bs ns : Nat) (sc l : List Nm) (of : List Ex) (hl : Nms l) (hof : ∀ x, x ∈ of → SizeOf.sizeOf x ≤ n ∧ wfE x) (hn : ns + l.length + sumN wtE of ≤ 100000) (a1 : Option Addr) (c1 : Nat) (a2 : Option Addr) (c2 : Nat) (K1 K2 K3 : Nat → Prop) (xs : List Value) (w : World) (hc : NSet w bc nc cs) (hs : NSet w bs ns sc) (hr : RowAt w K1 9 1 (.slice a1 l.length c1) l.length (namesV l)) (hr2 : RowAt w K2 46 8 (.slice a2 of.length c2) of.length xs) (ht : ExsAt w K3 of xs) :
    Calls Tryd.prog 75 #[.agg #[.map (some bc), .map (some bs)], .slice a1 l.length c1, .slice a2 of.length c2] w fun e w' => e = .returned (vErr ((twF l).or (scEs cs (sc ++ l) of))) ∧ Below w.heap.size w w' := by
  have hx := (Below.refl w.heap.size w).alloc Nr (.cells #[.map (some bc), .map (some bs)] 113)
  have HX := Hd hx
  have HU := Hd (under_any bc bs ns sc l (nms_len hl) (by omega) a1 c1 (fun g => g < w.heap.size) (w.alloc (.cells #[.map (some bc), .map (some bs)] 113)) (hs.later hx) (hr.low hx))
  have HO := Hd (Ai hc (Ai hr2 ht))
  have HOf := Hd hof
  clear hx hs hr hr2 ht hc hl hof
  go_enter Tryd.func75, Tryd.ntmps75
  go_wp2_with fail
  refine HU.out.mono ?_
  rintro e w2 ⟨hw, hb2⟩
  have HB2 := Hd (onB' HX.out hb2)
  have HS := Hd hw
  clear hb2 hw HU HX
  cases htw : twF l with
  | some fo =>
    have h := HS.out
    unfold UnderSaid at h
    rw [htw] at h
    subst h
    obtain ⟨er, nm⟩ := fo
    unfold vErr
    have HE := Hd ((Below.refl w2.heap.size w2).alloc Nr (.cells #[.map (some bc), .map none] 113))
    have HT := Hd htw
    clear htw HS
    go_wp2_with fail
    go_ret
    exact ⟨by rw [HT.out]; rfl, onB' HB2.out HE.out⟩
  | none =>
    have h := HS.out
    unfold UnderSaid at h
    rw [htw] at h
    obtain ⟨b, rfl, hs⟩ := h
    have hy := (Below.refl w2.heap.size w2).alloc Nr (.cells #[.map (some bc), .map (some b)] 113)
    have HE := Hd (Ai (onB' HB2.out hy) (hs.later hy))
    have HBy := Hd (BoxW.alloc w2 #[.map (some bc), .map (some b)] 113)
    have HT := Hd htw
    clear htw HS hs hy
    go_upto_region 4 with fail
    generalize (w2.alloc (.cells #[.map (some bc), .map (some b)] 113)) = W3 at *
    have d0 : W3.cell? ⟨w2.heap.size, 0, none⟩ = some (.map (some bc)) := HBy.out.1 0 _ rfl
    have d1 : W3.cell? ⟨w2.heap.size, 1, none⟩ = some (.map (some b)) := HBy.out.1 1 _ rfl
    have hmf : ∀ (fn : Fn) (first cap : Array Value) (w : World), (Instr.makeFunc fn first cap).run Tryd.prog w = .ok (.func fn first cap) w := fun _ _ _ _ => rfl
    have HF := Hd (first_expr 92 (enters_of Tryd.func92 (by kernel_rfl) rfl) bc b (scE cs (sc ++ l)) of a2 c2 (fun g => g < w.heap.size) K3 xs W3 (HO.out.2.1.low HE.out.1) (HO.out.2.2.move fun g hk lt => ⟨hk, HE.out.1.block g lt⟩)
      (fun j hj k nm f u ap np cp ak nk ck ab nb cb aa na ca W hb hE => hP of[j] K3 W bc nc cs b (ns + l.length) (sc ++ l) k nm f u ap np cp ak nk ck ab nb cb aa na ca (HOf.out _ (List.getElem_mem hj)).1 (HOf.out _ (List.getElem_mem hj)).2 (by have := sumN_mem wtE (List.getElem_mem hj); omega) (HO.out.1.later (onB' HE.out.1 hb)) (HE.out.2.later hb) hE))
    rw [← scEs_first] at HF
    go_wp2_with fail
    refine HF.out.mono ?_
    rintro e w4 ⟨rfl, hb4⟩
    have H4 := Hd (onB' HE.out.1 hb4)
    clear hb4 HF
    go_wp2_with fail
    go_ret
    exact ⟨by rw [HT.out]; rfl, H4.out⟩
theorem one_row {W : World} {B : Nat} {k : Int} {nm : Nm} {f : Bool} {u : Int} {ap : Option Addr} {np cp : Nat} {ak : Option Addr} {nk ck : Nat} {ab : Option Addr} {nb cb : Nat} {aa : Option Addr} {na ca : Nat} (h : W.heap[B]? = some (.cells #[.int .i64 k, .string (tx nm), .bool f, .int .u64 u, .slice ap np cp, .slice ak nk ck, .slice ab nb cb, .slice aa na ca] 46 (0, 0))) : RowAt W (fun _ => True) 46 8 (.slice (some ⟨B, 0, none⟩) 1 1) 1 [.int .i64 k, .string (tx nm), .bool f, .int .u64 u, .slice ap np cp, .slice ak nk ck, .slice ab nb cb, .slice aa na ca] := by
  refine ⟨rfl, Or.inr ⟨B, 0, 1, _, rfl, trivial, h, Nat.le_refl _, by decide, fun j v hj => ?_⟩⟩
  rw [Nat.zero_add, cell_of_row W B j _ _ (0, 0) h]
  simpa using hj
theorem name_row {W : World} {B : Nat} {x : Nm} (h : W.heap[B]? = some (.cells #[.string (tx x)] 9 (0, 0))) : RowAt W (fun _ => True) 9 1 (.slice (some ⟨B, 0, none⟩) 1 1) 1 (namesV [x]) := by
  refine ⟨rfl, Or.inr ⟨B, 0, 1, _, rfl, trivial, h, Nat.le_refl _, by decide, fun j v hj => ?_⟩⟩
  rw [Nat.zero_add, cell_of_row W B j _ _ (0, 0) h]
  simpa [namesV] using hj
theorem bodies_one (n : Nat) (hP : PlcC n) (bc nc : Nat) (cs : List Nm) (bs ns : Nat) (sc l : List Nm) (x : Ex) (hl : Nms l) (hx : SizeOf.sizeOf x ≤ n ∧ wfE x) (hn : ns + l.length + wtE x ≤ 100000) (a1 : Option Addr) (c1 : Nat) (k : Int) (nm : Nm) (f : Bool) (u : Int) (ap : Option Addr) (np cp : Nat) (ak : Option Addr) (nk ck : Nat) (ab : Option Addr) (nb cb : Nat) (aa : Option Addr) (na ca : Nat) (K1 K3 : Nat → Prop) (V : World) (B : Nat) (hB : V.heap.size = B) (hc : NSet V bc nc cs) (hs : NSet V bs ns sc) (hr : RowAt V K1 9 1 (.slice a1 l.length c1) l.length (namesV l)) (ht : ExAt V K3 x [.int .i64 k, .string (tx nm), .bool f, .int .u64 u, .slice ap np cp, .slice ak nk ck, .slice ab nb cb, .slice aa na ca]) :
    Calls Tryd.prog 75 #[.agg #[.map (some bc), .map (some bs)], .slice a1 l.length c1, .slice (some ⟨B, 0, none⟩) 1 1] (V.alloc (.cells #[.int .i64 k, .string (tx nm), .bool f, .int .u64 u, .slice ap np cp, .slice ak nk ck, .slice ab nb cb, .slice aa na ca] 46)) fun e w' => e = .returned (vErr ((twF l).or (scE cs (sc ++ l) x))) ∧ Below V.heap.size V w' := by
  subst hB
  have hb := (Below.refl V.heap.size V).alloc Nr (.cells #[.int .i64 k, .string (tx nm), .bool f, .int .u64 u, .slice ap np cp, .slice ak nk ck, .slice ab nb cb, .slice aa na ca] 46)
  have h := bodies_any n hP bc nc cs bs ns sc l [x] hl (fun y hy => by rw [List.mem_singleton.1 hy]; exact hx) (by simp only [sumN]; omega) a1 c1 (some ⟨V.heap.size, 0, none⟩) 1 (fun g => g < V.heap.size) (fun _ => True) K3 [.int .i64 k, .string (tx nm), .bool f, .int .u64 u, .slice ap np cp, .slice ak nk ck, .slice ab nb cb, .slice aa na ca] (V.alloc (.cells #[.int .i64 k, .string (tx nm), .bool f, .int .u64 u, .slice ap np cp, .slice ak nk ck, .slice ab nb cb, .slice aa na ca] 46)) (hc.later hb) (hs.later hb) (hr.low hb) (one_row (heap_alloc_new _ _)) (by
    have h := ExsAt.cons x [] _ [] (ht.move fun g hk lt => ⟨hk, hb.block g lt⟩) .nil
    rwa [List.append_nil] at h)
  refine h.mono fun e w' hh => ⟨?_, onB' hb hh.2⟩
  rw [hh.1]
  unfold scEs
  have e0 : scEs cs (sc ++ l) [] = none := by unfold scEs; rfl
  rw [e0, or_nil]
theorem pbind_any (n : Nat) (hP : PlcC n) (bc nc : Nat) (cs : List Nm) (bs ns : Nat) (sc : List Nm) (bd : Bnd) (hz : SizeOf.sizeOf bd.2.2 ≤ n) (hw : Nms bd.2.1 ∧ wfE bd.2.2) (hn : ns + nB bd ≤ 100000) (aq : Option Addr) (cq : Nat) (k : Int) (nm : Nm) (f : Bool) (u : Int) (ap : Option Addr) (np cp : Nat) (ak : Option Addr) (nk ck : Nat) (ab : Option Addr) (nb cb : Nat) (aa : Option Addr) (na ca : Nat) (K1 K3 : Nat → Prop) (w : World) (hc : NSet w bc nc cs) (hs : NSet w bs ns sc) (hr : RowAt w K1 9 1 (.slice aq bd.2.1.length cq) bd.2.1.length (namesV bd.2.1)) (ht : ExAt w K3 bd.2.2 [.int .i64 k, .string (tx nm), .bool f, .int .u64 u, .slice ap np cp, .slice ak nk ck, .slice ab nb cb, .slice aa na ca]) :
    Calls Tryd.prog 45 #[.agg #[.map (some bc), .map (some bs)], .agg #[.string (tx bd.1), .slice aq bd.2.1.length cq, .int .i64 k, .string (tx nm), .bool f, .int .u64 u, .slice ap np cp, .slice ak nk ck, .slice ab nb cb, .slice aa na ca]] w fun e w' => e = .returned (vErr ((twF bd.2.1).or (scE cs (sc ++ bd.2.1) bd.2.2))) ∧ Below w.heap.size w w' := by
  have hx1 := (Below.refl w.heap.size w).alloc Nr (.cells #[.map (some bc), .map (some bs)] 113)
  have hx := hx1.alloc hx1.size (.cells #[.string (tx bd.1), .slice aq bd.2.1.length cq, .int .i64 k, .string (tx nm), .bool f, .int .u64 u, .slice ap np cp, .slice ak nk ck, .slice ab nb cb, .slice aa na ca] 48)
  have HO := Hd (bodies_one n hP bc nc cs bs ns sc bd.2.1 bd.2.2 hw.1 ⟨hz, hw.2⟩ (by unfold nB at hn; omega) aq cq k nm f u ap np cp ak nk ck ab nb cb aa na ca (fun g => g < w.heap.size) K3 ((w.alloc (.cells #[.map (some bc), .map (some bs)] 113)).alloc (.cells #[.string (tx bd.1), .slice aq bd.2.1.length cq, .int .i64 k, .string (tx nm), .bool f, .int .u64 u, .slice ap np cp, .slice ak nk ck, .slice ab nb cb, .slice aa na ca] 48)) (w.heap.size + 1 + 1) (by simp) (hc.later hx) (hs.later hx) (hr.low hx) (ht.move fun g hk lt => ⟨hk, hx.block g lt⟩))
  have HX := Hd hx
  clear hc hs hr ht hx hx1
  go_enter Tryd.func45, Tryd.ntmps45
  go_wp2_with fail
  refine HO.out.mono ?_
  rintro e w2 ⟨rfl, hb2⟩
  have HB := Hd (onB' HX.out hb2)
  clear hb2 HO
  go_wp2_with fail
  go_ret
  exact ⟨rfl, HB.out⟩
theorem palt_any (n : Nat) (hP : PlcC n) (bc nc : Nat) (cs : List Nm) (bs ns : Nat) (sc : List Nm) (al : Alt) (hz : SizeOf.sizeOf al.2.2.2.2.2 ≤ n) (hw : wA al) (hn : ns + nA al ≤ 100000) (aq : Option Addr) (cq : Nat) (k : Int) (nm : Nm) (f : Bool) (u : Int) (ap : Option Addr) (np cp : Nat) (ak : Option Addr) (nk ck : Nat) (ab : Option Addr) (nb cb : Nat) (aa : Option Addr) (na ca : Nat) (K1 K3 : Nat → Prop) (w : World) (hc : NSet w bc nc cs) (hs : NSet w bs ns sc) (hr : RowAt w K1 9 1 (.slice aq al.2.2.2.2.1.length cq) al.2.2.2.2.1.length (namesV al.2.2.2.2.1)) (ht : ExAt w K3 al.2.2.2.2.2 [.int .i64 k, .string (tx nm), .bool f, .int .u64 u, .slice ap np cp, .slice ak nk ck, .slice ab nb cb, .slice aa na ca]) :
    Calls Tryd.prog 101 #[.agg #[.map (some bc), .map (some bs)], .agg #[.int .i64 al.1, .string (tx al.2.1), .bool al.2.2.1, .int .u64 al.2.2.2.1, .slice aq al.2.2.2.2.1.length cq, .int .i64 k, .string (tx nm), .bool f, .int .u64 u, .slice ap np cp, .slice ak nk ck, .slice ab nb cb, .slice aa na ca]] w fun e w' => e = .returned (vErr (scA cs sc al)) ∧ Below w.heap.size w w' := by
  have hx1 := (Below.refl w.heap.size w).alloc Nr (.cells #[.map (some bc), .map (some bs)] 113)
  have hx := hx1.alloc hx1.size (.cells #[.int .i64 al.1, .string (tx al.2.1), .bool al.2.2.1, .int .u64 al.2.2.2.1, .slice aq al.2.2.2.2.1.length cq, .int .i64 k, .string (tx nm), .bool f, .int .u64 u, .slice ap np cp, .slice ak nk ck, .slice ab nb cb, .slice aa na ca] 52)
  have hB1 := (BoxW.alloc w #[.map (some bc), .map (some bs)] 113).below (Br.alloc Nr (.cells #[.int .i64 al.1, .string (tx al.2.1), .bool al.2.2.1, .int .u64 al.2.2.2.1, .slice aq al.2.2.2.2.1.length cq, .int .i64 k, .string (tx nm), .bool f, .int .u64 u, .slice ap np cp, .slice ak nk ck, .slice ab nb cb, .slice aa na ca] 52))
  have hB2 := BoxW.alloc (w.alloc (.cells #[.map (some bc), .map (some bs)] 113)) #[.int .i64 al.1, .string (tx al.2.1), .bool al.2.2.1, .int .u64 al.2.2.2.1, .slice aq al.2.2.2.2.1.length cq, .int .i64 k, .string (tx nm), .bool f, .int .u64 u, .slice ap np cp, .slice ak nk ck, .slice ab nb cb, .slice aa na ca] 52
  rw [show (w.alloc (.cells #[.map (some bc), .map (some bs)] 113)).heap.size = w.heap.size + 1 by simp] at hB2
  have hz2 : ((w.alloc (.cells #[.map (some bc), .map (some bs)] 113)).alloc (.cells #[.int .i64 al.1, .string (tx al.2.1), .bool al.2.2.1, .int .u64 al.2.2.2.1, .slice aq al.2.2.2.2.1.length cq, .int .i64 k, .string (tx nm), .bool f, .int .u64 u, .slice ap np cp, .slice ak nk ck, .slice ab nb cb, .slice aa na ca] 52)).heap.size = w.heap.size + 1 + 1 := by simp
  obtain ⟨hw1, ⟨hw2, -⟩, hw3⟩ := hw
  have hn' : ns + (1 + al.2.2.2.2.1.length + wtE al.2.2.2.2.2) ≤ 100000 := hn
  by_cases g0 : al.1 = 0
  · have hsa : scA cs sc al = (hasF cs al.2.1).or ((twF al.2.2.2.2.1).or (scE cs (sc ++ al.2.2.2.2.1) al.2.2.2.2.2)) := if_pos g0
    rw [hsa, g0]
    rw [g0] at hx hB1 hB2 hz2
    have HF := Hd (nfault_any bc nc cs al.2.1 (hw1 (Or.inl g0)).2 ((w.alloc (.cells #[.map (some bc), .map (some bs)] 113)).alloc (.cells #[.int .i64 0, .string (tx al.2.1), .bool al.2.2.1, .int .u64 al.2.2.2.1, .slice aq al.2.2.2.2.1.length cq, .int .i64 k, .string (tx nm), .bool f, .int .u64 u, .slice ap np cp, .slice ak nk ck, .slice ab nb cb, .slice aa na ca] 52)) (hc.later hx))
    have HX := Hd (Ai hx (Ai hB1 (Ai hB2 hz2)))
    have HO := Hd (Ai hc (Ai hs (Ai hr ht)))
    clear hc hs hr ht hx hx1 hB1 hB2 hz2 hsa
    go_enter Tryd.func101, Tryd.ntmps101
    go_wp2_with fail
    refine HF.out.mono ?_
    rintro e w2 ⟨rfl, hb2⟩
    have HB := Hd (Ai (onB' HX.out.1 hb2) (Ai (HX.out.2.1.below hb2) (HX.out.2.2.1.below hb2)))
    clear hb2 HF HX
    cases hfo : hasF cs al.2.1 with
    | some fo =>
      obtain ⟨er, nn⟩ := fo
      have HT := Hd hfo
      unfold vErr
      clear hfo
      go_wp2_with fail
      go_ret
      exact ⟨by rw [HT.out]; rfl, HB.out.1⟩
    | none =>
      have HT := Hd hfo
      unfold vErr
      clear hfo
      have r0 : w2.cell? ⟨w.heap.size, 0, none⟩ = some (.map (some bc)) := HB.out.2.1.1 0 _ rfl
      have r1 : w2.cell? ⟨w.heap.size, 1, none⟩ = some (.map (some bs)) := HB.out.2.1.1 1 _ rfl
      have q0 : w2.cell? ⟨w.heap.size + 1, 0, none⟩ = some (.int .i64 0) := HB.out.2.2.1 0 _ rfl
      have q1 : w2.cell? ⟨w.heap.size + 1, 1, none⟩ = some (.string (tx al.2.1)) := HB.out.2.2.1 1 _ rfl
      have q2 : w2.cell? ⟨w.heap.size + 1, 2, none⟩ = some (.bool al.2.2.1) := HB.out.2.2.1 2 _ rfl
      have q3 : w2.cell? ⟨w.heap.size + 1, 3, none⟩ = some (.int .u64 al.2.2.2.1) := HB.out.2.2.1 3 _ rfl
      have q4 : w2.cell? ⟨w.heap.size + 1, 4, none⟩ = some (.slice aq al.2.2.2.2.1.length cq) := HB.out.2.2.1 4 _ rfl
      have q5 : w2.cell? ⟨w.heap.size + 1, 5, none⟩ = some (.int .i64 k) := HB.out.2.2.1 5 _ rfl
      have q6 : w2.cell? ⟨w.heap.size + 1, 6, none⟩ = some (.string (tx nm)) := HB.out.2.2.1 6 _ rfl
      have q7 : w2.cell? ⟨w.heap.size + 1, 7, none⟩ = some (.bool f) := HB.out.2.2.1 7 _ rfl
      have q8 : w2.cell? ⟨w.heap.size + 1, 8, none⟩ = some (.int .u64 u) := HB.out.2.2.1 8 _ rfl
      have q9 : w2.cell? ⟨w.heap.size + 1, 9, none⟩ = some (.slice ap np cp) := HB.out.2.2.1 9 _ rfl
      have q10 : w2.cell? ⟨w.heap.size + 1, 10, none⟩ = some (.slice ak nk ck) := HB.out.2.2.1 10 _ rfl
      have q11 : w2.cell? ⟨w.heap.size + 1, 11, none⟩ = some (.slice ab nb cb) := HB.out.2.2.1 11 _ rfl
      have q12 : w2.cell? ⟨w.heap.size + 1, 12, none⟩ = some (.slice aa na ca) := HB.out.2.2.1 12 _ rfl
      have HO2 := Hd (bodies_one n hP bc nc cs bs ns sc al.2.2.2.2.1 al.2.2.2.2.2 hw2 ⟨hz, hw3⟩ (by omega) aq cq k nm f u ap np cp ak nk ck ab nb cb aa na ca (fun g => g < w.heap.size) K3 w2 w2.heap.size rfl (HO.out.1.later HB.out.1) (HO.out.2.1.later HB.out.1) (HO.out.2.2.1.low HB.out.1) (HO.out.2.2.2.move fun g hk lt => ⟨hk, HB.out.1.block g lt⟩))
      go_wp2_with fail
      refine HO2.out.mono ?_
      rintro e w3 ⟨rfl, hb3⟩
      have HB3 := Hd (onB' HB.out.1 hb3)
      clear hb3 HO2
      go_wp2_with fail
      go_ret
      exact ⟨by rw [HT.out]; rfl, HB3.out⟩
  · by_cases g2 : al.1 = 2
    · have hsa : scA cs sc al = scE cs (sc ++ [al.2.1]) al.2.2.2.2.2 := (if_neg g0).trans (if_pos g2)
      rw [hsa, g2]
      rw [g2] at hx hB1 hB2 hz2
      have hy := hx.alloc hx.size (.cells #[.string (tx al.2.1)] 9)
      have hrow : RowAt ((((w.alloc (.cells #[.map (some bc), .map (some bs)] 113)).alloc (.cells #[.int .i64 2, .string (tx al.2.1), .bool al.2.2.1, .int .u64 al.2.2.2.1, .slice aq al.2.2.2.2.1.length cq, .int .i64 k, .string (tx nm), .bool f, .int .u64 u, .slice ap np cp, .slice ak nk ck, .slice ab nb cb, .slice aa na ca] 52))).alloc (.cells #[.string (tx al.2.1)] 9)) (fun _ => True) 9 1 (.slice (some ⟨w.heap.size + 1 + 1, 0, none⟩) 1 1) 1 (namesV [al.2.1]) := by
        have h := heap_alloc_new ((w.alloc (.cells #[.map (some bc), .map (some bs)] 113)).alloc (.cells #[.int .i64 2, .string (tx al.2.1), .bool al.2.2.1, .int .u64 al.2.2.2.1, .slice aq al.2.2.2.2.1.length cq, .int .i64 k, .string (tx nm), .bool f, .int .u64 u, .slice ap np cp, .slice ak nk ck, .slice ab nb cb, .slice aa na ca] 52)) (.cells #[.string (tx al.2.1)] 9)
        rw [hz2] at h
        exact name_row h
      have HO := Hd (bodies_one n hP bc nc cs bs ns sc [al.2.1] al.2.2.2.2.2 (fun y hy => by rw [List.mem_singleton.1 hy]; exact hw1 (Or.inr g2)) ⟨hz, hw3⟩ (by simp only [List.length_cons, List.length_nil]; omega) (some ⟨w.heap.size + 1 + 1, 0, none⟩) 1 k nm f u ap np cp ak nk ck ab nb cb aa na ca (fun _ => True) K3 ((((w.alloc (.cells #[.map (some bc), .map (some bs)] 113)).alloc (.cells #[.int .i64 2, .string (tx al.2.1), .bool al.2.2.1, .int .u64 al.2.2.2.1, .slice aq al.2.2.2.2.1.length cq, .int .i64 k, .string (tx nm), .bool f, .int .u64 u, .slice ap np cp, .slice ak nk ck, .slice ab nb cb, .slice aa na ca] 52))).alloc (.cells #[.string (tx al.2.1)] 9)) (w.heap.size + 1 + 1 + 1) (by simp) (hc.later hy) (hs.later hy) hrow (ht.move fun g hk lt => ⟨hk, hy.block g lt⟩))
      have HX := Hd hy
      clear hc hs hr ht hx hx1 hB1 hB2 hz2 hsa hrow hy
      go_enter Tryd.func101, Tryd.ntmps101
      go_wp2_with fail
      refine HO.out.mono ?_
      rintro e w3 ⟨rfl, hb3⟩
      have HB3 := Hd (onB' HX.out hb3)
      clear hb3 HO
      go_wp2_with fail
      go_ret
      exact ⟨rfl, HB3.out⟩
    · have hsa : scA cs sc al = scE cs sc al.2.2.2.2.2 := (if_neg g0).trans (if_neg g2)
      rw [hsa]
      have f0 : (al.1 == 0) = false := by simpa using g0
      have f2 : (al.1 == 2) = false := by simpa using g2
      have HO := Hd (hP al.2.2.2.2.2 K3 ((w.alloc (.cells #[.map (some bc), .map (some bs)] 113)).alloc (.cells #[.int .i64 al.1, .string (tx al.2.1), .bool al.2.2.1, .int .u64 al.2.2.2.1, .slice aq al.2.2.2.2.1.length cq, .int .i64 k, .string (tx nm), .bool f, .int .u64 u, .slice ap np cp, .slice ak nk ck, .slice ab nb cb, .slice aa na ca] 52)) bc nc cs bs ns sc k nm f u ap np cp ak nk ck ab nb cb aa na ca hz hw3 (by omega) (hc.later hx) (hs.later hx) (ht.move fun g hk lt => ⟨hk, hx.block g lt⟩))
      have HX := Hd hx
      clear hc hs hr ht hx hx1 hB1 hB2 hz2 hsa
      go_enter Tryd.func101, Tryd.ntmps101
      go_wp2_with fail
      refine HO.out.mono ?_
      rintro e w3 ⟨rfl, hb3⟩
      have HB3 := Hd (onB' HX.out hb3)
      clear hb3 HO
      go_wp2_with fail
      go_ret
      exact ⟨rfl, HB3.out⟩
theorem wfEs_mem : ∀ {l : List Ex}, wfEs l → ∀ b, b ∈ l → wfE b
  | e :: r, h, b, hb => by
    unfold wfEs at h
    rcases List.mem_cons.1 hb with rfl | hb
    · exact h.1
    · exact wfEs_mem h.2 b hb
theorem wfBs_mem : ∀ {l : List Bnd}, wfBs l → ∀ b, b ∈ l → wB b
  | (n, ps, e) :: r, h, b, hb => by
    unfold wfBs at h
    rcases List.mem_cons.1 hb with rfl | hb
    · exact h.1
    · exact wfBs_mem h.2 b hb
theorem wfAs_mem : ∀ {l : List Alt}, wfAs l → ∀ b, b ∈ l → wA b
  | (k, n, f, x, ns, e) :: r, h, b, hb => by
    unfold wfAs at h
    rcases List.mem_cons.1 hb with rfl | hb
    · exact h.1
    · exact wfAs_mem h.2 b hb
theorem ExAt.opened {W : World} {K : Nat → Prop} {x : Ex} {k : Int} {nm : Nm} {f : Bool} {u : Int} {ap : Option Addr} {np cp : Nat} {ak : Option Addr} {nk ck : Nat} {ab : Option Addr} {nb cb : Nat} {aa : Option Addr} {na ca : Nat} (h : ExAt W K x [.int .i64 k, .string (tx nm), .bool f, .int .u64 u, .slice ap np cp, .slice ak nk ck, .slice ab nb cb, .slice aa na ca]) : ∃ ps ks bl al xk xb xa, x = .mk k nm f u ps ks bl al ∧ np = ps.length ∧ nk = ks.length ∧ nb = bl.length ∧ na = al.length ∧
    RowAt W K 9 1 (.slice ap ps.length cp) ps.length (namesV ps) ∧ RowAt W K 46 8 (.slice ak ks.length ck) ks.length xk ∧ RowAt W K 48 10 (.slice ab bl.length cb) bl.length xb ∧ RowAt W K 52 13 (.slice aa al.length ca) al.length xa ∧ ExsAt W K ks xk ∧ BndsAt W K bl xb ∧ AltsAt W K al xa := by
  generalize hL : [Value.int .i64 k, .string (tx nm), .bool f, .int .u64 u, .slice ap np cp, .slice ak nk ck, .slice ab nb cb, .slice aa na ca] = L at h
  cases h with
  | mk k' n' f' x' ps ks bl al vp vk vb va xk xb xa hp hk hb ha tk tb ta =>
    obtain ⟨ap', cp', rfl⟩ := hp.sl
    obtain ⟨ak', ck', rfl⟩ := hk.sl
    obtain ⟨ab', cb', rfl⟩ := hb.sl
    obtain ⟨aa', ca', rfl⟩ := ha.sl
    simp only [List.cons.injEq, Value.int.injEq, Value.string.injEq, Value.bool.injEq, Value.slice.injEq, and_true, true_and] at hL
    obtain ⟨rfl, h2, rfl, rfl, ⟨rfl, rfl, rfl⟩, ⟨rfl, rfl, rfl⟩, ⟨rfl, rfl, rfl⟩, ⟨rfl, rfl, rfl⟩⟩ := hL
    obtain rfl := tx_inj h2
    exact ⟨ps, ks, bl, al, xk, xb, xa, rfl, rfl, rfl, rfl, rfl, hp, hk, hb, ha, tk, tb, ta⟩
structure NodeOk (n ns : Nat) (k : Int) (nm : Nm) (f : Bool) (u : Int) (ps : List Nm) (ks : List Ex) (bl : List Bnd) (al : List Alt) : Prop where
  sk : ∀ y, y ∈ ks → SizeOf.sizeOf y ≤ n
  sb : ∀ y, y ∈ bl → SizeOf.sizeOf y.2.2 ≤ n
  sa : ∀ y, y ∈ al → SizeOf.sizeOf y.2.2.2.2.2 ≤ n
  wk : ∀ y, y ∈ ks → wfE y
  wb : ∀ y, y ∈ bl → wB y
  wa : ∀ y, y ∈ al → wA y
  wp : Nms ps
  wn : k = 1 ∨ k = 2 ∨ k = 5 → NmOk nm
  wt : ns + ((if k = 1 then 1 else 0) + ps.length + sumN wtE ks + (bl.length + sumN nB bl) + sumN nA al) ≤ 100000
theorem NodeOk.of {n ns : Nat} {k : Int} {nm : Nm} {f : Bool} {u : Int} {ps : List Nm} {ks : List Ex} {bl : List Bnd} {al : List Alt} (hs : SizeOf.sizeOf (Ex.mk k nm f u ps ks bl al) ≤ n + 1) (hw : wfE (.mk k nm f u ps ks bl al)) (ht : ns + wtE (.mk k nm f u ps ks bl al) ≤ 100000) : NodeOk n ns k nm f u ps ks bl al := by
  unfold wfE at hw
  obtain ⟨-, -, w3, w4, w5, w6, w7, -, -⟩ := hw
  rw [wtE_mk, sumN_nB2] at ht
  simp only [Ex.mk.sizeOf_spec] at hs
  refine ⟨fun x hx => ?_, fun x hx => ?_, fun x hx => ?_, wfEs_mem w5, wfBs_mem w6, wfAs_mem w7, w4, w3, ht⟩
  · have := List.sizeOf_lt_of_mem hx
    omega
  · have := List.sizeOf_lt_of_mem hx
    obtain ⟨a, b, c⟩ := x
    simp only [Prod.mk.sizeOf_spec] at this ⊢
    omega
  · have := List.sizeOf_lt_of_mem hx
    obtain ⟨a, b, c, d, e, g⟩ := x
    simp only [Prod.mk.sizeOf_spec] at this ⊢
    omega
theorem func_made : ∀ (fn : Fn) (first cap : Array Value) (w : World), (Instr.makeFunc fn first cap).run Tryd.prog w = .ok (.func fn first cap) w := fun _ _ _ _ => rfl
theorem first_exprs (n : Nat) (hP : PlcC n) (bc nc : Nat) (cs : List Nm) (bs ns : Nat) (sc : List Nm) (ks : List Ex) (hs : ∀ y, y ∈ ks → SizeOf.sizeOf y ≤ n) (hw : ∀ y, y ∈ ks → wfE y) (hn : ns + sumN wtE ks ≤ 100000) (ak : Option Addr) (ck : Nat) (K : Nat → Prop) (xk : List Value) (W : World) (hc : NSet W bc nc cs) (hb : NSet W bs ns sc) (hr : RowAt W K 46 8 (.slice ak ks.length ck) ks.length xk) (ht : ExsAt W K ks xk) :
    Calls Tryd.prog 91 #[.slice ak ks.length ck, .func (.func 92) #[.agg #[.map (some bc), .map (some bs)]] #[]] W fun e w' => e = .returned (vErr (scEs cs sc ks)) ∧ Below W.heap.size W w' := by
  rw [scEs_first]
  exact first_expr 92 (enters_of Tryd.func92 (by kernel_rfl) rfl) bc bs (scE cs sc) ks ak ck K K xk W hr ht
    (fun j hj k nm f u ap np cp ak nk ck ab nb cb aa na ca V hV hE => hP ks[j] K V bc nc cs bs ns sc k nm f u ap np cp ak nk ck ab nb cb aa na ca (hs _ (List.getElem_mem hj)) (hw _ (List.getElem_mem hj)) (by have := sumN_mem wtE (List.getElem_mem hj); omega) (hc.later hV) (hb.later hV) hE)
theorem first_binds (n : Nat) (hP : PlcC n) (bc nc : Nat) (cs : List Nm) (bs ns : Nat) (sc : List Nm) (bl : List Bnd) (hs : ∀ y, y ∈ bl → SizeOf.sizeOf y.2.2 ≤ n) (hw : ∀ y, y ∈ bl → wB y) (hn : ns + sumN nB bl ≤ 100000) (ab : Option Addr) (cb : Nat) (K K2 : Nat → Prop) (xb : List Value) (W : World) (hc : NSet W bc nc cs) (hb : NSet W bs ns sc) (hr : RowAt W K 48 10 (.slice ab bl.length cb) bl.length xb) (ht : BndsAt W K2 bl xb) :
    Calls Tryd.prog 44 #[.slice ab bl.length cb, .func (.func 45) #[.agg #[.map (some bc), .map (some bs)]] #[]] W fun e w' => e = .returned (vErr (scBs cs sc bl)) ∧ Below W.heap.size W w' := by
  rw [scBs_first]
  exact first_bind 45 (enters_of Tryd.func45 (by kernel_rfl) rfl) bc bs _ bl ab cb K K2 xb W hr ht
    (fun j hj aq cq k nm f u ap np cp ak nk ck ab nb cb aa na ca V hV hQ hE => pbind_any n hP bc nc cs bs ns sc bl[j] (hs _ (List.getElem_mem hj)) (hw _ (List.getElem_mem hj)).2 (by have := sumN_mem nB (List.getElem_mem hj); omega) aq cq k nm f u ap np cp ak nk ck ab nb cb aa na ca K2 K2 V (hc.later hV) (hb.later hV) hQ hE)
theorem first_alts (n : Nat) (hP : PlcC n) (bc nc : Nat) (cs : List Nm) (bs ns : Nat) (sc : List Nm) (al : List Alt) (hs : ∀ y, y ∈ al → SizeOf.sizeOf y.2.2.2.2.2 ≤ n) (hw : ∀ y, y ∈ al → wA y) (hn : ns + sumN nA al ≤ 100000) (aa : Option Addr) (ca : Nat) (K K2 : Nat → Prop) (xa : List Value) (W : World) (hc : NSet W bc nc cs) (hb : NSet W bs ns sc) (hr : RowAt W K 52 13 (.slice aa al.length ca) al.length xa) (ht : AltsAt W K2 al xa) :
    Calls Tryd.prog 100 #[.slice aa al.length ca, .func (.func 101) #[.agg #[.map (some bc), .map (some bs)]] #[]] W fun e w' => e = .returned (vErr (scAs cs sc al)) ∧ Below W.heap.size W w' := by
  rw [scAs_first]
  exact first_alt 101 (enters_of Tryd.func101 (by kernel_rfl) rfl) bc bs _ al aa ca K K2 xa W hr ht
    (fun j hj aq cq k nm f u ap np cp ak nk ck ab nb cb aa na ca V hV hQ hE => palt_any n hP bc nc cs bs ns sc al[j] (hs _ (List.getElem_mem hj)) (hw _ (List.getElem_mem hj)) (by have := sumN_mem nA (List.getElem_mem hj); omega) aq cq k nm f u ap np cp ak nk ck ab nb cb aa na ca K2 K2 V (hc.later hV) (hb.later hV) hQ hE)
theorem pchoice_any (n : Nat) (hP : PlcC n) (bc nc : Nat) (cs : List Nm) (bs ns : Nat) (sc : List Nm) (k : Int) (nm : Nm) (f : Bool) (u : Int) (ps : List Nm) (ks : List Ex) (bl : List Bnd) (al : List Alt) (ap : Option Addr) (cp : Nat) (ak : Option Addr) (ck : Nat) (ab : Option Addr) (cb : Nat) (aa : Option Addr) (ca : Nat) (hN : NodeOk n ns k nm f u ps ks bl al) (K : Nat → Prop) (xk xa : List Value) (w : World) (hc : NSet w bc nc cs) (hs : NSet w bs ns sc) (hk : RowAt w K 46 8 (.slice ak ks.length ck) ks.length xk) (ha : RowAt w K 52 13 (.slice aa al.length ca) al.length xa) (tk : ExsAt w K ks xk) (ta : AltsAt w K al xa) :
    Calls Tryd.prog 99 #[.agg #[.map (some bc), .map (some bs)], .agg #[.int .i64 k, .string (tx nm), .bool f, .int .u64 u, .slice ap ps.length cp, .slice ak ks.length ck, .slice ab bl.length cb, .slice aa al.length ca]] w fun e w' => e = .returned (vErr ((scEs cs sc ks).or (scAs cs sc al))) ∧ Below w.heap.size w w' := by
  have hx1 := (Below.refl w.heap.size w).alloc Nr (.cells #[.map (some bc), .map (some bs)] 113)
  have hx := hx1.alloc hx1.size (.cells #[.int .i64 k, .string (tx nm), .bool f, .int .u64 u, .slice ap ps.length cp, .slice ak ks.length ck, .slice ab bl.length cb, .slice aa al.length ca] 46)
  have hB1 := (BoxW.alloc w #[.map (some bc), .map (some bs)] 113).below (Br.alloc Nr (.cells #[.int .i64 k, .string (tx nm), .bool f, .int .u64 u, .slice ap ps.length cp, .slice ak ks.length ck, .slice ab bl.length cb, .slice aa al.length ca] 46))
  have hB2 := BoxW.alloc (w.alloc (.cells #[.map (some bc), .map (some bs)] 113)) #[.int .i64 k, .string (tx nm), .bool f, .int .u64 u, .slice ap ps.length cp, .slice ak ks.length ck, .slice ab bl.length cb, .slice aa al.length ca] 46
  rw [show (w.alloc (.cells #[.map (some bc), .map (some bs)] 113)).heap.size = w.heap.size + 1 by simp] at hB2
  have hwt := hN.wt
  have HF := Hd (first_exprs n hP bc nc cs bs ns sc ks hN.sk hN.wk (by omega) ak ck K xk ((w.alloc (.cells #[.map (some bc), .map (some bs)] 113)).alloc (.cells #[.int .i64 k, .string (tx nm), .bool f, .int .u64 u, .slice ap ps.length cp, .slice ak ks.length ck, .slice ab bl.length cb, .slice aa al.length ca] 46)) (hc.later hx) (hs.later hx) (hk.move fun g hg lt => ⟨hg, hx.block g lt⟩) (tk.move fun g hg lt => ⟨hg, hx.block g lt⟩))
  have HX := Hd (Ai hx (Ai hB1 hB2))
  have HO := Hd (Ai hc (Ai hs (Ai ha ta)))
  have hmf := func_made
  clear hx hx1 hB1 hB2 hc hs hk ha tk ta
  go_enter Tryd.func99, Tryd.ntmps99
  go_wp2_with fail
  refine HF.out.mono ?_
  rintro e w2 ⟨rfl, hb2⟩
  have HB := Hd (Ai (onB' HX.out.1 hb2) (Ai (HX.out.2.1.below hb2) (HX.out.2.2.below hb2)))
  clear hb2 HF HX
  cases hfo : scEs cs sc ks with
  | some fo =>
    obtain ⟨er, nn⟩ := fo
    have HT := Hd hfo
    unfold vErr
    clear hfo
    go_wp2_with fail
    go_ret
    exact ⟨by rw [HT.out]; rfl, HB.out.1⟩
  | none =>
    have HT := Hd hfo
    unfold vErr
    clear hfo
    have r0 : w2.cell? ⟨w.heap.size, 0, none⟩ = some (.map (some bc)) := HB.out.2.1.1 0 _ rfl
    have r1 : w2.cell? ⟨w.heap.size, 1, none⟩ = some (.map (some bs)) := HB.out.2.1.1 1 _ rfl
    have q0 : w2.cell? ⟨w.heap.size + 1, 0, none⟩ = some (.int .i64 k) := HB.out.2.2.1 0 _ rfl
    have q1 : w2.cell? ⟨w.heap.size + 1, 1, none⟩ = some (.string (tx nm)) := HB.out.2.2.1 1 _ rfl
    have q2 : w2.cell? ⟨w.heap.size + 1, 2, none⟩ = some (.bool f) := HB.out.2.2.1 2 _ rfl
    have q3 : w2.cell? ⟨w.heap.size + 1, 3, none⟩ = some (.int .u64 u) := HB.out.2.2.1 3 _ rfl
    have q4 : w2.cell? ⟨w.heap.size + 1, 4, none⟩ = some (.slice ap ps.length cp) := HB.out.2.2.1 4 _ rfl
    have q5 : w2.cell? ⟨w.heap.size + 1, 5, none⟩ = some (.slice ak ks.length ck) := HB.out.2.2.1 5 _ rfl
    have q6 : w2.cell? ⟨w.heap.size + 1, 6, none⟩ = some (.slice ab bl.length cb) := HB.out.2.2.1 6 _ rfl
    have q7 : w2.cell? ⟨w.heap.size + 1, 7, none⟩ = some (.slice aa al.length ca) := HB.out.2.2.1 7 _ rfl
    have HF2 := Hd (first_alts n hP bc nc cs bs ns sc al hN.sa hN.wa (by omega) aa ca K K xa w2 (HO.out.1.later HB.out.1) (HO.out.2.1.later HB.out.1) (HO.out.2.2.1.move fun g hg lt => ⟨hg, HB.out.1.block g lt⟩) (HO.out.2.2.2.move fun g hg lt => ⟨hg, HB.out.1.block g lt⟩))
    go_wp2_with fail
    refine HF2.out.mono ?_
    rintro e w3 ⟨rfl, hb3⟩
    have HB3 := Hd (onB' HB.out.1 hb3)
    clear hb3 HF2
    go_wp2_with fail
    go_ret
    exact ⟨by rw [HT.out]; rfl, HB3.out⟩
abbrev Apart (b : Nat) : Nat → Prop := fun g => g ≠ b
def DocC (n : Nat) : Prop :=
  ∀ (x : Ex) (b : Nat) (st : Fo) (cl : List Nm) (ac : Option Addr) (cc : Nat) (sc : List Nm) (ai : Option Addr) (ci : Nat) (W : World) (k : Int) (nm : Nm) (f : Bool) (u : Int) (ap : Option Addr) (np cp : Nat) (ak : Option Addr) (nk ck : Nat) (ab : Option Addr) (nb cb : Nat) (aa : Option Addr) (na ca : Nat), SizeOf.sizeOf x ≤ n → wfE x → sc.length + wtE x ≤ 100000 → SAt W b st (.slice ac cl.length cc) → RowAt W (Apart b) 9 1 (.slice ac cl.length cc) cl.length (namesV cl) → RowAt W (Apart b) 9 1 (.slice ai sc.length ci) sc.length (namesV sc) → ExAt W (Apart b) x [.int .i64 k, .string (tx nm), .bool f, .int .u64 u, .slice ap np cp, .slice ak nk ck, .slice ab nb cb, .slice aa na ca] →
    Calls Tryd.prog 47 #[.pointer (some ⟨b, 0, none⟩), .agg #[.int .i64 k, .string (tx nm), .bool f, .int .u64 u, .slice ap np cp, .slice ak nk ck, .slice ab nb cb, .slice aa na ca], .slice ai sc.length ci] W fun e w' => e = .returned (.tuple #[]) ∧ SAt w' b (st.or (sdE cl sc x)) (.slice ac cl.length cc) ∧ W.grownBy w' (some b)
theorem RowAt.apart {w w' : World} {b : Nat} {e : TypeId} {size n : Nat} {v : Value} {xs : List Value} (h : RowAt w (Apart b) e size v n xs) (hg : w.grownBy w' (some b)) : RowAt w' (Apart b) e size v n xs := h.past hg (fun _ hg => hg)
theorem RowAt.apartB {w w' : World} {b : Nat} {e : TypeId} {size n : Nat} {v : Value} {xs : List Value} (h : RowAt w (Apart b) e size v n xs) (hb : Below w.heap.size w w') : RowAt w' (Apart b) e size v n xs := h.move fun g hk lt => ⟨hk, hb.block g lt⟩
theorem ExAt.apart {w w' : World} {b : Nat} {x : Ex} {xs : List Value} (h : ExAt w (Apart b) x xs) (hg : w.grownBy w' (some b)) : ExAt w' (Apart b) x xs := h.move fun g hk lt => ⟨hk, hg.block g lt (by simpa using hk)⟩
theorem ExAt.apartB {w w' : World} {b : Nat} {x : Ex} {xs : List Value} (h : ExAt w (Apart b) x xs) (hb : Below w.heap.size w w') : ExAt w' (Apart b) x xs := h.move fun g hk lt => ⟨hk, hb.block g lt⟩
theorem SAt.lt {w : World} {b : Nat} {st : Fo} {vc : Value} (h : SAt w b st vc) : b < w.heap.size := h.box.lt
def sdB (cs sc : List Nm) (b : Bnd) : Fo := (twF b.2.1).or (sdE cs (sc ++ b.2.1) b.2.2)
def sdA (cs sc : List Nm) (a : Alt) : Fo := if a.1 = 0 then (hasF cs a.2.1).or ((twF a.2.2.2.2.1).or (sdE cs (sc ++ a.2.2.2.2.1) a.2.2.2.2.2)) else if a.1 = 2 then sdE cs (sc ++ [a.2.1]) a.2.2.2.2.2 else sdE cs sc a.2.2.2.2.2
theorem sdEs_first (cs sc : List Nm) : ∀ (l : List Ex), sdEs cs sc l = firstF (sdE cs sc) l
  | [] => by unfold sdEs firstF; rfl
  | e :: r => by unfold sdEs firstF; rw [sdEs_first cs sc r]
theorem sdBs_first (cs sc : List Nm) : ∀ (l : List Bnd), sdBs cs sc l = firstF (sdB cs sc) l
  | [] => by unfold sdBs firstF; rfl
  | (n, ps, e) :: r => by unfold sdBs firstF; rw [sdBs_first cs sc r]; rfl
theorem sdAs_first (cs sc : List Nm) : ∀ (l : List Alt), sdAs cs sc l = firstF (sdA cs sc) l
  | [] => by unfold sdAs firstF; rfl
  | (k, n, f, x, ns, e) :: r => by unfold sdAs firstF; rw [sdAs_first cs sc r]; rfl
theorem join_here (b : Nat) (sc ps : List Nm) (ai : Option Addr) (ci : Nat) (aq : Option Addr) (cq : Nat) (hn : sc.length + ps.length ≤ 100000) (W V : World) (hb : Below W.heap.size W V) (hi : RowAt W (Apart b) 9 1 (.slice ai sc.length ci) sc.length (namesV sc)) (K : Nat → Prop) (hq : RowAt V K 9 1 (.slice aq ps.length cq) ps.length (namesV ps)) :
    Calls Tryd.prog 48 #[.slice ai sc.length ci, .slice aq ps.length cq] V fun e w' => (∃ a c, e = .returned (.slice a (sc ++ ps).length c) ∧ (b < V.heap.size → RowAt w' (Apart b) 9 1 (.slice a (sc ++ ps).length c) (sc ++ ps).length (namesV (sc ++ ps)))) ∧ Below V.heap.size V w' := by
  refine (sjoin_any sc ps _ _ (Apart b) K V hn (hi.apartB hb) hq).mono fun e w' hh => ⟨?_, hh.2⟩
  obtain ⟨⟨v, h1, ho⟩, -⟩ := hh
  rw [← List.length_append] at ho
  obtain ⟨a, c, rfl, -⟩ := own_shape ho
  exact ⟨a, c, h1, fun hbv => RowAt.of ho (fun g hg => by show g ≠ b; omega)⟩
theorem sbinds_any (n : Nat) (hP : DocC n) (b : Nat) (st : Fo) (cl : List Nm) (ac : Option Addr) (cc : Nat) (sc : List Nm) (ai : Option Addr) (ci : Nat) (l : List Bnd) (hz : ∀ y, y ∈ l → SizeOf.sizeOf y.2.2 ≤ n) (hw : ∀ y, y ∈ l → wB y) (hn : sc.length + sumN nB l ≤ 100000) (a : Option Addr) (c : Nat) (xs : List Value) (w : World) (hS : SAt w b st (.slice ac cl.length cc)) (hc : RowAt w (Apart b) 9 1 (.slice ac cl.length cc) cl.length (namesV cl)) (hi : RowAt w (Apart b) 9 1 (.slice ai sc.length ci) sc.length (namesV sc)) (hr : RowAt w (Apart b) 48 10 (.slice a l.length c) l.length xs) (ht : BndsAt w (Apart b) l xs) :
    Calls Tryd.prog 26 #[.pointer (some ⟨b, 0, none⟩), .slice a l.length c, .slice ai sc.length ci] w fun e w' => e = .returned (.tuple #[]) ∧ SAt w' b (st.or (sdBs cl sc l)) (.slice ac cl.length cc) ∧ w.grownBy w' (some b) := by
  have HO := Hd (Ai hr (Ai ht (Ai hc hi)))
  have HS := Hd hS
  have HQ := Hd (Ai hz hw)
  have hmx := hr.cap
  unfold maxLen at hmx
  clear hr ht hc hi hS hz hw
  rw [sdBs_first]
  go_enter Tryd.func26, Tryd.ntmps26
  go_wp2_with fail
  go_loopw [6] (fun s wr => ∃ j : Nat, j ≤ l.length ∧ s = .int .i64 j ∧ SAt wr b (st.or (firstF (sdB cl sc) (l.take j))) (.slice ac cl.length cc) ∧ w.grownBy wr (some b)) (fun s _ => l.length - (RowKit.intOf s).toNat)
  case atStart => exact ⟨0, Nat.zero_le _, rfl, by rw [List.take_zero, show firstF (sdB cl sc) [] = none from rfl, or_nil_l]; exact HS.out, grown_of Br⟩
  case round =>
    obtain ⟨j, hj, rfl, hs1, hg1⟩ := hrel
    have HR := Hd (Ai hs1 hg1)
    clear hs1 hg1
    by_cases gj : j < l.length
    · have gj' : (j : Int) < (l.length : Int) := by omega
      obtain ⟨aq, cq, k, nm, f, u, ap, np, cp, ak, nk, ck, ab, nb, cb, aa, na, ca, hQ, hE, hcs⟩ := HO.out.2.1.cells j gj
      obtain ⟨g1, o1, ea1, k1, m1', hgb, ht1⟩ := (HO.out.1.apart HR.out.2).at (by omega)
      subst ea1
      have HP := Hd (fun i v h => ht1 _ _ (hcs i v h))
      have HT := Hd (show l.take (j + 1) = l.take j ++ [l[j]] from List.take_succ_eq_append_getElem gj)
      have HF := Hd (show firstF (sdB cl sc) (l.take (j + 1)) = (firstF (sdB cl sc) (l.take j)).or ((twF l[j].2.1).or (sdE cl (sc ++ l[j].2.1) l[j].2.2)) by rw [HT.out, firstF_snoc]; rfl)
      have HZ := Hd (Ai (HQ.out.1 _ (List.getElem_mem gj)) (Ai (HQ.out.2 _ (List.getElem_mem gj)) (sumN_mem nB (List.getElem_mem gj))))
      have HE := Hd (Ai (hQ.apart HR.out.2) (hE.apart HR.out.2))
      clear ht1 hcs hQ hE HT
      generalize l[j].1 = nb0 at *
      obtain ⟨body, hbody⟩ : ∃ body, body = l[j].2.2 := ⟨_, rfl⟩
      obtain ⟨ps, hps⟩ : ∃ ps, ps = l[j].2.1 := ⟨_, rfl⟩
      have hwt : sc.length + (1 + ps.length + wtE body) ≤ 100000 := by rw [hps, hbody]; have h : 1 + l[j].2.1.length + wtE l[j].2.2 ≤ sumN nB l := HZ.out.2.2; omega
      have HZ2 := Hd (show SizeOf.sizeOf body ≤ n ∧ wfE body from ⟨by rw [hbody]; exact HZ.out.1, by rw [hbody]; exact HZ.out.2.1.2.2⟩)
      rw [← hps, ← hbody] at HF HE
      rw [← hps] at HP
      clear HZ hps hbody
      have p10 : wr.cell? ⟨g1, o1 + j * 10 + 1, none⟩ = some (.slice aq ps.length cq) := by rw [Nat.add_assoc]; exact HP.out 1 _ rfl
      have p20 : wr.cell? ⟨g1, o1 + j * 10 + 2, none⟩ = some (.int .i64 k) := by rw [Nat.add_assoc]; exact HP.out 2 _ rfl
      have p30 : wr.cell? ⟨g1, o1 + j * 10 + 3, none⟩ = some (.string (tx nm)) := by rw [Nat.add_assoc]; exact HP.out 3 _ rfl
      have p40 : wr.cell? ⟨g1, o1 + j * 10 + 4, none⟩ = some (.bool f) := by rw [Nat.add_assoc]; exact HP.out 4 _ rfl
      have p50 : wr.cell? ⟨g1, o1 + j * 10 + 5, none⟩ = some (.int .u64 u) := by rw [Nat.add_assoc]; exact HP.out 5 _ rfl
      have p60 : wr.cell? ⟨g1, o1 + j * 10 + 6, none⟩ = some (.slice ap np cp) := by rw [Nat.add_assoc]; exact HP.out 6 _ rfl
      have p70 : wr.cell? ⟨g1, o1 + j * 10 + 7, none⟩ = some (.slice ak nk ck) := by rw [Nat.add_assoc]; exact HP.out 7 _ rfl
      have p80 : wr.cell? ⟨g1, o1 + j * 10 + 8, none⟩ = some (.slice ab nb cb) := by rw [Nat.add_assoc]; exact HP.out 8 _ rfl
      have p90 : wr.cell? ⟨g1, o1 + j * 10 + 9, none⟩ = some (.slice aa na ca) := by rw [Nat.add_assoc]; exact HP.out 9 _ rfl
      have ej : IntKind.i64.wrap ((j : Int) + 1) = (j : Int) + 1 := by rw [IntKind.wrap_i64]; omega
      have b0 : (0 : Int) ≤ (j : Int) := by omega
      have HTw := Hd (stwice_any b (st.or (firstF (sdB cl sc) (l.take j))) (.slice ac cl.length cc) ps aq cq (Apart b) (fun _ h => h) wr HR.out.1 HE.out.1)
      go_wp2_with fail
      refine HTw.out.mono ?_
      rintro e w4 ⟨rfl, hs4, hg4⟩
      have H4 := Hd (Ai hs4 (Gt HR.out.2 hg4))
      have HL := Hd hs4.lt
      have HE4 := Hd (Ai (HE.out.1.apart hg4) (HE.out.2.apart hg4))
      have p1 := hg4.cell p10 (by simpa using hgb)
      have p2 := hg4.cell p20 (by simpa using hgb)
      have p3 := hg4.cell p30 (by simpa using hgb)
      have p4 := hg4.cell p40 (by simpa using hgb)
      have p5 := hg4.cell p50 (by simpa using hgb)
      have p6 := hg4.cell p60 (by simpa using hgb)
      have p7 := hg4.cell p70 (by simpa using hgb)
      have p8 := hg4.cell p80 (by simpa using hgb)
      have p9 := hg4.cell p90 (by simpa using hgb)
      have hwt2 : sc.length + ps.length ≤ 100000 := by omega
      obtain ⟨sc2, hsc2⟩ : ∃ sc2, sc2 = sc ++ ps := ⟨_, rfl⟩
      have hwt3 : sc2.length + wtE body ≤ 100000 := by rw [hsc2, List.length_append]; omega
      have HJ := Hd (fun (V : World) (hb : Below w4.heap.size w4 V) => join_here b sc ps ai ci aq cq hwt2 w4 V hb (HO.out.2.2.2.apart H4.out.2) (Apart b) (HE4.out.1.apartB hb))
      rw [← hsc2] at HJ HF
      have HXp := Hd (fun (V : World) (a2 : Option Addr) (c2 : Nat) (hb : Below w4.heap.size w4 V) (ho : RowAt V (Apart b) 9 1 (.slice a2 sc2.length c2) sc2.length (namesV sc2)) => hP body b ((st.or (firstF (sdB cl sc) (l.take j))).or (twF ps)) cl ac cc sc2 a2 c2 V k nm f u ap np cp ak nk ck ab nb cb aa na ca HZ2.out.1 HZ2.out.2 hwt3 (H4.out.1.later hb) ((HO.out.2.2.1.apart H4.out.2).apartB hb) ho (HE4.out.2.apartB hb))
      clear hs4 hg4 HTw hsc2 p10 p20 p30 p40 p50 p60 p70 p80 p90 HE HP
      go_wp2_with fail
      go_region_held3 (fun W' => W'.cell? ⟨g1, o1 + j * 10 + 1, none⟩ = some (.slice aq ps.length cq) ∧ W'.cell? ⟨g1, o1 + j * 10 + 2, none⟩ = some (.int .i64 k) ∧ W'.cell? ⟨g1, o1 + j * 10 + 3, none⟩ = some (.string (tx nm)) ∧ W'.cell? ⟨g1, o1 + j * 10 + 4, none⟩ = some (.bool f) ∧ W'.cell? ⟨g1, o1 + j * 10 + 5, none⟩ = some (.int .u64 u) ∧ W'.cell? ⟨g1, o1 + j * 10 + 6, none⟩ = some (.slice ap np cp) ∧ W'.cell? ⟨g1, o1 + j * 10 + 7, none⟩ = some (.slice ak nk ck) ∧ W'.cell? ⟨g1, o1 + j * 10 + 8, none⟩ = some (.slice ab nb cb) ∧ W'.cell? ⟨g1, o1 + j * 10 + 9, none⟩ = some (.slice aa na ca)) (first | exact ⟨r1, r2, r3, r4, r5, r6, r7, r8, r9⟩ | exact ⟨q1, q2, q3, q4, q5, q6, q7, q8, q9⟩ | exact ⟨p1, p2, p3, p4, p5, p6, p7, p8, p9⟩ | go_keep) (first
        | (go_at_call 48
           refine (HJ.out _ ?hb).mono ?_
           case hb => exact Br.drew
           rintro e w5 ⟨⟨a2, c2, rfl, ho⟩, hb5⟩
           have H5 : Below w4.heap.size w4 w5 := onB' (Below.refl w4.heap.size w4).drew hb5
           have ho5 := ho HL.out
           have q1 := later' H5 p1
           have q2 := later' H5 p2
           have q3 := later' H5 p3
           have q4 := later' H5 p4
           have q5 := later' H5 p5
           have q6 := later' H5 p6
           have q7 := later' H5 p7
           have q8 := later' H5 p8
           have q9 := later' H5 p9
           clear ho)
        | (go_at_call 47
           refine (HXp.out w5 a2 c2 H5 ho5).mono ?_
           rintro e w6 ⟨rfl, hs6, hg6⟩
           have r1 := hg6.cell q1 (by simpa using hgb)
           have r2 := hg6.cell q2 (by simpa using hgb)
           have r3 := hg6.cell q3 (by simpa using hgb)
           have r4 := hg6.cell q4 (by simpa using hgb)
           have r5 := hg6.cell q5 (by simpa using hgb)
           have r6 := hg6.cell q6 (by simpa using hgb)
           have r7 := hg6.cell q7 (by simpa using hgb)
           have r8 := hg6.cell q8 (by simpa using hgb)
           have r9 := hg6.cell q9 (by simpa using hgb)
           have H6 := Gt (grown_of (b := b) H5) hg6))
      all_goals go_wp2_with fail
      all_goals (refine ⟨⟨j + 1, by omega, by go_num, ?_, Gt H4.out.2 H6⟩, by simp [RowKit.intOf]; omega⟩; rw [HF.out]; have h := hs6; rwa [or_assoc_f, or_assoc_f] at h)
    · obtain rfl : j = l.length := by omega
      go_wp2_with fail
      go_end0
      have h := HR.out.1
      rw [List.take_length] at h
      exact ⟨rfl, h, HR.out.2⟩
end Go.Proofs.YtdjcdecbmeickaaDoor
