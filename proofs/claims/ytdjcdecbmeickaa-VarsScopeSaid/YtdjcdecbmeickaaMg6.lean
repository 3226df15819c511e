import Derived.Lib.QuietBelow
import Derived.BigQuiet
import Derived.StillTailTactics
import Derived.Test.YtdjcdecbmeickaaMg3
import Derived.Test.YtdjcdecbmeickaaMg4
import Derived.Test.YtdjcdecbmeickaaMg5
namespace Go.Proofs.Ytdjcdecbmeickaa
set_option maxHeartbeats 64000000
set_option maxRecDepth 100000
open Go.RowKit Go.Lib
theorem sumN_take {α : Type} (f : α → Nat) (L : List α) (j : Nat) (hj : j < L.length) : sumN f (L.take j) + f L[j] ≤ sumN f L := by
  have h : L = L.take j ++ L[j] :: L.drop (j + 1) := by rw [← List.drop_eq_getElem_cons hj, List.take_append_drop]
  have h2 := congrArg (sumN f) h
  rw [sumN_app] at h2
  have h3 : sumN f (L[j] :: L.drop (j + 1)) = f L[j] + sumN f (L.drop (j + 1)) := rfl
  omega
theorem flat_len {α : Type} (G : α → List Nm) (wt : α → Nat) : ∀ (L : List α), (∀ x, x ∈ L → (G x).length ≤ wt x) → (L.flatMap G).length ≤ sumN wt L
  | [], _ => Nat.le_refl _
  | x :: L, h => by
    have h1 := flat_len G wt L fun y hy => h y (List.mem_cons_of_mem _ hy)
    have h2 := h x (List.mem_cons_self ..)
    rw [List.flatMap_cons, List.length_append]
    show _ ≤ wt x + sumN wt L
    omega
theorem every_ex {M : Nat → Prop} {z l : Nat} {J : Option Nat → List Nm → World → Prop} (T : Teller M z l J) (fid : Nat) (eg : ∀ args w, (callFunc fid args).run Try.prog w = .ok (.enter fid args) w) (b ns : Nat) (dom : List Nm) (G : Ex → List Nm) (wt : Ex → Nat) (L : List Ex) (hG : ∀ x, x ∈ L → (G x).length ≤ wt x) (a : Option Addr) (c : Nat) (xs : List Value) (r : Option Nat) (pre : List Nm) (w : World) (hA : At z J b ns dom r pre w) (hn : ns + sumN wt L ≤ 100000) (hp : pre.length + sumN wt L ≤ 100000) (hr : RowAt w (Mine M z (some b) r) 34 8 (.slice a L.length c) L.length xs) (ht : ExsAt w M L xs)
    (HC : ∀ j (hj : j < L.length) (k : Int) (nm : Nm) (f : Bool) (u : Int) (ap : Option Addr) (np cp : Nat) (ak : Option Addr) (nk ck : Nat) (ab : Option Addr) (nb cb : Nat) (aa : Option Addr) (na ca : Nat) (r' : Option Nat) (pre' : List Nm) (ns' : Nat) (W : World), At z J b ns' dom r' pre' W → ns' + wt L[j] ≤ 100000 → pre'.length + wt L[j] ≤ 100000 → ExAt W M L[j] [.int .i64 k, .string (tx nm), .bool f, .int .u64 u, .slice ap np cp, .slice ak nk ck, .slice ab nb cb, .slice aa na ca] → Calls Try.prog fid #[.agg #[.map (some b), .func (.yield l) #[] #[]], .agg #[.int .i64 k, .string (tx nm), .bool f, .int .u64 u, .slice ap np cp, .slice ak nk ck, .slice ab nb cb, .slice aa na ca]] W (VarSaid M z J b (ns' + wt L[j]) dom r' (pre' ++ G L[j]) W)) :
    Calls Try.prog 42 #[.slice a L.length c, .func (.func fid) #[.agg #[.map (some b), .func (.yield l) #[] #[]]] #[]] w (VarSaid M z J b (ns + sumN wt L) dom r (pre ++ L.flatMap G) w) := by
  have HO := Hd (Ai hr (Ai ht hA))
  have HG := Hd hG
  replace HC := Hd HC
  have hmx := hr.cap
  unfold maxLen at hmx
  clear hr ht hA hG
  go_enter Try.func42, Try.ntmps42
  go_wp2_with fail
  go_loopw [9] (fun s wr => ∃ (j : Nat) (r' : Option Nat), j ≤ L.length ∧ s = .int .i64 j ∧ At z J b (ns + sumN wt (L.take j)) dom r' (pre ++ (L.take j).flatMap G) wr ∧ Step M z (some b) r w r' wr) (fun s _ => L.length - (RowKit.intOf s).toNat)
  case atStart => exact ⟨0, r, Nat.zero_le _, rfl, by simpa [sumN] using HO.out.2.2, Step.below Br⟩
  case round =>
    obtain ⟨j, r', hj, rfl, hA, hS⟩ := hrel
    have HR := Hd (Ai hA hS)
    clear hA hS
    by_cases gj : j < L.length
    · have gj' : (j : Int) < (L.length : Int) := by omega
      obtain ⟨k, nm, f, u, ap, np, cp, ak, nk, ck, ab, nb, cb, aa, na, ca, hE, hc⟩ := HO.out.2.1.cells j gj
      obtain ⟨g1, o1, ea1, k1, m1', -, ht1⟩ := (HO.out.1.step HR.out.2).at (by omega)
      subst ea1
      have HP := Hd (fun i v h => ht1 _ _ (hc i v h))
      have HT := Hd (show L.take (j + 1) = L.take j ++ [L[j]] from List.take_succ_eq_append_getElem gj)
      have HS := Hd (sumN_take wt L j gj)
      have hx := (Below.refl wr.heap.size wr).alloc Nr (.cells #[.int .i64 k, .string (tx nm), .bool f, .int .u64 u, .slice ap np cp, .slice ak nk ck, .slice ab nb cb, .slice aa na ca] 34)
      have hgl : ((L.take j).flatMap G).length ≤ sumN wt (L.take j) := flat_len G wt _ fun x hx => HG.out x (List.mem_of_mem_take hx)
      have HX := Hd hx
      have HCj := Hd (HC.out j gj k nm f u ap np cp ak nk ck ab nb cb aa na ca r' (pre ++ (L.take j).flatMap G) (ns + sumN wt (L.take j)) _ (HR.out.1.below T hx) (by have := HS.out; omega) (by have := HS.out; rw [List.length_append]; omega) (hE.move fun _ hk lt => ⟨hk, ((T.mine HO.out.2.2.j HO.out.2.2.zb hk).kept (HR.out.2.trans (Step.below hx)) lt).2⟩))
      clear ht1 hc HC hE hx hgl
      have p0 : wr.cell? ⟨g1, o1 + j * 8, none⟩ = some (.int .i64 k) := HP.out 0 _ rfl
      have p1 : wr.cell? ⟨g1, o1 + j * 8 + 1, none⟩ = some (.string (tx nm)) := by rw [Nat.add_assoc]; exact HP.out 1 _ rfl
      have p2 : wr.cell? ⟨g1, o1 + j * 8 + 2, none⟩ = some (.bool f) := by rw [Nat.add_assoc]; exact HP.out 2 _ rfl
      have p3 : wr.cell? ⟨g1, o1 + j * 8 + 3, none⟩ = some (.int .u64 u) := by rw [Nat.add_assoc]; exact HP.out 3 _ rfl
      have p4 : wr.cell? ⟨g1, o1 + j * 8 + 4, none⟩ = some (.slice ap np cp) := by rw [Nat.add_assoc]; exact HP.out 4 _ rfl
      have p5 : wr.cell? ⟨g1, o1 + j * 8 + 5, none⟩ = some (.slice ak nk ck) := by rw [Nat.add_assoc]; exact HP.out 5 _ rfl
      have p6 : wr.cell? ⟨g1, o1 + j * 8 + 6, none⟩ = some (.slice ab nb cb) := by rw [Nat.add_assoc]; exact HP.out 6 _ rfl
      have p7 : wr.cell? ⟨g1, o1 + j * 8 + 7, none⟩ = some (.slice aa na ca) := by rw [Nat.add_assoc]; exact HP.out 7 _ rfl
      have ej : IntKind.i64.wrap ((j : Int) + 1) = (j : Int) + 1 := by rw [IntKind.wrap_i64]; omega
      have b0 : (0 : Int) ≤ (j : Int) := by omega
      go_wp2_with fail
      refine HCj.out.mono ?_
      rintro e w4 ⟨rfl, r4, j4, s4, n4⟩
      have H4 := Hd (Ai j4 (Ai s4 n4))
      clear j4 s4 n4 HCj HP
      go_wp2_with fail
      have hs := HR.out.2.trans ((Step.below HX.out).trans H4.out.2.1)
      refine ⟨⟨j + 1, r4, by omega, by go_num, ?_, hs⟩, by simp [RowKit.intOf]; omega⟩
      have e1 : pre ++ (L.take (j + 1)).flatMap G = (pre ++ (L.take j).flatMap G) ++ G L[j] := by rw [HT.out, List.flatMap_append]; show pre ++ (_ ++ (G L[j] ++ [])) = _; rw [List.append_nil, List.append_assoc]
      have e2 : ns + sumN wt (L.take (j + 1)) = ns + sumN wt (L.take j) + wt L[j] := by rw [HT.out, sumN_app]; show ns + (_ + (wt L[j] + 0)) = _; omega
      rw [e1, e2]
      exact HO.out.2.2.said H4.out.1 hs H4.out.2.2
    · obtain rfl : j = L.length := by omega
      go_wp2_with fail
      go_ret
      have h := HR.out
      rw [List.take_length] at h
      exact ⟨rfl, r', h.1.j, h.2, h.1.set⟩
theorem every_bd {M : Nat → Prop} {z l : Nat} {J : Option Nat → List Nm → World → Prop} (T : Teller M z l J) (fid : Nat) (eg : ∀ args w, (callFunc fid args).run Try.prog w = .ok (.enter fid args) w) (b ns : Nat) (dom : List Nm) (G : Bnd → List Nm) (wt : Bnd → Nat) (L : List Bnd) (hG : ∀ x, x ∈ L → (G x).length ≤ wt x) (a : Option Addr) (c : Nat) (xs : List Value) (r : Option Nat) (pre : List Nm) (w : World) (hA : At z J b ns dom r pre w) (hn : ns + sumN wt L ≤ 100000) (hp : pre.length + sumN wt L ≤ 100000) (hr : RowAt w (Mine M z (some b) r) 36 10 (.slice a L.length c) L.length xs) (ht : BndsAt w M L xs)
    (HC : ∀ j (hj : j < L.length) (aq : Option Addr) (cq : Nat) (k : Int) (nm : Nm) (f : Bool) (u : Int) (ap : Option Addr) (np cp : Nat) (ak : Option Addr) (nk ck : Nat) (ab : Option Addr) (nb cb : Nat) (aa : Option Addr) (na ca : Nat) (r' : Option Nat) (pre' : List Nm) (ns' : Nat) (W : World), At z J b ns' dom r' pre' W → ns' + wt L[j] ≤ 100000 → pre'.length + wt L[j] ≤ 100000 → RowAt W M 9 1 (.slice aq L[j].2.1.length cq) L[j].2.1.length (namesV L[j].2.1) → ExAt W M L[j].2.2 [.int .i64 k, .string (tx nm), .bool f, .int .u64 u, .slice ap np cp, .slice ak nk ck, .slice ab nb cb, .slice aa na ca] → Calls Try.prog fid #[.agg #[.map (some b), .func (.yield l) #[] #[]], .agg #[.string (tx L[j].1), .slice aq L[j].2.1.length cq, .int .i64 k, .string (tx nm), .bool f, .int .u64 u, .slice ap np cp, .slice ak nk ck, .slice ab nb cb, .slice aa na ca]] W (VarSaid M z J b (ns' + wt L[j]) dom r' (pre' ++ G L[j]) W)) :
    Calls Try.prog 67 #[.slice a L.length c, .func (.func fid) #[.agg #[.map (some b), .func (.yield l) #[] #[]]] #[]] w (VarSaid M z J b (ns + sumN wt L) dom r (pre ++ L.flatMap G) w) := by
  have HO := Hd (Ai hr (Ai ht hA))
  have HG := Hd hG
  replace HC := Hd HC
  have hmx := hr.cap
  unfold maxLen at hmx
  clear hr ht hA hG
  go_enter Try.func67, Try.ntmps67
  go_wp2_with fail
  go_loopw [9] (fun s wr => ∃ (j : Nat) (r' : Option Nat), j ≤ L.length ∧ s = .int .i64 j ∧ At z J b (ns + sumN wt (L.take j)) dom r' (pre ++ (L.take j).flatMap G) wr ∧ Step M z (some b) r w r' wr) (fun s _ => L.length - (RowKit.intOf s).toNat)
  case atStart => exact ⟨0, r, Nat.zero_le _, rfl, by simpa [sumN] using HO.out.2.2, Step.below Br⟩
  case round =>
    obtain ⟨j, r', hj, rfl, hA, hS⟩ := hrel
    have HR := Hd (Ai hA hS)
    clear hA hS
    by_cases gj : j < L.length
    · have gj' : (j : Int) < (L.length : Int) := by omega
      obtain ⟨aq, cq, k, nm, f, u, ap, np, cp, ak, nk, ck, ab, nb, cb, aa, na, ca, hQ, hE, hc⟩ := HO.out.2.1.cells j gj
      obtain ⟨g1, o1, ea1, k1, m1', -, ht1⟩ := (HO.out.1.step HR.out.2).at (by omega)
      subst ea1
      have HP := Hd (fun i v h => ht1 _ _ (hc i v h))
      have HT := Hd (show L.take (j + 1) = L.take j ++ [L[j]] from List.take_succ_eq_append_getElem gj)
      have HS := Hd (sumN_take wt L j gj)
      have hx := (Below.refl wr.heap.size wr).alloc Nr (.cells #[.string (tx L[j].1), .slice aq L[j].2.1.length cq, .int .i64 k, .string (tx nm), .bool f, .int .u64 u, .slice ap np cp, .slice ak nk ck, .slice ab nb cb, .slice aa na ca] 36)
      have hgl : ((L.take j).flatMap G).length ≤ sumN wt (L.take j) := flat_len G wt _ fun x hx => HG.out x (List.mem_of_mem_take hx)
      have HX := Hd hx
      have HCj := Hd (HC.out j gj aq cq k nm f u ap np cp ak nk ck ab nb cb aa na ca r' (pre ++ (L.take j).flatMap G) (ns + sumN wt (L.take j)) _ (HR.out.1.below T hx) (by have := HS.out; omega) (by have := HS.out; rw [List.length_append]; omega) (hQ.move fun _ hk lt => ⟨hk, ((T.mine HO.out.2.2.j HO.out.2.2.zb hk).kept (HR.out.2.trans (Step.below hx)) lt).2⟩) (hE.move fun _ hk lt => ⟨hk, ((T.mine HO.out.2.2.j HO.out.2.2.zb hk).kept (HR.out.2.trans (Step.below hx)) lt).2⟩))
      clear ht1 hc HC hQ hE hx hgl
      have p0 : wr.cell? ⟨g1, o1 + j * 10, none⟩ = some (.string (tx L[j].1)) := HP.out 0 _ rfl
      have p1 : wr.cell? ⟨g1, o1 + j * 10 + 1, none⟩ = some (.slice aq L[j].2.1.length cq) := by rw [Nat.add_assoc]; exact HP.out 1 _ rfl
      have p2 : wr.cell? ⟨g1, o1 + j * 10 + 2, none⟩ = some (.int .i64 k) := by rw [Nat.add_assoc]; exact HP.out 2 _ rfl
      have p3 : wr.cell? ⟨g1, o1 + j * 10 + 3, none⟩ = some (.string (tx nm)) := by rw [Nat.add_assoc]; exact HP.out 3 _ rfl
      have p4 : wr.cell? ⟨g1, o1 + j * 10 + 4, none⟩ = some (.bool f) := by rw [Nat.add_assoc]; exact HP.out 4 _ rfl
      have p5 : wr.cell? ⟨g1, o1 + j * 10 + 5, none⟩ = some (.int .u64 u) := by rw [Nat.add_assoc]; exact HP.out 5 _ rfl
      have p6 : wr.cell? ⟨g1, o1 + j * 10 + 6, none⟩ = some (.slice ap np cp) := by rw [Nat.add_assoc]; exact HP.out 6 _ rfl
      have p7 : wr.cell? ⟨g1, o1 + j * 10 + 7, none⟩ = some (.slice ak nk ck) := by rw [Nat.add_assoc]; exact HP.out 7 _ rfl
      have p8 : wr.cell? ⟨g1, o1 + j * 10 + 8, none⟩ = some (.slice ab nb cb) := by rw [Nat.add_assoc]; exact HP.out 8 _ rfl
      have p9 : wr.cell? ⟨g1, o1 + j * 10 + 9, none⟩ = some (.slice aa na ca) := by rw [Nat.add_assoc]; exact HP.out 9 _ rfl
      have ej : IntKind.i64.wrap ((j : Int) + 1) = (j : Int) + 1 := by rw [IntKind.wrap_i64]; omega
      have b0 : (0 : Int) ≤ (j : Int) := by omega
      go_wp2_with fail
      refine HCj.out.mono ?_
      rintro e w4 ⟨rfl, r4, j4, s4, n4⟩
      have H4 := Hd (Ai j4 (Ai s4 n4))
      clear j4 s4 n4 HCj HP
      go_wp2_with fail
      have hs := HR.out.2.trans ((Step.below HX.out).trans H4.out.2.1)
      refine ⟨⟨j + 1, r4, by omega, by go_num, ?_, hs⟩, by simp [RowKit.intOf]; omega⟩
      have e1 : pre ++ (L.take (j + 1)).flatMap G = (pre ++ (L.take j).flatMap G) ++ G L[j] := by rw [HT.out, List.flatMap_append]; show pre ++ (_ ++ (G L[j] ++ [])) = _; rw [List.append_nil, List.append_assoc]
      have e2 : ns + sumN wt (L.take (j + 1)) = ns + sumN wt (L.take j) + wt L[j] := by rw [HT.out, sumN_app]; show ns + (_ + (wt L[j] + 0)) = _; omega
      rw [e1, e2]
      exact HO.out.2.2.said H4.out.1 hs H4.out.2.2
    · obtain rfl : j = L.length := by omega
      go_wp2_with fail
      go_ret
      have h := HR.out
      rw [List.take_length] at h
      exact ⟨rfl, r', h.1.j, h.2, h.1.set⟩
theorem every_al {M : Nat → Prop} {z l : Nat} {J : Option Nat → List Nm → World → Prop} (T : Teller M z l J) (fid : Nat) (eg : ∀ args w, (callFunc fid args).run Try.prog w = .ok (.enter fid args) w) (b ns : Nat) (dom : List Nm) (G : Alt → List Nm) (wt : Alt → Nat) (L : List Alt) (hG : ∀ x, x ∈ L → (G x).length ≤ wt x) (a : Option Addr) (c : Nat) (xs : List Value) (r : Option Nat) (pre : List Nm) (w : World) (hA : At z J b ns dom r pre w) (hn : ns + sumN wt L ≤ 100000) (hp : pre.length + sumN wt L ≤ 100000) (hr : RowAt w (Mine M z (some b) r) 51 13 (.slice a L.length c) L.length xs) (ht : AltsAt w M L xs)
    (HC : ∀ j (hj : j < L.length) (aq : Option Addr) (cq : Nat) (k : Int) (nm : Nm) (f : Bool) (u : Int) (ap : Option Addr) (np cp : Nat) (ak : Option Addr) (nk ck : Nat) (ab : Option Addr) (nb cb : Nat) (aa : Option Addr) (na ca : Nat) (r' : Option Nat) (pre' : List Nm) (ns' : Nat) (W : World), At z J b ns' dom r' pre' W → ns' + wt L[j] ≤ 100000 → pre'.length + wt L[j] ≤ 100000 → RowAt W M 9 1 (.slice aq L[j].2.2.2.2.1.length cq) L[j].2.2.2.2.1.length (namesV L[j].2.2.2.2.1) → ExAt W M L[j].2.2.2.2.2 [.int .i64 k, .string (tx nm), .bool f, .int .u64 u, .slice ap np cp, .slice ak nk ck, .slice ab nb cb, .slice aa na ca] → Calls Try.prog fid #[.agg #[.map (some b), .func (.yield l) #[] #[]], .agg #[.int .i64 L[j].1, .string (tx L[j].2.1), .bool L[j].2.2.1, .int .u64 L[j].2.2.2.1, .slice aq L[j].2.2.2.2.1.length cq, .int .i64 k, .string (tx nm), .bool f, .int .u64 u, .slice ap np cp, .slice ak nk ck, .slice ab nb cb, .slice aa na ca]] W (VarSaid M z J b (ns' + wt L[j]) dom r' (pre' ++ G L[j]) W)) :
    Calls Try.prog 61 #[.slice a L.length c, .func (.func fid) #[.agg #[.map (some b), .func (.yield l) #[] #[]]] #[]] w (VarSaid M z J b (ns + sumN wt L) dom r (pre ++ L.flatMap G) w) := by
  have HO := Hd (Ai hr (Ai ht hA))
  have HG := Hd hG
  replace HC := Hd HC
  have hmx := hr.cap
  unfold maxLen at hmx
  clear hr ht hA hG
  go_enter Try.func61, Try.ntmps61
  go_wp2_with fail
  go_loopw [9] (fun s wr => ∃ (j : Nat) (r' : Option Nat), j ≤ L.length ∧ s = .int .i64 j ∧ At z J b (ns + sumN wt (L.take j)) dom r' (pre ++ (L.take j).flatMap G) wr ∧ Step M z (some b) r w r' wr) (fun s _ => L.length - (RowKit.intOf s).toNat)
  case atStart => exact ⟨0, r, Nat.zero_le _, rfl, by simpa [sumN] using HO.out.2.2, Step.below Br⟩
  case round =>
    obtain ⟨j, r', hj, rfl, hA, hS⟩ := hrel
    have HR := Hd (Ai hA hS)
    clear hA hS
    by_cases gj : j < L.length
    · have gj' : (j : Int) < (L.length : Int) := by omega
      obtain ⟨aq, cq, k, nm, f, u, ap, np, cp, ak, nk, ck, ab, nb, cb, aa, na, ca, hQ, hE, hc⟩ := HO.out.2.1.cells j gj
      obtain ⟨g1, o1, ea1, k1, m1', -, ht1⟩ := (HO.out.1.step HR.out.2).at (by omega)
      subst ea1
      have HP := Hd (fun i v h => ht1 _ _ (hc i v h))
      have HT := Hd (show L.take (j + 1) = L.take j ++ [L[j]] from List.take_succ_eq_append_getElem gj)
      have HS := Hd (sumN_take wt L j gj)
      have hx := (Below.refl wr.heap.size wr).alloc Nr (.cells #[.int .i64 L[j].1, .string (tx L[j].2.1), .bool L[j].2.2.1, .int .u64 L[j].2.2.2.1, .slice aq L[j].2.2.2.2.1.length cq, .int .i64 k, .string (tx nm), .bool f, .int .u64 u, .slice ap np cp, .slice ak nk ck, .slice ab nb cb, .slice aa na ca] 51)
      have hgl : ((L.take j).flatMap G).length ≤ sumN wt (L.take j) := flat_len G wt _ fun x hx => HG.out x (List.mem_of_mem_take hx)
      have HX := Hd hx
      have HCj := Hd (HC.out j gj aq cq k nm f u ap np cp ak nk ck ab nb cb aa na ca r' (pre ++ (L.take j).flatMap G) (ns + sumN wt (L.take j)) _ (HR.out.1.below T hx) (by have := HS.out; omega) (by have := HS.out; rw [List.length_append]; omega) (hQ.move fun _ hk lt => ⟨hk, ((T.mine HO.out.2.2.j HO.out.2.2.zb hk).kept (HR.out.2.trans (Step.below hx)) lt).2⟩) (hE.move fun _ hk lt => ⟨hk, ((T.mine HO.out.2.2.j HO.out.2.2.zb hk).kept (HR.out.2.trans (Step.below hx)) lt).2⟩))
      clear ht1 hc HC hQ hE hx hgl
      have p0 : wr.cell? ⟨g1, o1 + j * 13, none⟩ = some (.int .i64 L[j].1) := HP.out 0 _ rfl
      have p1 : wr.cell? ⟨g1, o1 + j * 13 + 1, none⟩ = some (.string (tx L[j].2.1)) := by rw [Nat.add_assoc]; exact HP.out 1 _ rfl
      have p2 : wr.cell? ⟨g1, o1 + j * 13 + 2, none⟩ = some (.bool L[j].2.2.1) := by rw [Nat.add_assoc]; exact HP.out 2 _ rfl
      have p3 : wr.cell? ⟨g1, o1 + j * 13 + 3, none⟩ = some (.int .u64 L[j].2.2.2.1) := by rw [Nat.add_assoc]; exact HP.out 3 _ rfl
      have p4 : wr.cell? ⟨g1, o1 + j * 13 + 4, none⟩ = some (.slice aq L[j].2.2.2.2.1.length cq) := by rw [Nat.add_assoc]; exact HP.out 4 _ rfl
      have p5 : wr.cell? ⟨g1, o1 + j * 13 + 5, none⟩ = some (.int .i64 k) := by rw [Nat.add_assoc]; exact HP.out 5 _ rfl
      have p6 : wr.cell? ⟨g1, o1 + j * 13 + 6, none⟩ = some (.string (tx nm)) := by rw [Nat.add_assoc]; exact HP.out 6 _ rfl
      have p7 : wr.cell? ⟨g1, o1 + j * 13 + 7, none⟩ = some (.bool f) := by rw [Nat.add_assoc]; exact HP.out 7 _ rfl
      have p8 : wr.cell? ⟨g1, o1 + j * 13 + 8, none⟩ = some (.int .u64 u) := by rw [Nat.add_assoc]; exact HP.out 8 _ rfl
      have p9 : wr.cell? ⟨g1, o1 + j * 13 + 9, none⟩ = some (.slice ap np cp) := by rw [Nat.add_assoc]; exact HP.out 9 _ rfl
      have p10 : wr.cell? ⟨g1, o1 + j * 13 + 10, none⟩ = some (.slice ak nk ck) := by rw [Nat.add_assoc]; exact HP.out 10 _ rfl
      have p11 : wr.cell? ⟨g1, o1 + j * 13 + 11, none⟩ = some (.slice ab nb cb) := by rw [Nat.add_assoc]; exact HP.out 11 _ rfl
      have p12 : wr.cell? ⟨g1, o1 + j * 13 + 12, none⟩ = some (.slice aa na ca) := by rw [Nat.add_assoc]; exact HP.out 12 _ rfl
      have ej : IntKind.i64.wrap ((j : Int) + 1) = (j : Int) + 1 := by rw [IntKind.wrap_i64]; omega
      have b0 : (0 : Int) ≤ (j : Int) := by omega
      go_wp2_with fail
      refine HCj.out.mono ?_
      rintro e w4 ⟨rfl, r4, j4, s4, n4⟩
      have H4 := Hd (Ai j4 (Ai s4 n4))
      clear j4 s4 n4 HCj HP
      go_wp2_with fail
      have hs := HR.out.2.trans ((Step.below HX.out).trans H4.out.2.1)
      refine ⟨⟨j + 1, r4, by omega, by go_num, ?_, hs⟩, by simp [RowKit.intOf]; omega⟩
      have e1 : pre ++ (L.take (j + 1)).flatMap G = (pre ++ (L.take j).flatMap G) ++ G L[j] := by rw [HT.out, List.flatMap_append]; show pre ++ (_ ++ (G L[j] ++ [])) = _; rw [List.append_nil, List.append_assoc]
      have e2 : ns + sumN wt (L.take (j + 1)) = ns + sumN wt (L.take j) + wt L[j] := by rw [HT.out, sumN_app]; show ns + (_ + (wt L[j] + 0)) = _; omega
      rw [e1, e2]
      exact HO.out.2.2.said H4.out.1 hs H4.out.2.2
    · obtain rfl : j = L.length := by omega
      go_wp2_with fail
      go_ret
      have h := HR.out
      rw [List.take_length] at h
      exact ⟨rfl, r', h.1.j, h.2, h.1.set⟩
theorem PAt.o2 {W : World} {b p i0 i1 : Nat} {T : List Tok} {s : St} {v0 v1 : Value} (h : PAt W b T s) (hp : b < p) : PAt ((W.setCell ⟨p, i0, none⟩ v0).setCell ⟨p, i1, none⟩ v1) b T s := (h.over hp _).over hp _
theorem PAt.o8 {W : World} {b p i0 i1 i2 i3 i4 i5 i6 i7 : Nat} {T : List Tok} {s : St} {v0 v1 v2 v3 v4 v5 v6 v7 : Value} (h : PAt W b T s) (hp : b < p) : PAt ((((((((W.setCell ⟨p, i0, none⟩ v0).setCell ⟨p, i1, none⟩ v1).setCell ⟨p, i2, none⟩ v2).setCell ⟨p, i3, none⟩ v3).setCell ⟨p, i4, none⟩ v4).setCell ⟨p, i5, none⟩ v5).setCell ⟨p, i6, none⟩ v6).setCell ⟨p, i7, none⟩ v7) b T s := (((((((h.over hp _).over hp _).over hp _).over hp _).over hp _).over hp _).over hp _).over hp _
theorem own_o8 {W : World} {base size n p i0 i1 i2 i3 i4 i5 i6 i7 : Nat} {e : TypeId} {u v0 v1 v2 v3 v4 v5 v6 v7 : Value} {xs : List Value} (h : W.ownsRow base e size u n xs) (hn : ∀ g, u.ownBlock = some g → some g ≠ some p) : World.ownsRow ((((((((W.setCell ⟨p, i0, none⟩ v0).setCell ⟨p, i1, none⟩ v1).setCell ⟨p, i2, none⟩ v2).setCell ⟨p, i3, none⟩ v3).setCell ⟨p, i4, none⟩ v4).setCell ⟨p, i5, none⟩ v5).setCell ⟨p, i6, none⟩ v6).setCell ⟨p, i7, none⟩ v7) base e size u n xs := own_o (own_o (own_o (own_o (own_o (own_o (own_o (own_o h (set_grown _ p i0 v0) hn) (set_grown _ p i1 v1) hn) (set_grown _ p i2 v2) hn) (set_grown _ p i3 v3) hn) (set_grown _ p i4 v4) hn) (set_grown _ p i5 v5) hn) (set_grown _ p i6 v6) hn) (set_grown _ p i7 v7) hn
theorem dkind_any (b : Nat) (T : List Tok) (s : St) (w : World) (hP : PAt w b T s) : Calls Try.prog 53 #[.pointer (some ⟨b, 0, none⟩)] w (fun e w' => e = .returned (.int .i64 (kindL s.r)) ∧ Below w.heap.size w w') := by
  obtain ⟨i, a, c, c0, hc, hm, c1, hi, hr, c2, c3, ht⟩ := hP.view
  rw [hr]
  clear hP hr
  unfold maxLen at hm
  by_cases g : i < T.length
  · obtain ⟨gg, o, rfl, hg, htk⟩ := ht.resolve_left (by rintro rfl; simp at g)
    have t0 := (htk i g).1
    rw [List.drop_eq_getElem_cons g]
    generalize T[i] = y at *
    show Calls _ _ _ _ (fun e w' => e = .returned (.int .i64 y.1.k) ∧ _)
    have g1 : (i : Int) < (T.length : Int) := by omega
    have g0 : (0 : Int) ≤ (i : Int) := by omega
    clear ht htk
    go_enter Try.func53, Try.ntmps53
    go_wp2_with fail
    go_quiet (fail)
    go_wp2_with fail
    go_quiet (fail)
    go_wp2_with fail
    go_ret
    exact ⟨rfl, dbelow (dbelow Br _) _⟩
  · rw [List.drop_eq_nil_of_le (by omega)]
    have g1 : ¬ (i : Int) < (T.length : Int) := by omega
    clear ht
    go_enter Try.func53, Try.ntmps53
    go_wp2_with fail
    go_quiet (fail)
    go_wp2_with fail
    go_ret
    exact ⟨rfl, dbelow Br _⟩
theorem dsees_any (b : Nat) (T : List Tok) (s : St) (t : Nm) (w : World) (hP : PAt w b T s) : Calls Try.prog 34 #[.pointer (some ⟨b, 0, none⟩), .string (tx t)] w (fun e w' => e = .returned (.bool (seesL t s.r)) ∧ Below w.heap.size w w') := by
  have hk := dkind_any b T s w hP
  obtain ⟨i, a, c, c0, hc, hm, c1, hi, hr, c2, c3, ht⟩ := hP.view
  rw [hr] at hk ⊢
  clear hP hr
  unfold maxLen at hm
  by_cases g : i < T.length
  · obtain ⟨gg, o, rfl, hg, htk⟩ := ht.resolve_left (by rintro rfl; simp at g)
    have t1 := (htk i g).2.1
    rw [List.drop_eq_getElem_cons g] at hk ⊢
    generalize T[i] = y at *
    change Calls _ _ _ _ (fun e w' => e = .returned (.int .i64 y.1.k) ∧ _) at hk
    show Calls _ _ _ _ (fun e w' => e = .returned (.bool (decide ((y.1.k = 5 ∨ y.1.k = 6) ∧ y.1.t = t))) ∧ _)
    have HK := Hd hk
    have g1 : (i : Int) < (T.length : Int) := by omega
    have g0 : (0 : Int) ≤ (i : Int) := by omega
    clear ht htk hk
    go_enter Try.func34, Try.ntmps34
    go_wp2_with fail
    refine HK.out.mono ?_
    rintro e w2 ⟨rfl, hb⟩
    have d0 := later' hb c0
    have d1 := later' hb c1
    have d2 := later' hb t1
    have HB := Hd hb
    clear c0 c1 c2 c3 t1 hb HK
    by_cases h5 : y.1.k = 5 ∨ y.1.k = 6
    · have e5 : (y.1.k == 5) = true ∨ (y.1.k == 5) = false ∧ (y.1.k == 6) = true := by
        rcases h5 with h | h <;> simp [h]
      have ht : decide ((y.1.k = 5 ∨ y.1.k = 6) ∧ y.1.t = t) = ((tx y.1.t).toList == (tx t).toList) := by
        rw [tx_toList, tx_toList]
        by_cases h : y.1.t = t
        · simp [h, h5]
        · simp [h]
      have HT := Hd ht
      clear ht
      rcases e5 with e5 | ⟨e5, e6⟩
      · go_wp2_with fail
        go_quiet (fail)
        go_wp2_with fail
        go_ret
        exact ⟨by rw [HT.out]; rfl, dbelow HB.out _⟩
      · go_wp2_with fail
        go_quiet (fail)
        go_wp2_with fail
        go_ret
        exact ⟨by rw [HT.out]; rfl, dbelow HB.out _⟩
    · have e5 : (y.1.k == 5) = false := by simp; intro h; exact h5 (Or.inl h)
      have e6 : (y.1.k == 6) = false := by simp; intro h; exact h5 (Or.inr h)
      have HT := Hd (show decide ((y.1.k = 5 ∨ y.1.k = 6) ∧ y.1.t = t) = false from decide_eq_false fun h => h5 h.1)
      go_wp2_with fail
      go_quiet (fail)
      go_wp2_with fail
      go_ret
      exact ⟨by rw [HT.out]; rfl, dbelow HB.out _⟩
  · rw [List.drop_eq_nil_of_le (by omega)] at hk ⊢
    have HK := Hd hk
    clear ht hk
    go_enter Try.func34, Try.ntmps34
    go_wp2_with fail
    refine HK.out.mono ?_
    rintro e w2 ⟨rfl, hb⟩
    have HB := Hd hb
    clear hb HK c0 c1 c2 c3
    have e5 : (kindL ([] : List Tok) == 5) = false := rfl
    have e6 : (kindL ([] : List Tok) == 6) = false := rfl
    go_wp2_with fail
    go_quiet (fail)
    go_wp2_with fail
    go_ret
    exact ⟨rfl, dbelow HB.out _⟩
theorem dfault_any (b : Nat) (T : List Tok) (s : St) (er : Int) (w : World) (hP : PAt w b T s) : Calls Try.prog 55 #[.pointer (some ⟨b, 0, none⟩), .int .i64 er] w (fun e w' => e = .returned (.tuple #[]) ∧ PAt w' b T (s.bad (lastOf 1 T) er) ∧ w.grownBy w' (some b)) := by
  obtain ⟨i, a, c, c0, hc, hm, c1, hi, hr, c2, c3, ht⟩ := hP.view
  have z2 := hP.z 2
  have z3 := hP.z 3
  have HP := Hd hP
  unfold maxLen at hm
  by_cases ge : s.e = 0
  · have hbad : s.bad (lastOf 1 T) er = match s.r with | [] => ⟨[], 17, lastOf 1 T⟩ | y :: r => ⟨y :: r, er, y.2⟩ := by unfold St.bad; rw [if_neg (by simpa using ge)]; rfl
    rw [hbad, hr]
    have f0 : (s.e != 0) = false := by simp [ge]
    by_cases g : i < T.length
    · obtain ⟨gg, o, rfl, hg, htk⟩ := ht.resolve_left (by rintro rfl; simp at g)
      have t3 := (htk i g).2.2.2.2
      have hp2 : ∀ er ln, PAt ((w.setCell ⟨b, 2, none⟩ (.int .i64 er)).setCell ⟨b, 3, none⟩ (.int .i64 ln)) b T ⟨T.drop i, er, ln⟩ := fun er ln => by
        have h := (HP.out.setE er).setL ln
        rwa [hr] at h
      have HF := Hd hp2
      rw [List.drop_eq_getElem_cons g] at HF ⊢
      generalize T[i] = y at *
      show Calls _ _ _ _ (fun e w' => e = .returned (.tuple #[]) ∧ PAt w' b T ⟨_, er, y.2⟩ ∧ _)
      have g1 : (i : Int) < (T.length : Int) := by omega
      have g0 : (0 : Int) ≤ (i : Int) := by omega
      have nb : gg ≠ b := by omega
      have t3' := (at_far w b gg 2 (o + i * 5 + 4) (.int .i64 er) (Ne.symm nb)).trans t3
      have d0 := (at_oth w b 2 0 (.int .i64 er) (by decide)).trans c0
      have d1 := (at_oth w b 2 1 (.int .i64 er) (by decide)).trans c1
      have d3 := (at_oth w b 2 3 (.int .i64 er) (by decide)).trans c3
      clear ht htk hp2 hP hbad
      go_enter Try.func55, Try.ntmps55
      go_wp2_with fail
      go_quiet (fail)
      go_wp2_with fail
      go_region_held3 (fun w' => w'.cell? ⟨b, 0, none⟩ = some (.slice (some ⟨gg, o, none⟩) T.length c) ∧ w'.cell? ⟨b, 1, none⟩ = some (.int .i64 i) ∧ w'.cell? ⟨gg, o + i * 5 + 4, none⟩ = some (.int .i64 y.2)) (first | exact ⟨d0, d1, t3'⟩ | exact ⟨(at_oth _ _ _ _ _ (by decide)).trans d0, (at_oth _ _ _ _ _ (by decide)).trans d1, (at_far _ _ _ _ _ _ (Ne.symm nb)).trans t3'⟩) (fail)
      go_wp2_with fail
      refine bodyPost_ret (v := .tuple #[]) (by simp [results, Try.results55, go_sem]) rfl ?_
      exact ⟨rfl, (HF.out _ _).keep (fun _ _ => rfl), Gt (Gt (set_grown ..) (grown_of (dbelow Br _))) (set_grown ..)⟩
    · have hil : i = T.length := by omega
      have hpn : s.r = [] := by rw [hr, List.drop_eq_nil_of_le (by omega)]
      rw [List.drop_eq_nil_of_le (by omega)]
      show Calls _ _ _ _ (fun e w' => e = .returned (.tuple #[]) ∧ PAt w' b T ⟨[], 17, lastOf 1 T⟩ ∧ _)
      have g1 : ¬ (i : Int) < (T.length : Int) := by omega
      have HN := Hd hpn
      have d0 := (at_oth w b 2 0 (.int .i64 er) (by decide)).trans c0
      have d1 := (at_oth w b 2 1 (.int .i64 er) (by decide)).trans c1
      have d2 := at_sam (.int .i64 er) c2
      have d3 := (at_oth w b 2 3 (.int .i64 er) (by decide)).trans c3
      have h1 := HP.out.setE er
      have k0 := (at_oth _ b 2 0 (.int .i64 17) (by decide)).trans d0
      have k3 := (at_oth _ b 2 3 (.int .i64 17) (by decide)).trans d3
      have h2 := h1.setE 17
      have l0 := (at_oth _ b 3 0 (.int .i64 1) (by decide)).trans k0
      have l3 := at_sam (.int .i64 1) k3
      have h3 := h2.setL 1
      by_cases gT : T = []
      · subst gT
        have H3 := Hd h3
        clear ht hP hbad h1 h2 h3 hpn
        go_enter Try.func55, Try.ntmps55
        go_wp2_with fail
        go_quiet (fail)
        go_wp2_with fail
        go_end0
        have h := H3.out
        rw [show (⟨s.r, 17, 1⟩ : St) = ⟨[], 17, 1⟩ by rw [HN.out]] at h
        exact ⟨rfl, h.keep (fun _ _ => rfl), Gt (Gt (Gt (set_grown ..) (grown_of (dbelow Br _))) (set_grown ..)) (set_grown ..)⟩
      · obtain ⟨gg, o, rfl, hg, htk⟩ := ht.resolve_left gT
        obtain ⟨y, hy, hl⟩ := last_get gT 1
        have hpos : 0 < T.length := List.length_pos_iff.2 gT
        have hlt : T.length - 1 < T.length := by omega
        rw [List.getElem?_eq_getElem hlt] at hy
        have hy' := Oi hy
        have t3 := (htk (T.length - 1) hlt).2.2.2.2
        rw [hy'] at t3
        have nb : gg ≠ b := by omega
        have t3' := ((at_far _ b gg 3 (o + (T.length - 1) * 5 + 4) (.int .i64 1) (Ne.symm nb)).trans ((at_far _ b gg 2 (o + (T.length - 1) * 5 + 4) (.int .i64 17) (Ne.symm nb)).trans ((at_far w b gg 2 (o + (T.length - 1) * 5 + 4) (.int .i64 er) (Ne.symm nb)).trans t3)))
        have h4 := h3.setL y.2
        have H4 := Hd h4
        rw [hl]
        have g3 : (0 : Int) < (T.length : Int) := by omega
        have g4 : IntKind.i64.wrap ((T.length : Int) - 1) = ((T.length - 1 : Nat) : Int) := by rw [IntKind.wrap_i64]; omega
        have g5 : ((T.length - 1 : Nat) : Int) < (T.length : Int) := by omega
        have g6 : (0 : Int) ≤ ((T.length - 1 : Nat) : Int) := by omega
        clear ht htk hP hbad h1 h2 h3 h4 hpn hy hy' hl t3
        go_enter Try.func55, Try.ntmps55
        go_wp2_with fail
        go_quiet (fail)
        go_wp2_with fail
        go_region_held3 (fun w' => w'.cell? ⟨b, 0, none⟩ = some (.slice (some ⟨gg, o, none⟩) T.length c) ∧ w'.cell? ⟨gg, o + (T.length - 1) * 5 + 4, none⟩ = some (.int .i64 y.2)) (first | exact ⟨l0, t3'⟩ | exact ⟨(at_oth _ _ _ _ _ (by decide)).trans l0, (at_far _ _ _ _ _ _ (Ne.symm nb)).trans t3'⟩) (fail)
        go_wp2_with fail
        go_end0
        have h := H4.out
        rw [show (⟨s.r, 17, y.2⟩ : St) = ⟨[], 17, y.2⟩ by rw [HN.out]] at h
        exact ⟨rfl, h.keep (fun _ _ => rfl), Gt (Gt (Gt (Gt (Gt (set_grown ..) (grown_of (dbelow Br _))) (set_grown ..)) (set_grown ..)) (grown_of (dbelow Br _))) (set_grown ..)⟩
  · have f0 : (s.e != 0) = true := by simp [ge]
    rw [show s.bad (lastOf 1 T) er = s from bad_dead ge]
    clear ht hP
    go_enter Try.func55, Try.ntmps55
    go_wp2_with fail
    refine bodyPost_ret (v := .tuple #[]) (by simp [results, Try.results55, go_sem]) rfl ?_
    exact ⟨rfl, HP.out, grown_of Br⟩
theorem dneed_any (b : Nat) (T : List Tok) (s : St) (t : Nm) (w : World) (hP : PAt w b T s) : Calls Try.prog 37 #[.pointer (some ⟨b, 0, none⟩), .string (tx t)] w (fun e w' => e = .returned (.tuple #[]) ∧ PAt w' b T (needD (lastOf 1 T) t s) ∧ w.grownBy w' (some b)) := by
  have hS := fun (W' : World) (hb : Below w.heap.size w W') => dsees_any b T s t W' (hP.later hb)
  obtain ⟨i, a, c, c0, hc, hm, c1, hi, hr, c2, c3, ht⟩ := hP.view
  have HP := Hd hP
  have z1 := hP.z 1
  have hn := hP.n
  have ej : IntKind.i64.wrap ((i : Int) + 1) = (i : Int) + 1 := by rw [IntKind.wrap_i64]; omega
  clear ht hr
  by_cases ge : s.e = 0
  · have f0 : (s.e == 0) = true := by simp [ge]
    by_cases g : seesL t s.r = true
    · rw [show needD (lastOf 1 T) t s = s.next from if_pos ⟨ge, g⟩]
      have HN := Hd (sees_ne g)
      rw [g] at hS
      have HS := Hd hS
      clear hS hP g
      go_enter Try.func37, Try.ntmps37
      go_wp2_with fail
      refine (HS.out _ Br).mono ?_
      rintro e W2 ⟨rfl, hb⟩
      have HB := Hd hb
      have d1 := later' HB.out c1
      have HQ := Hd (HP.out.later HB.out)
      have y1 := HQ.out.z 1
      clear hb HS c0 c1 c2 c3
      go_wp2_with fail
      refine bodyPost_ret (v := .tuple #[]) (by simp [results, Try.results37, go_sem]) rfl ?_
      exact ⟨rfl, HQ.out.next d1 HN.out, Gt (grown_of HB.out) (set_grown ..)⟩
    · have g' : seesL t s.r = false := by simpa using g
      rw [show needD (lastOf 1 T) t s = s.bad (lastOf 1 T) 3 from if_neg (fun h => g h.2)]
      rw [g'] at hS
      have HS := Hd hS
      clear hS hP g g'
      go_enter Try.func37, Try.ntmps37
      go_wp2_with fail
      refine (HS.out _ Br).mono ?_
      rintro e W2 ⟨rfl, hb⟩
      have HB := Hd hb
      have HF := Hd (dfault_any b T s 3 W2 (HP.out.later HB.out))
      clear hb HS c0 c1 c2 c3
      go_wp2_with fail
      refine HF.out.mono ?_
      rintro e w3 ⟨rfl, h3, hg3⟩
      have HE := Hd (Ai h3 (Gt (grown_of (b := b) HB.out) hg3))
      clear h3 hg3 HF
      go_wp2_with fail
      go_end0
      exact ⟨rfl, HE.out⟩
  · have f0 : (s.e == 0) = false := by simp [ge]
    rw [show needD (lastOf 1 T) t s = s.bad (lastOf 1 T) 3 from if_neg (fun h => ge h.1)]
    clear hS hP
    go_enter Try.func37, Try.ntmps37
    have HF := Hd (dfault_any b T s 3 w HP.out)
    go_wp2_with fail
    refine HF.out.mono ?_
    rintro e w3 ⟨rfl, h3, hg3⟩
    have HE := Hd (Ai h3 hg3)
    clear h3 hg3 HF
    go_wp2_with fail
    go_end0
    exact ⟨rfl, HE.out⟩
theorem PAt.over5 {w : World} {b p : Nat} {T : List Tok} {s : St} (h : PAt w b T s) (hp : b < p) (v0 v1 v2 v3 v4 : Value) : PAt (((((w.setCell ⟨p, 0, none⟩ v0).setCell ⟨p, 1, none⟩ v1).setCell ⟨p, 2, none⟩ v2).setCell ⟨p, 3, none⟩ v3).setCell ⟨p, 4, none⟩ v4) b T s := ((((h.over hp _).over hp _).over hp _).over hp _).over hp _
theorem dtok_any (b : Nat) (T : List Tok) (s : St) (k : Int) (hk0 : k ≠ 0) (w : World) (hP : PAt w b T s) : Calls Try.prog 54 #[.pointer (some ⟨b, 0, none⟩), .int .i64 k] w (DSaid b T TokV (tokD (lastOf 1 T) k s) w) := by
  have hlt : b < w.heap.size := hP.lt
  have hx : Below w.heap.size w (w.alloc (.cells #[.int .i64 0, .string ⟨#[]⟩, .bool false, .int .u64 0, .int .i64 0] 77)) := Br.alloc Nr _
  have hB := BoxW.alloc w #[.int .i64 0, .string ⟨#[]⟩, .bool false, .int .u64 0, .int .i64 0] 77
  have HX := Hd (Ai hx (Ai (hP.later hx) hB))
  clear hx hB hP
  go_enter Try.func54, Try.ntmps54
  go_upto_region 1 with fail
  generalize (w.alloc (.cells #[.int .i64 0, .string ⟨#[]⟩, .bool false, .int .u64 0, .int .i64 0] 77)) = W at *
  obtain ⟨i, a, c, c0, hc, hm, c1, hi, hr, c2, c3, ht⟩ := HX.out.2.1.view
  have hn := HX.out.2.1.n
  have HS := Hd (dkind_any b T s W HX.out.2.1)
  by_cases ge : s.e = 0
  · have f0 : (s.e == 0) = true := by simp [ge]
    by_cases g : kindL s.r = k
    · have f1 : (kindL s.r == k) = true := by simp [g]
      have hne := kind_ne hk0 g
      have hlt' : i < T.length := by
        rcases Nat.lt_or_ge i T.length with h | h
        · exact h
        · exact absurd (hr.trans (List.drop_eq_nil_of_le h)) hne
      have hto : tokD (lastOf 1 T) k s = (tokO s.r, s.next) := if_pos ⟨ge, g⟩
      obtain ⟨gg, o, rfl, hg, htk⟩ := ht.resolve_left (by rintro rfl; simp at hlt')
      have hti := htk i hlt'
      rw [show tokO s.r = T[i] by rw [hr, List.drop_eq_getElem_cons hlt']; rfl] at hto
      generalize T[i] = y at *
      have ej : IntKind.i64.wrap ((i : Int) + 1) = (i : Int) + 1 := by rw [IntKind.wrap_i64]; omega
      have ek : IntKind.i64.wrap ((i : Int) + 1 - 1) = (i : Int) := by rw [IntKind.wrap_i64]; omega
      have b0 : (0 : Int) ≤ (i : Int) := by omega
      have b1 : (i : Int) < (T.length : Int) := by omega
      have HN := Hd hne
      have HO := Hd hto
      have nb : gg ≠ b := by omega
      have HT := Hd hti
      clear ht htk hr g hne hti hto
      have ek2 : IntKind.i64.wrap (i : Int) = (i : Int) := by rw [IntKind.wrap_i64]; omega
      go_wp2_with fail
      refine HS.out.mono ?_
      rintro e W2 ⟨rfl, hb⟩
      have d1 := later' hb c1
      have d0 := later' hb c0
      have hP2 := HX.out.2.1.later hb
      have hD := HX.out.2.2.below hb
      have x0 := later' hb HT.out.1
      have x1 := later' hb HT.out.2.1
      have x2 := later' hb HT.out.2.2.1
      have x3 := later' hb HT.out.2.2.2.1
      have x4 := later' hb HT.out.2.2.2.2
      have y1 := hP2.z 1
      have H2 := Hd (Ai (onB' HX.out.1 hb) (hP2.next d1 HN.out))
      have hgs := set_grown W2 b 1 (.int .i64 ((i : Int) + 1))
      have HD := Hd (hD.grown hgs (by omega))
      have e0 := (at_oth W2 b 1 0 (.int .i64 ((i : Int) + 1)) (by decide)).trans d0
      have e1 := at_sam (.int .i64 ((i : Int) + 1)) d1
      replace x0 := hgs.cell x0 (by simpa using nb)
      replace x1 := hgs.cell x1 (by simpa using nb)
      replace x2 := hgs.cell x2 (by simpa using nb)
      replace x3 := hgs.cell x3 (by simpa using nb)
      replace x4 := hgs.cell x4 (by simpa using nb)
      have HG := Hd (Gt (grown_of (b := b) H2.out.1) hgs)
      clear hb hD hP2 HS HX c0 c1 c2 c3 hgs
      go_wp2_with fail
      generalize (W2.setCell ⟨b, 1, none⟩ (.int .i64 ((i : Int) + 1))) = W3 at *
      clear d0 d1 y1
      have d0 : W3.cell? ⟨w.heap.size, 0, none⟩ = some _ := HD.out.1 0 _ rfl
      have z0 := HD.out.2 0
      have d1 : W3.cell? ⟨w.heap.size, 1, none⟩ = some _ := HD.out.1 1 _ rfl
      have z1 := HD.out.2 1
      have d2 : W3.cell? ⟨w.heap.size, 2, none⟩ = some _ := HD.out.1 2 _ rfl
      have z2 := HD.out.2 2
      have d3 : W3.cell? ⟨w.heap.size, 3, none⟩ = some _ := HD.out.1 3 _ rfl
      have z3 := HD.out.2 3
      have d4 : W3.cell? ⟨w.heap.size, 4, none⟩ = some _ := HD.out.1 4 _ rfl
      have z4 := HD.out.2 4
      go_still_tail 11, (by kernel_rfl)
      change wpList _ _ _ _ _ W3.drew
      have D0 : W3.drew.cell? ⟨w.heap.size, 0, none⟩ = some (.int .i64 0) := d0
      have D1 : W3.drew.cell? ⟨w.heap.size, 1, none⟩ = some (.string ⟨#[]⟩) := d1
      have D2 : W3.drew.cell? ⟨w.heap.size, 2, none⟩ = some (.bool false) := d2
      have D3 : W3.drew.cell? ⟨w.heap.size, 3, none⟩ = some (.int .u64 0) := d3
      have D4 : W3.drew.cell? ⟨w.heap.size, 4, none⟩ = some (.int .i64 0) := d4
      have Z0 : W3.drew.frozen? ⟨w.heap.size, 0, none⟩ = false := z0
      have Z1 : W3.drew.frozen? ⟨w.heap.size, 1, none⟩ = false := z1
      have Z2 : W3.drew.frozen? ⟨w.heap.size, 2, none⟩ = false := z2
      have Z3 : W3.drew.frozen? ⟨w.heap.size, 3, none⟩ = false := z3
      have Z4 : W3.drew.frozen? ⟨w.heap.size, 4, none⟩ = false := z4
      have HG4 := Hd (Gt HG.out (grown_of (b := b) ((Below.refl W3.heap.size W3).drew)))
      have HP4 := Hd (H2.out.2.later ((Below.refl W3.heap.size W3).drew))
      clear d0 d1 d2 d3 d4 z0 z1 z2 z3 z4 e0 e1 x0 x1 x2 x3 x4
      generalize W3.drew = W4 at *
      go_wp2_with fail
      obtain ⟨v0, v1, v2, v3, v4⟩ := set5 D0 D1 D2 D3 D4 (.int .i64 y.1.k) (.string (tx y.1.t)) (.bool y.1.f) (.int .u64 y.1.x) (.int .i64 y.2)
      refine bodyPost_ret (v := .agg #[.int .i64 y.1.k, .string (tx y.1.t), .bool y.1.f, .int .u64 y.1.x, .int .i64 y.2]) (by simp [results, Try.results54, go_sem, v0, v1, v2, v3, v4]) rfl ?_
      rw [HO.out]
      exact ⟨rfl, HP4.out.over5 (p := w.heap.size) hlt _ _ _ _ _, grown_new5 HG4.out Nr _ _ _ _ _⟩
    · have f1 : (kindL s.r == k) = false := by simp [g]
      have HO := Hd (show tokD (lastOf 1 T) k s = (tokO [], s.bad (lastOf 1 T) 3) from if_neg (fun h => g h.2))
      clear ht hr g
      go_wp2_with fail
      refine HS.out.mono ?_
      rintro e W2 ⟨rfl, hb⟩
      have HF := Hd (dfault_any b T s 3 W2 (HX.out.2.1.later hb))
      have H2 := Hd (Ai (onB' HX.out.1 hb) (HX.out.2.2.below hb))
      clear hb HS HX c0 c1 c2 c3
      go_wp2_with fail
      refine HF.out.mono ?_
      rintro e W3 ⟨rfl, h3, hg3⟩
      have HD := Hd (H2.out.2.grown hg3 (by omega))
      have HE := Hd (Ai h3 (Gt (grown_of (b := b) H2.out.1) hg3))
      clear h3 hg3 HF H2
      have d0 : W3.cell? ⟨w.heap.size, 0, none⟩ = some _ := HD.out.1 0 _ rfl
      have z0 := HD.out.2 0
      have d1 : W3.cell? ⟨w.heap.size, 1, none⟩ = some _ := HD.out.1 1 _ rfl
      have z1 := HD.out.2 1
      have d2 : W3.cell? ⟨w.heap.size, 2, none⟩ = some _ := HD.out.1 2 _ rfl
      have z2 := HD.out.2 2
      have d3 : W3.cell? ⟨w.heap.size, 3, none⟩ = some _ := HD.out.1 3 _ rfl
      have z3 := HD.out.2 3
      have d4 : W3.cell? ⟨w.heap.size, 4, none⟩ = some _ := HD.out.1 4 _ rfl
      have z4 := HD.out.2 4
      go_wp2_with fail
      obtain ⟨v0, v1, v2, v3, v4⟩ := set5 d0 d1 d2 d3 d4 (.int .i64 0) (.string ⟨#[]⟩) (.bool false) (.int .u64 0) (.int .i64 0)
      refine bodyPost_ret (v := .agg #[.int .i64 0, .string ⟨#[]⟩, .bool false, .int .u64 0, .int .i64 0]) (by simp [results, Try.results54, go_sem, v0, v1, v2, v3, v4]) rfl ?_
      rw [HO.out]
      exact ⟨rfl, HE.out.1.over5 hlt _ _ _ _ _, grown_new5 HE.out.2 Nr _ _ _ _ _⟩
  · have f0 : (s.e == 0) = false := by simp [ge]
    have HO := Hd (show tokD (lastOf 1 T) k s = (tokO [], s.bad (lastOf 1 T) 3) from if_neg (fun h => ge h.1))
    have HF := Hd (dfault_any b T s 3 W HX.out.2.1)
    have H2 := Hd HX.out.2.2
    have H1 := Hd HX.out.1
    clear ht hr HS HX
    go_wp2_with fail
    refine HF.out.mono ?_
    rintro e W3 ⟨rfl, h3, hg3⟩
    have HD := Hd (H2.out.grown hg3 (by omega))
    have HE := Hd (Ai h3 (Gt (grown_of (b := b) H1.out) hg3))
    clear h3 hg3 HF H2 c0 c1 c2 c3
    have d0 : W3.cell? ⟨w.heap.size, 0, none⟩ = some _ := HD.out.1 0 _ rfl
    have z0 := HD.out.2 0
    have d1 : W3.cell? ⟨w.heap.size, 1, none⟩ = some _ := HD.out.1 1 _ rfl
    have z1 := HD.out.2 1
    have d2 : W3.cell? ⟨w.heap.size, 2, none⟩ = some _ := HD.out.1 2 _ rfl
    have z2 := HD.out.2 2
    have d3 : W3.cell? ⟨w.heap.size, 3, none⟩ = some _ := HD.out.1 3 _ rfl
    have z3 := HD.out.2 3
    have d4 : W3.cell? ⟨w.heap.size, 4, none⟩ = some _ := HD.out.1 4 _ rfl
    have z4 := HD.out.2 4
    go_wp2_with fail
    obtain ⟨v0, v1, v2, v3, v4⟩ := set5 d0 d1 d2 d3 d4 (.int .i64 0) (.string ⟨#[]⟩) (.bool false) (.int .u64 0) (.int .i64 0)
    refine bodyPost_ret (v := .agg #[.int .i64 0, .string ⟨#[]⟩, .bool false, .int .u64 0, .int .i64 0]) (by simp [results, Try.results54, go_sem, v0, v1, v2, v3, v4]) rfl ?_
    rw [HO.out]
    exact ⟨rfl, HE.out.1.over5 hlt _ _ _ _ _, grown_new5 HE.out.2 Nr _ _ _ _ _⟩
def NmsV (lo : Nat) (o : List Nm) (e : Ending) (w : World) : Prop := ∃ v, e = .returned v ∧ w.ownsRow lo 9 1 v o.length (namesV o)
theorem mS_le {T : List Tok} {w : World} {b : Nat} {s : St} (h : PAt w b T s) : mS s ≤ T.length + 1 := by
  obtain ⟨i, -, hr, -⟩ := h.c1
  unfold mS
  split
  · rw [hr, List.length_drop]; omega
  · exact Nat.zero_le _
theorem loop_go {ll : Int} {fu : Nat} {bl : Bool} {acc : List Nm} {s : St} (he : s.e = 0) (h : bl = true ∨ kindL s.r = 1) : loopN ll (fu + 1) bl acc s = loopN ll fu false (acc ++ [(tokD ll 1 s).1.1.t]) (tokD ll 1 s).2 := by
  conv => lhs; unfold loopN
  exact if_pos ⟨he, h⟩
theorem loop_no {ll : Int} {fu : Nat} {bl : Bool} {acc : List Nm} {s : St} (h : ¬ (s.e = 0 ∧ (bl = true ∨ kindL s.r = 1))) : loopN ll (fu + 1) bl acc s = (acc, s) := by
  conv => lhs; unfold loopN
  exact if_neg h
theorem dnames_any (b : Nat) (T : List Tok) (s : St) (l : Bool) (w : World) (hP : PAt w b T s) : Calls Try.prog 56 #[.pointer (some ⟨b, 0, none⟩), .int .i64 (if l = true then 1 else 0)] w (DSaid b T (NmsV w.heap.size) (namesD (lastOf 1 T) l s) w) := by
  have hbw : b < w.heap.size := hP.lt
  have HE := Hd hP
  obtain ⟨i0, hi0, hz0, hzs, hzb⟩ := info_parts Try.info_text
  clear hP
  generalize hq : (if l = true then (1 : Int) else 0) = ql
  have HQL := Hd hq
  clear hq
  go_enter Try.func56, Try.ntmps56
  go_wp2_with fail
  go_loopw [1, 5] (fun s1 s3 wr => ∃ (s' : St) (acc : List Nm) (vv : Value) (bl : Bool) (fu : Nat), s1 = .int .i64 (if bl = true then 1 else 0) ∧ vv = s3 ∧ PAt wr b T s' ∧ w.grownBy wr (some b) ∧ mS s' < fu ∧ loopN (lastOf 1 T) fu bl acc s' = namesD (lastOf 1 T) l s ∧ acc.length + mS s' ≤ mS s ∧ wr.ownsRow w.heap.size 9 1 vv acc.length (namesV acc)) (fun _ _ wr => stM T.length b wr)
  case atStart => exact ⟨s, [], _, l, _, by rw [HQL.out], rfl, HE.out, grown_of Br, by unfold mS; split <;> omega, rfl, by simp, World.ownsRow_nil _ _ _ _⟩
  case round =>
    obtain ⟨s', acc, vv, bl, fu, rfl, rfl, hP, hg, hfu, hN, hn, hown⟩ := hrel
    obtain ⟨aa, cc, rfl, hlow⟩ := own_shape hown
    obtain ⟨fu', rfl⟩ : ∃ q, fu = q + 1 := ⟨fu - 1, by omega⟩
    have c2 := hP.c2
    have HS0 := Hd hP
    have HQ := Hd (Ai hfu hn)
    have HF := Hd hlow
    clear hfu hn hlow
    by_cases ge : s'.e = 0
    · have f0 : (s'.e == 0) = true := by simp [ge]
      have HG := Hd ge
      cases bl with
      | true =>
        simp only [if_true]
        rw [loop_go ge (Or.inl rfl)] at hN
        have HN := Hd hN
        have HW := Hd (Ai hP (Ai hg hown))
        clear hN ge hP hg hown
        have hmx := mS_le HE.out
        have hm1 := mS_alive HG.out
        have hlt1 := tok_lt (ll := (lastOf 1 T)) (k := 1) (by decide) HG.out
        have HTK := Hd (dtok_any b T s' 1 (by decide) wr HW.out.1)
        have HG2 := Hd hlt1
        clear hlt1
        go_wp2_with fail
        refine HTK.out.mono ?_
        rintro e w3 ⟨hv3, hP3, hg3⟩
        have hN := HN.out
        generalize tokD (lastOf 1 T) 1 s' = R at *
        obtain ⟨y, s2⟩ := R
        simp only at hv3 hP3 hN
        unfold TokV at hv3
        subst hv3
        have H3 := Hd (Ai hP3 (Gt HW.out.2.1 hg3))
        have HO3 := Hd (own_kept HW.out.2.2 hg3 (fun e => by have := HF.out b e; omega))
        have hwz : w.heap.size ≤ w3.heap.size := H3.out.2.size
        have hf1 := fun W => tok_field1 y.1.k (tx y.1.t) y.1.f y.1.x y.2 W
        have one1 : ∀ u ∈ [Value.string (tx y.1.t)], u.oneCell' = true := by intro u hu; simp at hu; rw [hu]; rfl
        have hTn := HE.out.n
        have hn := HQ.out.2
        have m9 : acc.length + 1 ≤ maxLen := by unfold maxLen; omega
        have m8 : (acc.length + 1) * 16 ≤ 140737488355328 := by omega
        have HN3 := Hd hN
        clear hP3 hg3 HTK hN
        go_wp2_with (at_builtin; refine wpList_append_lies _ rfl _ _ 22 rfl w.heap.size 9 i0 (.string ⟨#[]⟩) 1 16 Try.underlying22 hi0 hz0 hzs hzb rfl (by decide) (.slice aa acc.length cc) acc.length (namesV acc) rfl (HO3.out.alloc _) ⟨w3.heap.size, 0, none⟩ 1 1 [.string (tx y.1.t)] rfl rfl (World.news_of_block (heap_alloc_new _ _)) one1 (by decide) m9 m8 (by simp; omega) _ rfl ?_; intro g9 cap9 w9 o1 o2 o3 o4)
        have hxx := (Below.refl w3.heap.size w3).alloc Nr (.cells #[.string (tx y.1.t)] 9)
        obtain ⟨q, hq, hg9⟩ := grown_some (b := b) o2 (fun g e => by have := HF.out g e; omega)
        have hlt2 : mS s2 < mS s' := HG2.out
        have hfu := HQ.out.1
        have hP9 := (H3.out.1.later hxx).past hg9 hq
        refine ⟨⟨s2, acc ++ [y.1.t], _, false, fu', rfl, rfl, hP9, grown_past (Gt H3.out.2 (grown_of hxx)) o2 HF.out, by omega, HN3.out, by simp; omega, ?_⟩, ?_⟩
        · simpa [namesV] using o1
        · rw [hP9.m, HS0.out.m]; exact hlt2
      | false =>
        have HK := Hd (dkind_any b T s' wr hP)
        have HN0 := Hd hN
        have HW0 := Hd (Ai hP (Ai hg hown))
        clear hN hP hg hown
        go_wp2_with fail
        refine HK.out.mono ?_
        rintro e w2 ⟨rfl, hb⟩
        have HW := Hd (Ai (HW0.out.1.later hb) (Ai (Gt HW0.out.2.1 (grown_of (b := b) hb)) (own_below HW0.out.2.2 hb)))
        clear hb c2 HK
        have hN := HN0.out
        by_cases gk : kindL s'.r = 1
        · have f1 : (kindL s'.r == 1) = true := by simp [gk]
          rw [loop_go ge (Or.inr gk)] at hN
          have HN := Hd hN
          clear hN ge gk
          have hmx := mS_le HE.out
          have hm1 := mS_alive HG.out
          have hlt1 := tok_lt (ll := (lastOf 1 T)) (k := 1) (by decide) HG.out
          have HTK := Hd (dtok_any b T s' 1 (by decide) w2 HW.out.1)
          have HG2 := Hd hlt1
          clear hlt1
          go_wp2_with fail
          refine HTK.out.mono ?_
          rintro e w3 ⟨hv3, hP3, hg3⟩
          have hN := HN.out
          generalize tokD (lastOf 1 T) 1 s' = R at *
          obtain ⟨y, s2⟩ := R
          simp only at hv3 hP3 hN
          unfold TokV at hv3
          subst hv3
          have H3 := Hd (Ai hP3 (Gt HW.out.2.1 hg3))
          have HO3 := Hd (own_kept HW.out.2.2 hg3 (fun e => by have := HF.out b e; omega))
          have hwz : w.heap.size ≤ w3.heap.size := H3.out.2.size
          have hf1 := fun W => tok_field1 y.1.k (tx y.1.t) y.1.f y.1.x y.2 W
          have one1 : ∀ u ∈ [Value.string (tx y.1.t)], u.oneCell' = true := by intro u hu; simp at hu; rw [hu]; rfl
          have hTn := HE.out.n
          have hn := HQ.out.2
          have m9 : acc.length + 1 ≤ maxLen := by unfold maxLen; omega
          have m8 : (acc.length + 1) * 16 ≤ 140737488355328 := by omega
          have HN3 := Hd hN
          clear hP3 hg3 HTK hN
          go_wp2_with (at_builtin; refine wpList_append_lies _ rfl _ _ 22 rfl w.heap.size 9 i0 (.string ⟨#[]⟩) 1 16 Try.underlying22 hi0 hz0 hzs hzb rfl (by decide) (.slice aa acc.length cc) acc.length (namesV acc) rfl (HO3.out.alloc _) ⟨w3.heap.size, 0, none⟩ 1 1 [.string (tx y.1.t)] rfl rfl (World.news_of_block (heap_alloc_new _ _)) one1 (by decide) m9 m8 (by simp; omega) _ rfl ?_; intro g9 cap9 w9 o1 o2 o3 o4)
          have hxx := (Below.refl w3.heap.size w3).alloc Nr (.cells #[.string (tx y.1.t)] 9)
          obtain ⟨q, hq, hg9⟩ := grown_some (b := b) o2 (fun g e => by have := HF.out g e; omega)
          have hlt2 : mS s2 < mS s' := HG2.out
          have hfu := HQ.out.1
          have hP9 := (H3.out.1.later hxx).past hg9 hq
          refine ⟨⟨s2, acc ++ [y.1.t], _, false, fu', rfl, rfl, hP9, grown_past (Gt H3.out.2 (grown_of hxx)) o2 HF.out, by omega, HN3.out, by simp; omega, ?_⟩, ?_⟩
          · simpa [namesV] using o1
          · rw [hP9.m, HS0.out.m]; exact hlt2
        · have f1 : (kindL s'.r == 1) = false := by simp [gk]
          rw [loop_no (by rintro ⟨-, h | h⟩; cases h; exact gk h)] at hN
          have HN := Hd hN
          clear hN ge gk
          go_wp2_with fail
          refine bodyPost_ret (v := .slice aa acc.length cc) (by simp [results, Try.results56, go_sem]) rfl ?_
          rw [← HN.out]
          exact ⟨⟨_, rfl, HW.out.2.2⟩, HW.out.1, HW.out.2.1⟩
    · have f0 : (s'.e == 0) = false := by simp [ge]
      rw [loop_no (fun h => ge h.1)] at hN
      have HN := Hd hN
      have HW := Hd (Ai hP (Ai hg hown))
      clear hN hP hg hown
      generalize (if bl = true then (1 : Int) else 0) = q2
      go_wp2_with fail
      refine bodyPost_ret (v := .slice aa acc.length cc) (by simp [results, Try.results56, go_sem]) rfl ?_
      rw [← HN.out]
      exact ⟨⟨_, rfl, HW.out.2.2⟩, HW.out.1, HW.out.2.1⟩
theorem dstarts_any (b : Nat) (T : List Tok) (s : St) (w : World) (hP : PAt w b T s) : Calls Try.prog 64 #[.pointer (some ⟨b, 0, none⟩)] w (fun e w' => e = .returned (.bool (decide (startsL s.r))) ∧ Below w.heap.size w w') := by
  have HK := Hd (dkind_any b T s w hP)
  have HP := Hd hP
  clear hP
  go_enter Try.func64, Try.ntmps64
  go_wp2_with fail
  refine HK.out.mono ?_
  rintro e w2 ⟨rfl, hb⟩
  have HB2 := Hd hb
  clear hb HK
  by_cases hk : kindL s.r = 1
  · have hs : startsL s.r := Or.inl hk
    have HS := Hd (decide_eq_true hs)
    have kk : (kindL s.r == 1) = true := by simp [hk]
    clear hk hs
    go_wp2_with fail
    go_ret
    exact ⟨by rw [HS.out]; rfl, HB2.out⟩
  have HN1 := Hd hk
  have k1 : (kindL s.r == 1) = false := by simp [hk]
  clear hk
  by_cases hk : kindL s.r = 2
  · have hs : startsL s.r := Or.inr (Or.inl hk)
    have HS := Hd (decide_eq_true hs)
    have kk : (kindL s.r == 2) = true := by simp [hk]
    clear hk hs
    go_wp2_with fail
    go_ret
    exact ⟨by rw [HS.out]; rfl, HB2.out⟩
  have HN2 := Hd hk
  have k2 : (kindL s.r == 2) = false := by simp [hk]
  clear hk
  by_cases hk : kindL s.r = 3
  · have hs : startsL s.r := Or.inr (Or.inr (Or.inl hk))
    have HS := Hd (decide_eq_true hs)
    have kk : (kindL s.r == 3) = true := by simp [hk]
    clear hk hs
    go_wp2_with fail
    go_ret
    exact ⟨by rw [HS.out]; rfl, HB2.out⟩
  have HN3 := Hd hk
  have k3 : (kindL s.r == 3) = false := by simp [hk]
  clear hk
  by_cases hk : kindL s.r = 7
  · have hs : startsL s.r := Or.inr (Or.inr (Or.inr (Or.inl hk)))
    have HS := Hd (decide_eq_true hs)
    have kk : (kindL s.r == 7) = true := by simp [hk]
    clear hk hs
    go_wp2_with fail
    go_ret
    exact ⟨by rw [HS.out]; rfl, HB2.out⟩
  have HN7 := Hd hk
  have k7 : (kindL s.r == 7) = false := by simp [hk]
  clear hk
  have hc := dsees_any b T s [108, 101, 116] w2 (HP.out.later HB2.out)
  cases hq : seesL [108, 101, 116] s.r with
  | true =>
    have hs : startsL s.r := Or.inr (Or.inr (Or.inr (Or.inr (Or.inl hq))))
    have HS := Hd (decide_eq_true hs)
    rw [hq] at hc
    have HC := Hd hc
    clear hq hs hc
    go_wp2_with fail
    refine HC.out.mono ?_
    rintro e w3 ⟨rfl, hb⟩
    have HBn := Hd (onB' HB2.out hb)
    clear hb HC
    go_wp2_with fail
    go_ret
    exact ⟨by rw [HS.out]; rfl, HBn.out⟩
  | false =>
    rw [hq] at hc
    have HC := Hd hc
    have HQ0 := Hd hq
    clear hq hc
    go_wp2_with fail
    refine HC.out.mono ?_
    rintro e w3 ⟨rfl, hb⟩
    have HB3 := Hd (onB' HB2.out hb)
    clear hb HC
    have hc := dsees_any b T s [99, 97, 115, 101] w3 (HP.out.later HB3.out)
    cases hq : seesL [99, 97, 115, 101] s.r with
    | true =>
      have hs : startsL s.r := Or.inr (Or.inr (Or.inr (Or.inr (Or.inr (Or.inl hq)))))
      have HS := Hd (decide_eq_true hs)
      rw [hq] at hc
      have HC := Hd hc
      clear hq hs hc
      go_wp2_with fail
      refine HC.out.mono ?_
      rintro e w4 ⟨rfl, hb⟩
      have HBn := Hd (onB' HB3.out hb)
      clear hb HC
      go_wp2_with fail
      go_ret
      exact ⟨by rw [HS.out]; rfl, HBn.out⟩
    | false =>
      rw [hq] at hc
      have HC := Hd hc
      have HQ1 := Hd hq
      clear hq hc
      go_wp2_with fail
      refine HC.out.mono ?_
      rintro e w4 ⟨rfl, hb⟩
      have HB4 := Hd (onB' HB3.out hb)
      clear hb HC
      have hc := dsees_any b T s [40] w4 (HP.out.later HB4.out)
      cases hq : seesL [40] s.r with
      | true =>
        have hs : startsL s.r := Or.inr (Or.inr (Or.inr (Or.inr (Or.inr (Or.inr (Or.inl hq))))))
        have HS := Hd (decide_eq_true hs)
        rw [hq] at hc
        have HC := Hd hc
        clear hq hs hc
        go_wp2_with fail
        refine HC.out.mono ?_
        rintro e w5 ⟨rfl, hb⟩
        have HBn := Hd (onB' HB4.out hb)
        clear hb HC
        go_wp2_with fail
        go_ret
        exact ⟨by rw [HS.out]; rfl, HBn.out⟩
      | false =>
        rw [hq] at hc
        have HC := Hd hc
        have HQ2 := Hd hq
        clear hq hc
        go_wp2_with fail
        refine HC.out.mono ?_
        rintro e w5 ⟨rfl, hb⟩
        have HB5 := Hd (onB' HB4.out hb)
        clear hb HC
        have hc := dsees_any b T s [92] w5 (HP.out.later HB5.out)
        cases hq : seesL [92] s.r with
        | true =>
          have hs : startsL s.r := Or.inr (Or.inr (Or.inr (Or.inr (Or.inr (Or.inr (Or.inr hq))))))
          have HS := Hd (decide_eq_true hs)
          rw [hq] at hc
          have HC := Hd hc
          clear hq hs hc
          go_wp2_with fail
          refine HC.out.mono ?_
          rintro e w6 ⟨rfl, hb⟩
          have HBn := Hd (onB' HB5.out hb)
          clear hb HC
          go_wp2_with fail
          go_ret
          exact ⟨by rw [HS.out]; rfl, HBn.out⟩
        | false =>
          rw [hq] at hc
          have HC := Hd hc
          have HQ3 := Hd hq
          clear hq hc
          go_wp2_with fail
          refine HC.out.mono ?_
          rintro e w6 ⟨rfl, hb⟩
          have HB6 := Hd (onB' HB5.out hb)
          clear hb HC
          have HS := Hd (show decide (startsL s.r) = false from decide_eq_false (by
            rintro (h | h | h | h | h | h | h | h)
            · exact HN1.out h
            · exact HN2.out h
            · exact HN3.out h
            · exact HN7.out h
            · rw [HQ0.out] at h; cases h
            · rw [HQ1.out] at h; cases h
            · rw [HQ2.out] at h; cases h
            · rw [HQ3.out] at h; cases h))
          go_wp2_with fail
          go_ret
          exact ⟨by rw [HS.out]; rfl, HB6.out⟩
def ExprDC (b : Nat) (T : List Tok) (k : Nat) : Prop := ∀ (s : St) (w : World), PAt w b T s → Calls Try.prog 57 #[.pointer (some ⟨b, 0, none⟩), .int .i64 (201 - (k : Int))] w (DSaid b T (ExV w.heap.size) (exprD (lastOf 1 T) k s) w)
theorem expr_zero0 (b : Nat) (T : List Tok) (s : St) (w : World) (hP : PAt w b T s) : Calls Try.prog 57 #[.pointer (some ⟨b, 0, none⟩), .int .i64 201] w (DSaid b T (ExV w.heap.size) (exprD (lastOf 1 T) 0 s) w) := by
  have hlt : b < w.heap.size := hP.lt
  have hx := (Below.refl w.heap.size w).alloc Nr (.cells #[.int .i64 0, .string ⟨#[]⟩, .bool false, .int .u64 0, .slice none 0 0, .slice none 0 0, .slice none 0 0, .slice none 0 0] 34)
  have HX := Hd (Ai hx (BoxW.alloc w #[.int .i64 0, .string ⟨#[]⟩, .bool false, .int .u64 0, .slice none 0 0, .slice none 0 0, .slice none 0 0, .slice none 0 0] 34))
  have H0 := Hd (Ai (hP.later hx) (grown_of (b := b) (Below.refl (w.alloc (.cells #[.int .i64 0, .string ⟨#[]⟩, .bool false, .int .u64 0, .slice none 0 0, .slice none 0 0, .slice none 0 0, .slice none 0 0] 34)).heap.size (w.alloc (.cells #[.int .i64 0, .string ⟨#[]⟩, .bool false, .int .u64 0, .slice none 0 0, .slice none 0 0, .slice none 0 0, .slice none 0 0] 34)))))
  have HT0 := Hd hP.n
  clear hx hP
  go_enter Try.func57, Try.ntmps57
  go_upto_region 1 with fail
  have hsz0 : w.heap.size + 1 ≤ (w.alloc (.cells #[.int .i64 0, .string ⟨#[]⟩, .bool false, .int .u64 0, .slice none 0 0, .slice none 0 0, .slice none 0 0, .slice none 0 0] 34)).heap.size := by simp
  generalize (w.alloc (.cells #[.int .i64 0, .string ⟨#[]⟩, .bool false, .int .u64 0, .slice none 0 0, .slice none 0 0, .slice none 0 0, .slice none 0 0] 34)) = W at *
  have c2 := H0.out.1.c2
  by_cases ge : s.e = 0
  · have f0 : (s.e != 0) = false := by simp [ge]
    have HC := Hd (dstarts_any b T s W H0.out.1)
    go_wp2_with fail
    refine HC.out.mono ?_
    rintro e w1 ⟨rfl, hb⟩
    have HG1 := Hd (grown_of (b := b) hb)
    have hsz1 : W.heap.size ≤ w1.heap.size := hb.size
    have H1 := Hd (Ai (H0.out.1.later hb) (Gt H0.out.2 HG1.out))
    clear HC hb
    by_cases gs : startsL s.r
    · rw [decide_eq_true gs]
      have HPu := Hd (show exprD (lastOf 1 T) 0 s = (blankX, (s.bad (lastOf 1 T) 12).bad (lastOf 1 T) 3) by unfold exprD; rw [if_neg (fun h => h ge), if_pos gs])
      clear gs ge c2
      have HC := Hd (dfault_any b T (s) 12 w1 H1.out.1)
      go_wp2_with fail
      refine HC.out.mono ?_
      rintro e w2 ⟨rfl, hP, hg⟩
      have HG2 := Hd hg
      have hsz2 : w1.heap.size ≤ w2.heap.size := hg.size
      have H2 := Hd (Ai hP (Gt H1.out.2 hg))
      clear HC hP hg
      have HC := Hd (dfault_any b T ((s).bad (lastOf 1 T) 12) 3 w2 H2.out.1)
      go_wp2_with fail
      refine HC.out.mono ?_
      rintro e w3 ⟨rfl, hP, hg⟩
      have HG3 := Hd hg
      have hsz3 : w2.heap.size ≤ w3.heap.size := hg.size
      have H3 := Hd (Ai hP (Gt H2.out.2 hg))
      clear HC hP hg
      have hBp := boxw_grown HX.out.2 H3.out.2 (by omega)
      obtain ⟨d0, d1, d2, d3, d4, d5, d6, d7⟩ := (hBp).q8
      obtain ⟨z0, z1, z2, z3, z4, z5, z6, z7⟩ := (hBp).z8
      have HBp := Hd hBp
      clear hBp
      go_wp2_with fail
      have hF := ((HBp.out).b8v (.int .i64 0) (.string ⟨#[]⟩) (.bool false) (.int .u64 0) (.slice none 0 0) (.slice none 0 0) (.slice none 0 0) (.slice none 0 0))
      have v0 := hF.1 0 _ rfl
      have v1 := hF.1 1 _ rfl
      have v2 := hF.1 2 _ rfl
      have v3 := hF.1 3 _ rfl
      have v4 := hF.1 4 _ rfl
      have v5 := hF.1 5 _ rfl
      have v6 := hF.1 6 _ rfl
      have v7 := hF.1 7 _ rfl
      refine bodyPost_ret (v := .agg #[.int .i64 0, .string ⟨#[]⟩, .bool false, .int .u64 0, .slice none 0 0, .slice none 0 0, .slice none 0 0, .slice none 0 0]) (by simp [results, Try.results57, go_sem, v0, v1, v2, v3, v4, v5, v6, v7]) rfl ?_
      rw [HPu.out]
      refine ⟨⟨_, _, _, _, _, _, _, _, rfl, ExAt.leaf _ _ 0 []⟩, ((((((((H3.out.1).over hlt _).over hlt _).over hlt _).over hlt _).over hlt _).over hlt _).over hlt _).over hlt _, (grown_new (grown_new (grown_new (grown_new (grown_new (grown_new (grown_new (grown_new (Gt (grown_of (b := b) HX.out.1) H3.out.2) Nr _) Nr _) Nr _) Nr _) Nr _) Nr _) Nr _) Nr _)⟩
    · rw [decide_eq_false gs]
      have HPu := Hd (show exprD (lastOf 1 T) 0 s = (blankX, s.bad (lastOf 1 T) 3) by unfold exprD; rw [if_neg (fun h => h ge), if_neg gs])
      clear gs ge c2
      have HC := Hd (dfault_any b T (s) 3 w1 H1.out.1)
      go_wp2_with fail
      refine HC.out.mono ?_
      rintro e w2 ⟨rfl, hP, hg⟩
      have HG2 := Hd hg
      have hsz2 : w1.heap.size ≤ w2.heap.size := hg.size
      have H2 := Hd (Ai hP (Gt H1.out.2 hg))
      clear HC hP hg
      have hBp := boxw_grown HX.out.2 H2.out.2 (by omega)
      obtain ⟨d0, d1, d2, d3, d4, d5, d6, d7⟩ := (hBp).q8
      obtain ⟨z0, z1, z2, z3, z4, z5, z6, z7⟩ := (hBp).z8
      have HBp := Hd hBp
      clear hBp
      go_wp2_with fail
      have hF := ((HBp.out).b8v (.int .i64 0) (.string ⟨#[]⟩) (.bool false) (.int .u64 0) (.slice none 0 0) (.slice none 0 0) (.slice none 0 0) (.slice none 0 0))
      have v0 := hF.1 0 _ rfl
      have v1 := hF.1 1 _ rfl
      have v2 := hF.1 2 _ rfl
      have v3 := hF.1 3 _ rfl
      have v4 := hF.1 4 _ rfl
      have v5 := hF.1 5 _ rfl
      have v6 := hF.1 6 _ rfl
      have v7 := hF.1 7 _ rfl
      refine bodyPost_ret (v := .agg #[.int .i64 0, .string ⟨#[]⟩, .bool false, .int .u64 0, .slice none 0 0, .slice none 0 0, .slice none 0 0, .slice none 0 0]) (by simp [results, Try.results57, go_sem, v0, v1, v2, v3, v4, v5, v6, v7]) rfl ?_
      rw [HPu.out]
      refine ⟨⟨_, _, _, _, _, _, _, _, rfl, ExAt.leaf _ _ 0 []⟩, ((((((((H2.out.1).over hlt _).over hlt _).over hlt _).over hlt _).over hlt _).over hlt _).over hlt _).over hlt _, (grown_new (grown_new (grown_new (grown_new (grown_new (grown_new (grown_new (grown_new (Gt (grown_of (b := b) HX.out.1) H2.out.2) Nr _) Nr _) Nr _) Nr _) Nr _) Nr _) Nr _) Nr _)⟩
  · have f0 : (s.e != 0) = true := by simp [ge]
    have HPu := Hd (show exprD (lastOf 1 T) 0 s = (blankX, s) by unfold exprD; rw [if_pos ge])
    clear ge
    have hBp := boxw_grown HX.out.2 H0.out.2 (by omega)
    obtain ⟨d0, d1, d2, d3, d4, d5, d6, d7⟩ := (hBp).q8
    obtain ⟨z0, z1, z2, z3, z4, z5, z6, z7⟩ := (hBp).z8
    have HBp := Hd hBp
    clear hBp
    go_wp2_with fail
    have hF := ((HBp.out).b8v (.int .i64 0) (.string ⟨#[]⟩) (.bool false) (.int .u64 0) (.slice none 0 0) (.slice none 0 0) (.slice none 0 0) (.slice none 0 0))
    have v0 := hF.1 0 _ rfl
    have v1 := hF.1 1 _ rfl
    have v2 := hF.1 2 _ rfl
    have v3 := hF.1 3 _ rfl
    have v4 := hF.1 4 _ rfl
    have v5 := hF.1 5 _ rfl
    have v6 := hF.1 6 _ rfl
    have v7 := hF.1 7 _ rfl
    refine bodyPost_ret (v := .agg #[.int .i64 0, .string ⟨#[]⟩, .bool false, .int .u64 0, .slice none 0 0, .slice none 0 0, .slice none 0 0, .slice none 0 0]) (by simp [results, Try.results57, go_sem, v0, v1, v2, v3, v4, v5, v6, v7]) rfl ?_
    rw [HPu.out]
    refine ⟨⟨_, _, _, _, _, _, _, _, rfl, ExAt.leaf _ _ 0 []⟩, ((((((((H0.out.1).over hlt _).over hlt _).over hlt _).over hlt _).over hlt _).over hlt _).over hlt _).over hlt _, (grown_new (grown_new (grown_new (grown_new (grown_new (grown_new (grown_new (grown_new (Gt (grown_of (b := b) HX.out.1) H0.out.2) Nr _) Nr _) Nr _) Nr _) Nr _) Nr _) Nr _) Nr _)⟩
theorem expr_zero (b : Nat) (T : List Tok) : ExprDC b T 0 := fun s w hP => expr_zero0 b T s w hP
end Go.Proofs.Ytdjcdecbmeickaa
