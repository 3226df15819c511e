import Derived.Deep.RegionHeld3
import Derived.Test.YtdjcdecbmeickaaGreatDoorMg4
import Derived.Test.YtdjcdecbmeickaaGreatDoorMg5
namespace Go.Proofs.YtdjcdecbmeickaaGreatDoor
set_option maxHeartbeats 64000000
set_option maxRecDepth 100000
open Go.RowKit Go.Lib
theorem wfEs_mem : ∀ {l : List Ex}, wfEs l → ∀ b, b ∈ l → wfE b
  | e :: r, h, b, hb => by
    unfold wfEs at h
    rcases List.mem_cons.1 hb with rfl | hb
    · exact h.1
    · exact wfEs_mem h.2 b hb
theorem wfBs_mem : ∀ {l : List Bnd}, wfBs l → ∀ b, b ∈ l → wB b
  | (n, ps, e) :: r, h, b, hb => by
    unfold wfBs at h
    rcases List.mem_cons.1 hb with rfl | hb
    · exact h.1
    · exact wfBs_mem h.2 b hb
theorem wfAs_mem : ∀ {l : List Alt}, wfAs l → ∀ b, b ∈ l → wA b
  | (k, n, f, x, ns, e) :: r, h, b, hb => by
    unfold wfAs at h
    rcases List.mem_cons.1 hb with rfl | hb
    · exact h.1
    · exact wfAs_mem h.2 b hb
theorem ExAt.opened {W : World} {K : Nat → Prop} {x : Ex} {k : Int} {nm : Nm} {f : Bool} {u : Int} {ap : Option Addr} {np cp : Nat} {ak : Option Addr} {nk ck : Nat} {ab : Option Addr} {nb cb : Nat} {aa : Option Addr} {na ca : Nat} (h : ExAt W K x [.int .i64 k, .string (tx nm), .bool f, .int .u64 u, .slice ap np cp, .slice ak nk ck, .slice ab nb cb, .slice aa na ca]) : ∃ ps ks bl al xk xb xa, x = .mk k nm f u ps ks bl al ∧ np = ps.length ∧ nk = ks.length ∧ nb = bl.length ∧ na = al.length ∧
    RowAt W K 9 1 (.slice ap ps.length cp) ps.length (namesV ps) ∧ RowAt W K 57 8 (.slice ak ks.length ck) ks.length xk ∧ RowAt W K 59 10 (.slice ab bl.length cb) bl.length xb ∧ RowAt W K 135 13 (.slice aa al.length ca) al.length xa ∧ ExsAt W K ks xk ∧ BndsAt W K bl xb ∧ AltsAt W K al xa := by
  generalize hL : [Value.int .i64 k, .string (tx nm), .bool f, .int .u64 u, .slice ap np cp, .slice ak nk ck, .slice ab nb cb, .slice aa na ca] = L at h
  cases h with
  | mk k' n' f' x' ps ks bl al vp vk vb va xk xb xa hp hk hb ha tk tb ta =>
    obtain ⟨ap', cp', rfl⟩ := hp.sl
    obtain ⟨ak', ck', rfl⟩ := hk.sl
    obtain ⟨ab', cb', rfl⟩ := hb.sl
    obtain ⟨aa', ca', rfl⟩ := ha.sl
    simp only [List.cons.injEq, Value.int.injEq, Value.string.injEq, Value.bool.injEq, Value.slice.injEq, and_true, true_and] at hL
    obtain ⟨rfl, h2, rfl, rfl, ⟨rfl, rfl, rfl⟩, ⟨rfl, rfl, rfl⟩, ⟨rfl, rfl, rfl⟩, ⟨rfl, rfl, rfl⟩⟩ := hL
    obtain rfl := tx_inj h2
    exact ⟨ps, ks, bl, al, xk, xb, xa, rfl, rfl, rfl, rfl, rfl, hp, hk, hb, ha, tk, tb, ta⟩
structure NodeOk (n ns : Nat) (k : Int) (nm : Nm) (f : Bool) (u : Int) (ps : List Nm) (ks : List Ex) (bl : List Bnd) (al : List Alt) : Prop where
  sk : ∀ y, y ∈ ks → SizeOf.sizeOf y ≤ n
  sb : ∀ y, y ∈ bl → SizeOf.sizeOf y.2.2 ≤ n
  sa : ∀ y, y ∈ al → SizeOf.sizeOf y.2.2.2.2.2 ≤ n
  wk : ∀ y, y ∈ ks → wfE y
  wb : ∀ y, y ∈ bl → wB y
  wa : ∀ y, y ∈ al → wA y
  wp : Nms ps
  wn : k = 1 ∨ k = 2 ∨ k = 5 → NmOk nm
  wt : ns + ((if k = 1 then 1 else 0) + ps.length + sumN wtE ks + (bl.length + sumN nB bl) + sumN nA al) ≤ 100000
theorem NodeOk.of {n ns : Nat} {k : Int} {nm : Nm} {f : Bool} {u : Int} {ps : List Nm} {ks : List Ex} {bl : List Bnd} {al : List Alt} (hs : SizeOf.sizeOf (Ex.mk k nm f u ps ks bl al) ≤ n + 1) (hw : wfE (.mk k nm f u ps ks bl al)) (ht : ns + wtE (.mk k nm f u ps ks bl al) ≤ 100000) : NodeOk n ns k nm f u ps ks bl al := by
  unfold wfE at hw
  obtain ⟨-, -, w3, w4, w5, w6, w7, -, -⟩ := hw
  rw [wtE_mk, sumN_nB2] at ht
  simp only [Ex.mk.sizeOf_spec] at hs
  refine ⟨fun x hx => ?_, fun x hx => ?_, fun x hx => ?_, wfEs_mem w5, wfBs_mem w6, wfAs_mem w7, w4, w3, ht⟩
  · have := List.sizeOf_lt_of_mem hx
    omega
  · have := List.sizeOf_lt_of_mem hx
    obtain ⟨a, b, c⟩ := x
    simp only [Prod.mk.sizeOf_spec] at this ⊢
    omega
  · have := List.sizeOf_lt_of_mem hx
    obtain ⟨a, b, c, d, e, g⟩ := x
    simp only [Prod.mk.sizeOf_spec] at this ⊢
    omega
theorem func_made : ∀ (fn : Fn) (first cap : Array Value) (w : World), (Instr.makeFunc fn first cap).run Tryz.prog w = .ok (.func fn first cap) w := fun _ _ _ _ => rfl
theorem first_exprs (n : Nat) (hP : PlcC n) (bc nc : Nat) (cs : List Nm) (bs ns : Nat) (sc : List Nm) (ks : List Ex) (hs : ∀ y, y ∈ ks → SizeOf.sizeOf y ≤ n) (hw : ∀ y, y ∈ ks → wfE y) (hn : ns + sumN wtE ks ≤ 100000) (ak : Option Addr) (ck : Nat) (K : Nat → Prop) (xk : List Value) (W : World) (hc : NSet W bc nc cs) (hb : NSet W bs ns sc) (hr : RowAt W K 57 8 (.slice ak ks.length ck) ks.length xk) (ht : ExsAt W K ks xk) :
    Calls Tryz.prog 95 #[.slice ak ks.length ck, .func (.func 96) #[.agg #[.map (some bc), .map (some bs)]] #[]] W fun e w' => e = .returned (vErr (scEs cs sc ks)) ∧ Below W.heap.size W w' := by
  rw [scEs_first]
  exact first_expr 96 (enters_of Tryz.func96 (by kernel_rfl) rfl) bc bs (scE cs sc) ks ak ck K K xk W hr ht
    (fun j hj k nm f u ap np cp ak nk ck ab nb cb aa na ca V hV hE => hP ks[j] K V bc nc cs bs ns sc k nm f u ap np cp ak nk ck ab nb cb aa na ca (hs _ (List.getElem_mem hj)) (hw _ (List.getElem_mem hj)) (by have := sumN_mem wtE (List.getElem_mem hj); omega) (hc.later hV) (hb.later hV) hE)
theorem first_binds (n : Nat) (hP : PlcC n) (bc nc : Nat) (cs : List Nm) (bs ns : Nat) (sc : List Nm) (bl : List Bnd) (hs : ∀ y, y ∈ bl → SizeOf.sizeOf y.2.2 ≤ n) (hw : ∀ y, y ∈ bl → wB y) (hn : ns + sumN nB bl ≤ 100000) (ab : Option Addr) (cb : Nat) (K K2 : Nat → Prop) (xb : List Value) (W : World) (hc : NSet W bc nc cs) (hb : NSet W bs ns sc) (hr : RowAt W K 59 10 (.slice ab bl.length cb) bl.length xb) (ht : BndsAt W K2 bl xb) :
    Calls Tryz.prog 64 #[.slice ab bl.length cb, .func (.func 65) #[.agg #[.map (some bc), .map (some bs)]] #[]] W fun e w' => e = .returned (vErr (scBs cs sc bl)) ∧ Below W.heap.size W w' := by
  rw [scBs_first]
  exact first_bind 65 (enters_of Tryz.func65 (by kernel_rfl) rfl) bc bs _ bl ab cb K K2 xb W hr ht
    (fun j hj aq cq k nm f u ap np cp ak nk ck ab nb cb aa na ca V hV hQ hE => pbind_any n hP bc nc cs bs ns sc bl[j] (hs _ (List.getElem_mem hj)) (hw _ (List.getElem_mem hj)).2 (by have := sumN_mem nB (List.getElem_mem hj); omega) aq cq k nm f u ap np cp ak nk ck ab nb cb aa na ca K2 K2 V (hc.later hV) (hb.later hV) hQ hE)
theorem first_alts (n : Nat) (hP : PlcC n) (bc nc : Nat) (cs : List Nm) (bs ns : Nat) (sc : List Nm) (al : List Alt) (hs : ∀ y, y ∈ al → SizeOf.sizeOf y.2.2.2.2.2 ≤ n) (hw : ∀ y, y ∈ al → wA y) (hn : ns + sumN nA al ≤ 100000) (aa : Option Addr) (ca : Nat) (K K2 : Nat → Prop) (xa : List Value) (W : World) (hc : NSet W bc nc cs) (hb : NSet W bs ns sc) (hr : RowAt W K 135 13 (.slice aa al.length ca) al.length xa) (ht : AltsAt W K2 al xa) :
    Calls Tryz.prog 100 #[.slice aa al.length ca, .func (.func 101) #[.agg #[.map (some bc), .map (some bs)]] #[]] W fun e w' => e = .returned (vErr (scAs cs sc al)) ∧ Below W.heap.size W w' := by
  rw [scAs_first]
  exact first_alt 101 (enters_of Tryz.func101 (by kernel_rfl) rfl) bc bs _ al aa ca K K2 xa W hr ht
    (fun j hj aq cq k nm f u ap np cp ak nk ck ab nb cb aa na ca V hV hQ hE => palt_any n hP bc nc cs bs ns sc al[j] (hs _ (List.getElem_mem hj)) (hw _ (List.getElem_mem hj)) (by have := sumN_mem nA (List.getElem_mem hj); omega) aq cq k nm f u ap np cp ak nk ck ab nb cb aa na ca K2 K2 V (hc.later hV) (hb.later hV) hQ hE)
theorem pchoice_any (n : Nat) (hP : PlcC n) (bc nc : Nat) (cs : List Nm) (bs ns : Nat) (sc : List Nm) (k : Int) (nm : Nm) (f : Bool) (u : Int) (ps : List Nm) (ks : List Ex) (bl : List Bnd) (al : List Alt) (ap : Option Addr) (cp : Nat) (ak : Option Addr) (ck : Nat) (ab : Option Addr) (cb : Nat) (aa : Option Addr) (ca : Nat) (hN : NodeOk n ns k nm f u ps ks bl al) (K : Nat → Prop) (xk xa : List Value) (w : World) (hc : NSet w bc nc cs) (hs : NSet w bs ns sc) (hk : RowAt w K 57 8 (.slice ak ks.length ck) ks.length xk) (ha : RowAt w K 135 13 (.slice aa al.length ca) al.length xa) (tk : ExsAt w K ks xk) (ta : AltsAt w K al xa) :
    Calls Tryz.prog 99 #[.agg #[.map (some bc), .map (some bs)], .agg #[.int .i64 k, .string (tx nm), .bool f, .int .u64 u, .slice ap ps.length cp, .slice ak ks.length ck, .slice ab bl.length cb, .slice aa al.length ca]] w fun e w' => e = .returned (vErr ((scEs cs sc ks).or (scAs cs sc al))) ∧ Below w.heap.size w w' := by
  have hx1 := (Below.refl w.heap.size w).alloc Nr (.cells #[.map (some bc), .map (some bs)] 131)
  have hx := hx1.alloc hx1.size (.cells #[.int .i64 k, .string (tx nm), .bool f, .int .u64 u, .slice ap ps.length cp, .slice ak ks.length ck, .slice ab bl.length cb, .slice aa al.length ca] 57)
  have hB1 := (BoxW.alloc w #[.map (some bc), .map (some bs)] 131).below (Br.alloc Nr (.cells #[.int .i64 k, .string (tx nm), .bool f, .int .u64 u, .slice ap ps.length cp, .slice ak ks.length ck, .slice ab bl.length cb, .slice aa al.length ca] 57))
  have hB2 := BoxW.alloc (w.alloc (.cells #[.map (some bc), .map (some bs)] 131)) #[.int .i64 k, .string (tx nm), .bool f, .int .u64 u, .slice ap ps.length cp, .slice ak ks.length ck, .slice ab bl.length cb, .slice aa al.length ca] 57
  rw [show (w.alloc (.cells #[.map (some bc), .map (some bs)] 131)).heap.size = w.heap.size + 1 by simp] at hB2
  have hwt := hN.wt
  have HF := Hd (first_exprs n hP bc nc cs bs ns sc ks hN.sk hN.wk (by omega) ak ck K xk ((w.alloc (.cells #[.map (some bc), .map (some bs)] 131)).alloc (.cells #[.int .i64 k, .string (tx nm), .bool f, .int .u64 u, .slice ap ps.length cp, .slice ak ks.length ck, .slice ab bl.length cb, .slice aa al.length ca] 57)) (hc.later hx) (hs.later hx) (hk.move fun g hg lt => ⟨hg, hx.block g lt⟩) (tk.move fun g hg lt => ⟨hg, hx.block g lt⟩))
  have HX := Hd (Ai hx (Ai hB1 hB2))
  have HO := Hd (Ai hc (Ai hs (Ai ha ta)))
  have hmf := func_made
  clear hx hx1 hB1 hB2 hc hs hk ha tk ta
  go_enter Tryz.func99, Tryz.ntmps99
  go_wp2_with fail
  refine HF.out.mono ?_
  rintro e w2 ⟨rfl, hb2⟩
  have HB := Hd (Ai (onB' HX.out.1 hb2) (Ai (HX.out.2.1.below hb2) (HX.out.2.2.below hb2)))
  clear hb2 HF HX
  cases hfo : scEs cs sc ks with
  | some fo =>
    obtain ⟨er, nn⟩ := fo
    have HT := Hd hfo
    unfold vErr
    clear hfo
    go_wp2_with fail
    go_ret
    exact ⟨by rw [HT.out]; rfl, HB.out.1⟩
  | none =>
    have HT := Hd hfo
    unfold vErr
    clear hfo
    have r0 : w2.cell? ⟨w.heap.size, 0, none⟩ = some (.map (some bc)) := HB.out.2.1.1 0 _ rfl
    have r1 : w2.cell? ⟨w.heap.size, 1, none⟩ = some (.map (some bs)) := HB.out.2.1.1 1 _ rfl
    have q0 : w2.cell? ⟨w.heap.size + 1, 0, none⟩ = some (.int .i64 k) := HB.out.2.2.1 0 _ rfl
    have q1 : w2.cell? ⟨w.heap.size + 1, 1, none⟩ = some (.string (tx nm)) := HB.out.2.2.1 1 _ rfl
    have q2 : w2.cell? ⟨w.heap.size + 1, 2, none⟩ = some (.bool f) := HB.out.2.2.1 2 _ rfl
    have q3 : w2.cell? ⟨w.heap.size + 1, 3, none⟩ = some (.int .u64 u) := HB.out.2.2.1 3 _ rfl
    have q4 : w2.cell? ⟨w.heap.size + 1, 4, none⟩ = some (.slice ap ps.length cp) := HB.out.2.2.1 4 _ rfl
    have q5 : w2.cell? ⟨w.heap.size + 1, 5, none⟩ = some (.slice ak ks.length ck) := HB.out.2.2.1 5 _ rfl
    have q6 : w2.cell? ⟨w.heap.size + 1, 6, none⟩ = some (.slice ab bl.length cb) := HB.out.2.2.1 6 _ rfl
    have q7 : w2.cell? ⟨w.heap.size + 1, 7, none⟩ = some (.slice aa al.length ca) := HB.out.2.2.1 7 _ rfl
    have HF2 := Hd (first_alts n hP bc nc cs bs ns sc al hN.sa hN.wa (by omega) aa ca K K xa w2 (HO.out.1.later HB.out.1) (HO.out.2.1.later HB.out.1) (HO.out.2.2.1.move fun g hg lt => ⟨hg, HB.out.1.block g lt⟩) (HO.out.2.2.2.move fun g hg lt => ⟨hg, HB.out.1.block g lt⟩))
    go_wp2_with fail
    refine HF2.out.mono ?_
    rintro e w3 ⟨rfl, hb3⟩
    have HB3 := Hd (onB' HB.out.1 hb3)
    clear hb3 HF2
    go_wp2_with fail
    go_ret
    exact ⟨by rw [HT.out]; rfl, HB3.out⟩
abbrev Apart (b : Nat) : Nat → Prop := fun g => g ≠ b
def DocC (n : Nat) : Prop :=
  ∀ (x : Ex) (b : Nat) (st : Fo) (cl : List Nm) (ac : Option Addr) (cc : Nat) (sc : List Nm) (ai : Option Addr) (ci : Nat) (W : World) (k : Int) (nm : Nm) (f : Bool) (u : Int) (ap : Option Addr) (np cp : Nat) (ak : Option Addr) (nk ck : Nat) (ab : Option Addr) (nb cb : Nat) (aa : Option Addr) (na ca : Nat), SizeOf.sizeOf x ≤ n → wfE x → sc.length + wtE x ≤ 100000 → SAt W b st (.slice ac cl.length cc) → RowAt W (Apart b) 9 1 (.slice ac cl.length cc) cl.length (namesV cl) → RowAt W (Apart b) 9 1 (.slice ai sc.length ci) sc.length (namesV sc) → ExAt W (Apart b) x [.int .i64 k, .string (tx nm), .bool f, .int .u64 u, .slice ap np cp, .slice ak nk ck, .slice ab nb cb, .slice aa na ca] →
    Calls Tryz.prog 72 #[.pointer (some ⟨b, 0, none⟩), .agg #[.int .i64 k, .string (tx nm), .bool f, .int .u64 u, .slice ap np cp, .slice ak nk ck, .slice ab nb cb, .slice aa na ca], .slice ai sc.length ci] W fun e w' => e = .returned (.tuple #[]) ∧ SAt w' b (st.or (sdE cl sc x)) (.slice ac cl.length cc) ∧ W.grownBy w' (some b)
theorem RowAt.apart {w w' : World} {b : Nat} {e : TypeId} {size n : Nat} {v : Value} {xs : List Value} (h : RowAt w (Apart b) e size v n xs) (hg : w.grownBy w' (some b)) : RowAt w' (Apart b) e size v n xs := h.past hg (fun _ hg => hg)
theorem RowAt.apartB {w w' : World} {b : Nat} {e : TypeId} {size n : Nat} {v : Value} {xs : List Value} (h : RowAt w (Apart b) e size v n xs) (hb : Below w.heap.size w w') : RowAt w' (Apart b) e size v n xs := h.move fun g hk lt => ⟨hk, hb.block g lt⟩
theorem ExAt.apart {w w' : World} {b : Nat} {x : Ex} {xs : List Value} (h : ExAt w (Apart b) x xs) (hg : w.grownBy w' (some b)) : ExAt w' (Apart b) x xs := h.move fun g hk lt => ⟨hk, hg.block g lt (by simpa using hk)⟩
theorem ExAt.apartB {w w' : World} {b : Nat} {x : Ex} {xs : List Value} (h : ExAt w (Apart b) x xs) (hb : Below w.heap.size w w') : ExAt w' (Apart b) x xs := h.move fun g hk lt => ⟨hk, hb.block g lt⟩
theorem SAt.lt {w : World} {b : Nat} {st : Fo} {vc : Value} (h : SAt w b st vc) : b < w.heap.size := h.box.lt
def sdB (cs sc : List Nm) (b : Bnd) : Fo := (twF b.2.1).or (sdE cs (sc ++ b.2.1) b.2.2)
def sdA (cs sc : List Nm) (a : Alt) : Fo := if a.1 = 0 then (hasF cs a.2.1).or ((twF a.2.2.2.2.1).or (sdE cs (sc ++ a.2.2.2.2.1) a.2.2.2.2.2)) else if a.1 = 2 then sdE cs (sc ++ [a.2.1]) a.2.2.2.2.2 else sdE cs sc a.2.2.2.2.2
theorem sdEs_first (cs sc : List Nm) : ∀ (l : List Ex), sdEs cs sc l = firstF (sdE cs sc) l
  | [] => by unfold sdEs firstF; rfl
  | e :: r => by unfold sdEs firstF; rw [sdEs_first cs sc r]
theorem sdBs_first (cs sc : List Nm) : ∀ (l : List Bnd), sdBs cs sc l = firstF (sdB cs sc) l
  | [] => by unfold sdBs firstF; rfl
  | (n, ps, e) :: r => by unfold sdBs firstF; rw [sdBs_first cs sc r]; rfl
theorem sdAs_first (cs sc : List Nm) : ∀ (l : List Alt), sdAs cs sc l = firstF (sdA cs sc) l
  | [] => by unfold sdAs firstF; rfl
  | (k, n, f, x, ns, e) :: r => by unfold sdAs firstF; rw [sdAs_first cs sc r]; rfl
theorem join_here (b : Nat) (sc ps : List Nm) (ai : Option Addr) (ci : Nat) (aq : Option Addr) (cq : Nat) (hn : sc.length + ps.length ≤ 100000) (W V : World) (hb : Below W.heap.size W V) (hi : RowAt W (Apart b) 9 1 (.slice ai sc.length ci) sc.length (namesV sc)) (K : Nat → Prop) (hq : RowAt V K 9 1 (.slice aq ps.length cq) ps.length (namesV ps)) :
    Calls Tryz.prog 73 #[.slice ai sc.length ci, .slice aq ps.length cq] V fun e w' => (∃ a c, e = .returned (.slice a (sc ++ ps).length c) ∧ (b < V.heap.size → RowAt w' (Apart b) 9 1 (.slice a (sc ++ ps).length c) (sc ++ ps).length (namesV (sc ++ ps)))) ∧ Below V.heap.size V w' := by
  refine (sjoin_any sc ps _ _ (Apart b) K V hn (hi.apartB hb) hq).mono fun e w' hh => ⟨?_, hh.2⟩
  obtain ⟨⟨v, h1, ho⟩, -⟩ := hh
  rw [← List.length_append] at ho
  obtain ⟨a, c, rfl, -⟩ := own_shape ho
  exact ⟨a, c, h1, fun hbv => RowAt.of ho (fun g hg => by show g ≠ b; omega)⟩
theorem sbinds_any (n : Nat) (hP : DocC n) (b : Nat) (st : Fo) (cl : List Nm) (ac : Option Addr) (cc : Nat) (sc : List Nm) (ai : Option Addr) (ci : Nat) (l : List Bnd) (hz : ∀ y, y ∈ l → SizeOf.sizeOf y.2.2 ≤ n) (hw : ∀ y, y ∈ l → wB y) (hn : sc.length + sumN nB l ≤ 100000) (a : Option Addr) (c : Nat) (xs : List Value) (w : World) (hS : SAt w b st (.slice ac cl.length cc)) (hc : RowAt w (Apart b) 9 1 (.slice ac cl.length cc) cl.length (namesV cl)) (hi : RowAt w (Apart b) 9 1 (.slice ai sc.length ci) sc.length (namesV sc)) (hr : RowAt w (Apart b) 59 10 (.slice a l.length c) l.length xs) (ht : BndsAt w (Apart b) l xs) :
    Calls Tryz.prog 38 #[.pointer (some ⟨b, 0, none⟩), .slice a l.length c, .slice ai sc.length ci] w fun e w' => e = .returned (.tuple #[]) ∧ SAt w' b (st.or (sdBs cl sc l)) (.slice ac cl.length cc) ∧ w.grownBy w' (some b) := by
  have HO := Hd (Ai hr (Ai ht (Ai hc hi)))
  have HS := Hd hS
  have HQ := Hd (Ai hz hw)
  have hmx := hr.cap
  unfold maxLen at hmx
  clear hr ht hc hi hS hz hw
  rw [sdBs_first]
  go_enter Tryz.func38, Tryz.ntmps38
  go_wp2_with fail
  go_loopw [6] (fun s wr => ∃ j : Nat, j ≤ l.length ∧ s = .int .i64 j ∧ SAt wr b (st.or (firstF (sdB cl sc) (l.take j))) (.slice ac cl.length cc) ∧ w.grownBy wr (some b)) (fun s _ => l.length - (RowKit.intOf s).toNat)
  case atStart => exact ⟨0, Nat.zero_le _, rfl, by rw [List.take_zero, show firstF (sdB cl sc) [] = none from rfl, or_nil_l]; exact HS.out, grown_of Br⟩
  case round =>
    obtain ⟨j, hj, rfl, hs1, hg1⟩ := hrel
    have HR := Hd (Ai hs1 hg1)
    clear hs1 hg1
    by_cases gj : j < l.length
    · have gj' : (j : Int) < (l.length : Int) := by omega
      obtain ⟨aq, cq, k, nm, f, u, ap, np, cp, ak, nk, ck, ab, nb, cb, aa, na, ca, hQ, hE, hcs⟩ := HO.out.2.1.cells j gj
      obtain ⟨g1, o1, ea1, k1, m1', hgb, ht1⟩ := (HO.out.1.apart HR.out.2).at (by omega)
      subst ea1
      have HP := Hd (fun i v h => ht1 _ _ (hcs i v h))
      have HT := Hd (show l.take (j + 1) = l.take j ++ [l[j]] from List.take_succ_eq_append_getElem gj)
      have HF := Hd (show firstF (sdB cl sc) (l.take (j + 1)) = (firstF (sdB cl sc) (l.take j)).or ((twF l[j].2.1).or (sdE cl (sc ++ l[j].2.1) l[j].2.2)) by rw [HT.out, firstF_snoc]; rfl)
      have HZ := Hd (Ai (HQ.out.1 _ (List.getElem_mem gj)) (Ai (HQ.out.2 _ (List.getElem_mem gj)) (sumN_mem nB (List.getElem_mem gj))))
      have HE := Hd (Ai (hQ.apart HR.out.2) (hE.apart HR.out.2))
      clear ht1 hcs hQ hE HT
      generalize l[j].1 = nb0 at *
      obtain ⟨body, hbody⟩ : ∃ body, body = l[j].2.2 := ⟨_, rfl⟩
      obtain ⟨ps, hps⟩ : ∃ ps, ps = l[j].2.1 := ⟨_, rfl⟩
      have hwt : sc.length + (1 + ps.length + wtE body) ≤ 100000 := by rw [hps, hbody]; have h : 1 + l[j].2.1.length + wtE l[j].2.2 ≤ sumN nB l := HZ.out.2.2; omega
      have HZ2 := Hd (show SizeOf.sizeOf body ≤ n ∧ wfE body from ⟨by rw [hbody]; exact HZ.out.1, by rw [hbody]; exact HZ.out.2.1.2.2⟩)
      rw [← hps, ← hbody] at HF HE
      rw [← hps] at HP
      clear HZ hps hbody
      have p10 : wr.cell? ⟨g1, o1 + j * 10 + 1, none⟩ = some (.slice aq ps.length cq) := by rw [Nat.add_assoc]; exact HP.out 1 _ rfl
      have p20 : wr.cell? ⟨g1, o1 + j * 10 + 2, none⟩ = some (.int .i64 k) := by rw [Nat.add_assoc]; exact HP.out 2 _ rfl
      have p30 : wr.cell? ⟨g1, o1 + j * 10 + 3, none⟩ = some (.string (tx nm)) := by rw [Nat.add_assoc]; exact HP.out 3 _ rfl
      have p40 : wr.cell? ⟨g1, o1 + j * 10 + 4, none⟩ = some (.bool f) := by rw [Nat.add_assoc]; exact HP.out 4 _ rfl
      have p50 : wr.cell? ⟨g1, o1 + j * 10 + 5, none⟩ = some (.int .u64 u) := by rw [Nat.add_assoc]; exact HP.out 5 _ rfl
      have p60 : wr.cell? ⟨g1, o1 + j * 10 + 6, none⟩ = some (.slice ap np cp) := by rw [Nat.add_assoc]; exact HP.out 6 _ rfl
      have p70 : wr.cell? ⟨g1, o1 + j * 10 + 7, none⟩ = some (.slice ak nk ck) := by rw [Nat.add_assoc]; exact HP.out 7 _ rfl
      have p80 : wr.cell? ⟨g1, o1 + j * 10 + 8, none⟩ = some (.slice ab nb cb) := by rw [Nat.add_assoc]; exact HP.out 8 _ rfl
      have p90 : wr.cell? ⟨g1, o1 + j * 10 + 9, none⟩ = some (.slice aa na ca) := by rw [Nat.add_assoc]; exact HP.out 9 _ rfl
      have ej : IntKind.i64.wrap ((j : Int) + 1) = (j : Int) + 1 := by rw [IntKind.wrap_i64]; omega
      have b0 : (0 : Int) ≤ (j : Int) := by omega
      have HTw := Hd (stwice_any b (st.or (firstF (sdB cl sc) (l.take j))) (.slice ac cl.length cc) ps aq cq (Apart b) (fun _ h => h) wr HR.out.1 HE.out.1)
      go_wp2_with fail
      refine HTw.out.mono ?_
      rintro e w4 ⟨rfl, hs4, hg4⟩
      have H4 := Hd (Ai hs4 (Gt HR.out.2 hg4))
      have HL := Hd hs4.lt
      have HE4 := Hd (Ai (HE.out.1.apart hg4) (HE.out.2.apart hg4))
      have p1 := hg4.cell p10 (by simpa using hgb)
      have p2 := hg4.cell p20 (by simpa using hgb)
      have p3 := hg4.cell p30 (by simpa using hgb)
      have p4 := hg4.cell p40 (by simpa using hgb)
      have p5 := hg4.cell p50 (by simpa using hgb)
      have p6 := hg4.cell p60 (by simpa using hgb)
      have p7 := hg4.cell p70 (by simpa using hgb)
      have p8 := hg4.cell p80 (by simpa using hgb)
      have p9 := hg4.cell p90 (by simpa using hgb)
      have hwt2 : sc.length + ps.length ≤ 100000 := by omega
      obtain ⟨sc2, hsc2⟩ : ∃ sc2, sc2 = sc ++ ps := ⟨_, rfl⟩
      have hwt3 : sc2.length + wtE body ≤ 100000 := by rw [hsc2, List.length_append]; omega
      have HJ := Hd (fun (V : World) (hb : Below w4.heap.size w4 V) => join_here b sc ps ai ci aq cq hwt2 w4 V hb (HO.out.2.2.2.apart H4.out.2) (Apart b) (HE4.out.1.apartB hb))
      rw [← hsc2] at HJ HF
      have HXp := Hd (fun (V : World) (a2 : Option Addr) (c2 : Nat) (hb : Below w4.heap.size w4 V) (ho : RowAt V (Apart b) 9 1 (.slice a2 sc2.length c2) sc2.length (namesV sc2)) => hP body b ((st.or (firstF (sdB cl sc) (l.take j))).or (twF ps)) cl ac cc sc2 a2 c2 V k nm f u ap np cp ak nk ck ab nb cb aa na ca HZ2.out.1 HZ2.out.2 hwt3 (H4.out.1.later hb) ((HO.out.2.2.1.apart H4.out.2).apartB hb) ho (HE4.out.2.apartB hb))
      clear hs4 hg4 HTw hsc2 p10 p20 p30 p40 p50 p60 p70 p80 p90 HE HP
      go_wp2_with fail
      go_region_held3 (fun W' => W'.cell? ⟨g1, o1 + j * 10 + 1, none⟩ = some (.slice aq ps.length cq) ∧ W'.cell? ⟨g1, o1 + j * 10 + 2, none⟩ = some (.int .i64 k) ∧ W'.cell? ⟨g1, o1 + j * 10 + 3, none⟩ = some (.string (tx nm)) ∧ W'.cell? ⟨g1, o1 + j * 10 + 4, none⟩ = some (.bool f) ∧ W'.cell? ⟨g1, o1 + j * 10 + 5, none⟩ = some (.int .u64 u) ∧ W'.cell? ⟨g1, o1 + j * 10 + 6, none⟩ = some (.slice ap np cp) ∧ W'.cell? ⟨g1, o1 + j * 10 + 7, none⟩ = some (.slice ak nk ck) ∧ W'.cell? ⟨g1, o1 + j * 10 + 8, none⟩ = some (.slice ab nb cb) ∧ W'.cell? ⟨g1, o1 + j * 10 + 9, none⟩ = some (.slice aa na ca)) (first | exact ⟨r1, r2, r3, r4, r5, r6, r7, r8, r9⟩ | exact ⟨q1, q2, q3, q4, q5, q6, q7, q8, q9⟩ | exact ⟨p1, p2, p3, p4, p5, p6, p7, p8, p9⟩ | go_keep) (first
        | (go_at_call 73
           refine (HJ.out _ ?hb).mono ?_
           case hb => exact Br.drew
           rintro e w5 ⟨⟨a2, c2, rfl, ho⟩, hb5⟩
           have H5 : Below w4.heap.size w4 w5 := onB' (Below.refl w4.heap.size w4).drew hb5
           have ho5 := ho HL.out
           have q1 := later' H5 p1
           have q2 := later' H5 p2
           have q3 := later' H5 p3
           have q4 := later' H5 p4
           have q5 := later' H5 p5
           have q6 := later' H5 p6
           have q7 := later' H5 p7
           have q8 := later' H5 p8
           have q9 := later' H5 p9
           clear ho)
        | (go_at_call 72
           refine (HXp.out w5 a2 c2 H5 ho5).mono ?_
           rintro e w6 ⟨rfl, hs6, hg6⟩
           have r1 := hg6.cell q1 (by simpa using hgb)
           have r2 := hg6.cell q2 (by simpa using hgb)
           have r3 := hg6.cell q3 (by simpa using hgb)
           have r4 := hg6.cell q4 (by simpa using hgb)
           have r5 := hg6.cell q5 (by simpa using hgb)
           have r6 := hg6.cell q6 (by simpa using hgb)
           have r7 := hg6.cell q7 (by simpa using hgb)
           have r8 := hg6.cell q8 (by simpa using hgb)
           have r9 := hg6.cell q9 (by simpa using hgb)
           have H6 := Gt (grown_of (b := b) H5) hg6))
      all_goals go_wp2_with fail
      all_goals (refine ⟨⟨j + 1, by omega, by go_num, ?_, Gt H4.out.2 H6⟩, by simp [RowKit.intOf]; omega⟩; rw [HF.out]; have h := hs6; rwa [or_assoc_f, or_assoc_f] at h)
    · obtain rfl : j = l.length := by omega
      go_wp2_with fail
      go_end0
      have h := HR.out.1
      rw [List.take_length] at h
      exact ⟨rfl, h, HR.out.2⟩
theorem salts_any (n : Nat) (hP : DocC n) (b : Nat) (st : Fo) (cl : List Nm) (ac : Option Addr) (cc : Nat) (sc : List Nm) (ai : Option Addr) (ci : Nat) (l : List Alt) (hz : ∀ y, y ∈ l → SizeOf.sizeOf y.2.2.2.2.2 ≤ n) (hw : ∀ y, y ∈ l → wA y) (hn : sc.length + sumN nA l ≤ 100000) (a : Option Addr) (c : Nat) (xs : List Value) (w : World) (hS : SAt w b st (.slice ac cl.length cc)) (hc : RowAt w (Apart b) 9 1 (.slice ac cl.length cc) cl.length (namesV cl)) (hi : RowAt w (Apart b) 9 1 (.slice ai sc.length ci) sc.length (namesV sc)) (hr : RowAt w (Apart b) 135 13 (.slice a l.length c) l.length xs) (ht : AltsAt w (Apart b) l xs) :
    Calls Tryz.prog 87 #[.pointer (some ⟨b, 0, none⟩), .slice a l.length c, .slice ai sc.length ci] w fun e w' => e = .returned (.tuple #[]) ∧ SAt w' b (st.or (sdAs cl sc l)) (.slice ac cl.length cc) ∧ w.grownBy w' (some b) := by
  have HO := Hd (Ai hr (Ai ht (Ai hc hi)))
  have HS := Hd hS
  have HQ := Hd (Ai hz hw)
  have hmx := hr.cap
  unfold maxLen at hmx
  clear hr ht hc hi hS hz hw
  rw [sdAs_first]
  go_enter Tryz.func87, Tryz.ntmps87
  go_wp2_with fail
  go_loopw [6] (fun s wr => ∃ j : Nat, j ≤ l.length ∧ s = .int .i64 j ∧ SAt wr b (st.or (firstF (sdA cl sc) (l.take j))) (.slice ac cl.length cc) ∧ w.grownBy wr (some b)) (fun s _ => l.length - (RowKit.intOf s).toNat)
  case atStart => exact ⟨0, Nat.zero_le _, rfl, by rw [List.take_zero, show firstF (sdA cl sc) [] = none from rfl, or_nil_l]; exact HS.out, grown_of Br⟩
  case round =>
    obtain ⟨j, hj, rfl, hs1, hg1⟩ := hrel
    have HR := Hd (Ai hs1 hg1)
    clear hs1 hg1
    by_cases gj : j < l.length
    · have gj' : (j : Int) < (l.length : Int) := by omega
      obtain ⟨aq, cq, k, nm, f, u, ap, np, cp, ak, nk, ck, ab, nb, cb, aa, na, ca, hQ, hE, hcs⟩ := HO.out.2.1.cells j gj
      obtain ⟨g1, o1, ea1, k1, m1', hgb, ht1⟩ := (HO.out.1.apart HR.out.2).at (by omega)
      subst ea1
      have HP := Hd (fun i v h => ht1 _ _ (hcs i v h))
      have HT := Hd (show l.take (j + 1) = l.take j ++ [l[j]] from List.take_succ_eq_append_getElem gj)
      have HF := Hd (show firstF (sdA cl sc) (l.take (j + 1)) = (firstF (sdA cl sc) (l.take j)).or (sdA cl sc l[j]) by rw [HT.out, firstF_snoc])
      have HZ := Hd (Ai (HQ.out.1 _ (List.getElem_mem gj)) (Ai (HQ.out.2 _ (List.getElem_mem gj)) (sumN_mem nA (List.getElem_mem gj))))
      have HE := Hd (Ai (hQ.apart HR.out.2) (hE.apart HR.out.2))
      clear ht1 hcs hQ hE HT
      generalize l[j] = al at *
      obtain ⟨kd, nb0, fd, ud, ps, body⟩ := al
      have hwt : sc.length + (1 + ps.length + wtE body) ≤ 100000 := by have h : 1 + ps.length + wtE body ≤ sumN nA l := HZ.out.2.2; omega
      have HZ2 := Hd (show SizeOf.sizeOf body ≤ n ∧ wfE body from ⟨HZ.out.1, HZ.out.2.1.2.2⟩)
      have HF2 := Hd (show firstF (sdA cl sc) (l.take (j + 1)) = (firstF (sdA cl sc) (l.take j)).or (if kd = 0 then (hasF cl nb0).or ((twF ps).or (sdE cl (sc ++ ps) body)) else if kd = 2 then sdE cl (sc ++ [nb0]) body else sdE cl sc body) from HF.out)
      replace HE := Hd (show RowAt wr (Apart b) 9 1 (.slice aq ps.length cq) ps.length (namesV ps) ∧ ExAt wr (Apart b) body [.int .i64 k, .string (tx nm), .bool f, .int .u64 u, .slice ap np cp, .slice ak nk ck, .slice ab nb cb, .slice aa na ca] from HE.out)
      replace HP := Hd (show ∀ i v, [.int .i64 kd, .string (tx nb0), .bool fd, .int .u64 ud, .slice aq ps.length cq, .int .i64 k, .string (tx nm), .bool f, .int .u64 u, .slice ap np cp, .slice ak nk ck, .slice ab nb cb, .slice aa na ca][i]? = some v → wr.cell? ⟨g1, o1 + (j * 13 + i), none⟩ = some v from HP.out)
      clear HF
      have ej : IntKind.i64.wrap ((j : Int) + 1) = (j : Int) + 1 := by rw [IntKind.wrap_i64]; omega
      have b0 : (0 : Int) ≤ (j : Int) := by omega
      have HL0 := Hd HR.out.1.lt
      by_cases g0 : kd = 0
      · subst g0
        rw [if_pos rfl] at HF2
        clear HZ
        have n0 : wr.cell? ⟨g1, o1 + j * 13, none⟩ = some (.int .i64 0) := HP.out 0 _ rfl
        have n1 : wr.cell? ⟨g1, o1 + j * 13 + 1, none⟩ = some (.string (tx nb0)) := by rw [Nat.add_assoc]; exact HP.out 1 _ rfl
        have n2 : wr.cell? ⟨g1, o1 + j * 13 + 2, none⟩ = some (.bool fd) := by rw [Nat.add_assoc]; exact HP.out 2 _ rfl
        have n3 : wr.cell? ⟨g1, o1 + j * 13 + 3, none⟩ = some (.int .u64 ud) := by rw [Nat.add_assoc]; exact HP.out 3 _ rfl
        have n4 : wr.cell? ⟨g1, o1 + j * 13 + 4, none⟩ = some (.slice aq ps.length cq) := by rw [Nat.add_assoc]; exact HP.out 4 _ rfl
        have n5 : wr.cell? ⟨g1, o1 + j * 13 + 5, none⟩ = some (.int .i64 k) := by rw [Nat.add_assoc]; exact HP.out 5 _ rfl
        have n6 : wr.cell? ⟨g1, o1 + j * 13 + 6, none⟩ = some (.string (tx nm)) := by rw [Nat.add_assoc]; exact HP.out 6 _ rfl
        have n7 : wr.cell? ⟨g1, o1 + j * 13 + 7, none⟩ = some (.bool f) := by rw [Nat.add_assoc]; exact HP.out 7 _ rfl
        have n8 : wr.cell? ⟨g1, o1 + j * 13 + 8, none⟩ = some (.int .u64 u) := by rw [Nat.add_assoc]; exact HP.out 8 _ rfl
        have n9 : wr.cell? ⟨g1, o1 + j * 13 + 9, none⟩ = some (.slice ap np cp) := by rw [Nat.add_assoc]; exact HP.out 9 _ rfl
        have n10 : wr.cell? ⟨g1, o1 + j * 13 + 10, none⟩ = some (.slice ak nk ck) := by rw [Nat.add_assoc]; exact HP.out 10 _ rfl
        have n11 : wr.cell? ⟨g1, o1 + j * 13 + 11, none⟩ = some (.slice ab nb cb) := by rw [Nat.add_assoc]; exact HP.out 11 _ rfl
        have n12 : wr.cell? ⟨g1, o1 + j * 13 + 12, none⟩ = some (.slice aa na ca) := by rw [Nat.add_assoc]; exact HP.out 12 _ rfl
        have HCn := Hd (scon_any b (st.or (firstF (sdA cl sc) (l.take j))) cl ac cc (Apart b) nb0 wr HR.out.1 (HO.out.2.2.1.apart HR.out.2))
        go_wp2_with fail
        refine HCn.out.mono ?_
        rintro e w3 ⟨rfl, hs3, hg3⟩
        have H3 := Hd (Ai hs3 (Ai (Gt HR.out.2 hg3) (Ai (HE.out.1.apart hg3) (HE.out.2.apart hg3))))
        have l4 := hg3.cell n4 (by simpa using hgb)
        have l5 := hg3.cell n5 (by simpa using hgb)
        have l6 := hg3.cell n6 (by simpa using hgb)
        have l7 := hg3.cell n7 (by simpa using hgb)
        have l8 := hg3.cell n8 (by simpa using hgb)
        have l9 := hg3.cell n9 (by simpa using hgb)
        have l10 := hg3.cell n10 (by simpa using hgb)
        have l11 := hg3.cell n11 (by simpa using hgb)
        have l12 := hg3.cell n12 (by simpa using hgb)
        clear hs3 hg3 HCn n0 n1 n2 n3 n4 n5 n6 n7 n8 n9 n10 n11 n12
        have HTw := Hd (stwice_any b ((st.or (firstF (sdA cl sc) (l.take j))).or (hasF cl nb0)) (.slice ac cl.length cc) ps aq cq (Apart b) (fun _ h => h) w3 H3.out.1 H3.out.2.2.1)
        go_wp2_with fail
        refine HTw.out.mono ?_
        rintro e w4 ⟨rfl, hs4, hg4⟩
        have H4 := Hd (Ai hs4 (Gt H3.out.2.1 hg4))
        have HL := Hd hs4.lt
        have HE4 := Hd (Ai (H3.out.2.2.1.apart hg4) (H3.out.2.2.2.apart hg4))
        have p4 := hg4.cell l4 (by simpa using hgb)
        have p5 := hg4.cell l5 (by simpa using hgb)
        have p6 := hg4.cell l6 (by simpa using hgb)
        have p7 := hg4.cell l7 (by simpa using hgb)
        have p8 := hg4.cell l8 (by simpa using hgb)
        have p9 := hg4.cell l9 (by simpa using hgb)
        have p10 := hg4.cell l10 (by simpa using hgb)
        have p11 := hg4.cell l11 (by simpa using hgb)
        have p12 := hg4.cell l12 (by simpa using hgb)
        have hwt2 : sc.length + ps.length ≤ 100000 := by omega
        obtain ⟨sc2, hsc2⟩ : ∃ sc2, sc2 = sc ++ ps := ⟨_, rfl⟩
        have hwt3 : sc2.length + wtE body ≤ 100000 := by rw [hsc2, List.length_append]; omega
        have HJ := Hd (fun (V : World) (hb : Below w4.heap.size w4 V) => join_here b sc ps ai ci aq cq hwt2 w4 V hb (HO.out.2.2.2.apart H4.out.2) (Apart b) (HE4.out.1.apartB hb))
        rw [← hsc2] at HJ HF2
        have HXp := Hd (fun (V : World) (a2 : Option Addr) (c2 : Nat) (hb : Below w4.heap.size w4 V) (ho : RowAt V (Apart b) 9 1 (.slice a2 sc2.length c2) sc2.length (namesV sc2)) => hP body b (((st.or (firstF (sdA cl sc) (l.take j))).or (hasF cl nb0)).or (twF ps)) cl ac cc sc2 a2 c2 V k nm f u ap np cp ak nk ck ab nb cb aa na ca HZ2.out.1 HZ2.out.2 hwt3 (H4.out.1.later hb) ((HO.out.2.2.1.apart H4.out.2).apartB hb) ho (HE4.out.2.apartB hb))
        clear hs4 hg4 HTw hsc2 HE HP l4 l5 l6 l7 l8 l9 l10 l11 l12
        go_wp2_with fail
        go_region_held3 (fun W' => W'.cell? ⟨g1, o1 + j * 13 + 4, none⟩ = some (.slice aq ps.length cq) ∧ W'.cell? ⟨g1, o1 + j * 13 + 5, none⟩ = some (.int .i64 k) ∧ W'.cell? ⟨g1, o1 + j * 13 + 6, none⟩ = some (.string (tx nm)) ∧ W'.cell? ⟨g1, o1 + j * 13 + 7, none⟩ = some (.bool f) ∧ W'.cell? ⟨g1, o1 + j * 13 + 8, none⟩ = some (.int .u64 u) ∧ W'.cell? ⟨g1, o1 + j * 13 + 9, none⟩ = some (.slice ap np cp) ∧ W'.cell? ⟨g1, o1 + j * 13 + 10, none⟩ = some (.slice ak nk ck) ∧ W'.cell? ⟨g1, o1 + j * 13 + 11, none⟩ = some (.slice ab nb cb) ∧ W'.cell? ⟨g1, o1 + j * 13 + 12, none⟩ = some (.slice aa na ca)) (first | exact ⟨r4, r5, r6, r7, r8, r9, r10, r11, r12⟩ | exact ⟨q4, q5, q6, q7, q8, q9, q10, q11, q12⟩ | exact ⟨p4, p5, p6, p7, p8, p9, p10, p11, p12⟩ | exact ⟨m4, m5, m6, m7, m8, m9, m10, m11, m12⟩ | go_keep) (first
          | (go_at_call 73
             refine (HJ.out _ ?hb).mono ?_
             case hb => exact Br.drew
             rintro e w5 ⟨⟨a2, c2, rfl, ho⟩, hb5⟩
             have H5 : Below w4.heap.size w4 w5 := onB' (Below.refl w4.heap.size w4).drew hb5
             have ho5 := ho HL.out
             have q4 := later' H5 p4
             have q5 := later' H5 p5
             have q6 := later' H5 p6
             have q7 := later' H5 p7
             have q8 := later' H5 p8
             have q9 := later' H5 p9
             have q10 := later' H5 p10
             have q11 := later' H5 p11
             have q12 := later' H5 p12
             clear ho)
          | (go_at_call 72
             refine (HXp.out w5 a2 c2 H5 ho5).mono ?_
             rintro e w6 ⟨rfl, hs6, hg6⟩
             have r4 := hg6.cell q4 (by simpa using hgb)
             have r5 := hg6.cell q5 (by simpa using hgb)
             have r6 := hg6.cell q6 (by simpa using hgb)
             have r7 := hg6.cell q7 (by simpa using hgb)
             have r8 := hg6.cell q8 (by simpa using hgb)
             have r9 := hg6.cell q9 (by simpa using hgb)
             have r10 := hg6.cell q10 (by simpa using hgb)
             have r11 := hg6.cell q11 (by simpa using hgb)
             have r12 := hg6.cell q12 (by simpa using hgb)
             have H6 := Gt (grown_of (b := b) H5) hg6))
        all_goals go_wp2_with fail
        all_goals (refine ⟨⟨j + 1, by omega, by go_num, ?_, Gt H4.out.2 H6⟩, by simp [RowKit.intOf]; omega⟩; rw [HF2.out]; have h := hs6; rwa [or_assoc_f, or_assoc_f, or_assoc_f] at h)
      · rw [if_neg g0] at HF2
        by_cases g2 : kd = 2
        · subst g2
          rw [if_pos rfl] at HF2
          have hnb : NmOk nb0 := HZ.out.2.1.1 (Or.inr rfl)
          clear HZ
          have m1 : wr.cell? ⟨g1, o1 + j * 13 + 1, none⟩ = some (.string (tx nb0)) := by rw [Nat.add_assoc]; exact HP.out 1 _ rfl
          have m5 : wr.cell? ⟨g1, o1 + j * 13 + 5, none⟩ = some (.int .i64 k) := by rw [Nat.add_assoc]; exact HP.out 5 _ rfl
          have m6 : wr.cell? ⟨g1, o1 + j * 13 + 6, none⟩ = some (.string (tx nm)) := by rw [Nat.add_assoc]; exact HP.out 6 _ rfl
          have m7 : wr.cell? ⟨g1, o1 + j * 13 + 7, none⟩ = some (.bool f) := by rw [Nat.add_assoc]; exact HP.out 7 _ rfl
          have m8 : wr.cell? ⟨g1, o1 + j * 13 + 8, none⟩ = some (.int .u64 u) := by rw [Nat.add_assoc]; exact HP.out 8 _ rfl
          have m9 : wr.cell? ⟨g1, o1 + j * 13 + 9, none⟩ = some (.slice ap np cp) := by rw [Nat.add_assoc]; exact HP.out 9 _ rfl
          have m10 : wr.cell? ⟨g1, o1 + j * 13 + 10, none⟩ = some (.slice ak nk ck) := by rw [Nat.add_assoc]; exact HP.out 10 _ rfl
          have m11 : wr.cell? ⟨g1, o1 + j * 13 + 11, none⟩ = some (.slice ab nb cb) := by rw [Nat.add_assoc]; exact HP.out 11 _ rfl
          have m12 : wr.cell? ⟨g1, o1 + j * 13 + 12, none⟩ = some (.slice aa na ca) := by rw [Nat.add_assoc]; exact HP.out 12 _ rfl
          have n0 : wr.cell? ⟨g1, o1 + j * 13, none⟩ = some (.int .i64 2) := HP.out 0 _ rfl
          have hy : Below wr.heap.size wr (wr.drew.alloc (.cells #[.string (tx nb0)] 9)) := ((Below.refl wr.heap.size wr).drew).alloc Nr _
          have hrow : RowAt (wr.drew.alloc (.cells #[.string (tx nb0)] 9)) (fun _ => True) 9 1 (.slice (some ⟨wr.heap.size, 0, none⟩) 1 1) 1 (namesV [nb0]) := name_row (heap_alloc_new wr.drew _)
          have HY := Hd hy
          have p1 : (wr.drew.alloc (.cells #[.string (tx nb0)] 9)).cell? ⟨g1, o1 + j * 13 + 1, none⟩ = some (.string (tx nb0)) := later' hy m1
          have p5 : (wr.drew.alloc (.cells #[.string (tx nb0)] 9)).cell? ⟨g1, o1 + j * 13 + 5, none⟩ = some (.int .i64 k) := later' hy m5
          have p6 : (wr.drew.alloc (.cells #[.string (tx nb0)] 9)).cell? ⟨g1, o1 + j * 13 + 6, none⟩ = some (.string (tx nm)) := later' hy m6
          have p7 : (wr.drew.alloc (.cells #[.string (tx nb0)] 9)).cell? ⟨g1, o1 + j * 13 + 7, none⟩ = some (.bool f) := later' hy m7
          have p8 : (wr.drew.alloc (.cells #[.string (tx nb0)] 9)).cell? ⟨g1, o1 + j * 13 + 8, none⟩ = some (.int .u64 u) := later' hy m8
          have p9 : (wr.drew.alloc (.cells #[.string (tx nb0)] 9)).cell? ⟨g1, o1 + j * 13 + 9, none⟩ = some (.slice ap np cp) := later' hy m9
          have p10 : (wr.drew.alloc (.cells #[.string (tx nb0)] 9)).cell? ⟨g1, o1 + j * 13 + 10, none⟩ = some (.slice ak nk ck) := later' hy m10
          have p11 : (wr.drew.alloc (.cells #[.string (tx nb0)] 9)).cell? ⟨g1, o1 + j * 13 + 11, none⟩ = some (.slice ab nb cb) := later' hy m11
          have p12 : (wr.drew.alloc (.cells #[.string (tx nb0)] 9)).cell? ⟨g1, o1 + j * 13 + 12, none⟩ = some (.slice aa na ca) := later' hy m12
          have hwt2 : sc.length + 1 ≤ 100000 := by omega
          obtain ⟨sc2, hsc2⟩ : ∃ sc2, sc2 = sc ++ [nb0] := ⟨_, rfl⟩
          have hwt3 : sc2.length + wtE body ≤ 100000 := by rw [hsc2, List.length_append]; simp only [List.length_cons, List.length_nil]; omega
          have HJ := Hd (fun (V : World) (hb : V = wr.drew.alloc (.cells #[.string (tx nb0)] 9)) => join_here b sc [nb0] ai ci (some ⟨wr.heap.size, 0, none⟩) 1 hwt2 wr V (by rw [hb]; exact HY.out) (HO.out.2.2.2.apart HR.out.2) (fun _ => True) (by rw [hb]; exact hrow))
          rw [← hsc2] at HJ HF2
          have HL := Hd (show b < (wr.drew.alloc (.cells #[.string (tx nb0)] 9)).heap.size from Nat.lt_of_lt_of_le HL0.out HY.out.size)
          have HXp := Hd (fun (V : World) (a2 : Option Addr) (c2 : Nat) (hb : Below wr.heap.size wr V) (ho : RowAt V (Apart b) 9 1 (.slice a2 sc2.length c2) sc2.length (namesV sc2)) => hP body b (st.or (firstF (sdA cl sc) (l.take j))) cl ac cc sc2 a2 c2 V k nm f u ap np cp ak nk ck ab nb cb aa na ca HZ2.out.1 HZ2.out.2 hwt3 (HR.out.1.later hb) ((HO.out.2.2.1.apart HR.out.2).apartB hb) ho (HE.out.2.apartB hb))
          clear hsc2 hrow hy HP
          have f0 : ((2 : Int) == 0) = false := rfl
          go_wp2_with fail
          go_region_held3 (fun W' => W'.cell? ⟨g1, o1 + j * 13 + 1, none⟩ = some (.string (tx nb0)) ∧ W'.cell? ⟨g1, o1 + j * 13 + 5, none⟩ = some (.int .i64 k) ∧ W'.cell? ⟨g1, o1 + j * 13 + 6, none⟩ = some (.string (tx nm)) ∧ W'.cell? ⟨g1, o1 + j * 13 + 7, none⟩ = some (.bool f) ∧ W'.cell? ⟨g1, o1 + j * 13 + 8, none⟩ = some (.int .u64 u) ∧ W'.cell? ⟨g1, o1 + j * 13 + 9, none⟩ = some (.slice ap np cp) ∧ W'.cell? ⟨g1, o1 + j * 13 + 10, none⟩ = some (.slice ak nk ck) ∧ W'.cell? ⟨g1, o1 + j * 13 + 11, none⟩ = some (.slice ab nb cb) ∧ W'.cell? ⟨g1, o1 + j * 13 + 12, none⟩ = some (.slice aa na ca)) (first | exact ⟨r1, r5, r6, r7, r8, r9, r10, r11, r12⟩ | exact ⟨q1, q5, q6, q7, q8, q9, q10, q11, q12⟩ | exact ⟨p1, p5, p6, p7, p8, p9, p10, p11, p12⟩ | exact ⟨m1, m5, m6, m7, m8, m9, m10, m11, m12⟩ | go_keep) (first
            | (go_at_call 73
               refine (HJ.out _ ?hb).mono ?_
               case hb => exact rfl
               rintro e w5 ⟨⟨a2, c2, rfl, ho⟩, hb5⟩
               have H5 : Below wr.heap.size wr w5 := onB' HY.out hb5
               have ho5 := ho HL.out
               have q1 := later' H5 m1
               have q5 := later' H5 m5
               have q6 := later' H5 m6
               have q7 := later' H5 m7
               have q8 := later' H5 m8
               have q9 := later' H5 m9
               have q10 := later' H5 m10
               have q11 := later' H5 m11
               have q12 := later' H5 m12
               clear ho)
            | (go_at_call 72
               refine (HXp.out w5 a2 c2 H5 ho5).mono ?_
               rintro e w6 ⟨rfl, hs6, hg6⟩
               have r1 := hg6.cell q1 (by simpa using hgb)
               have r5 := hg6.cell q5 (by simpa using hgb)
               have r6 := hg6.cell q6 (by simpa using hgb)
               have r7 := hg6.cell q7 (by simpa using hgb)
               have r8 := hg6.cell q8 (by simpa using hgb)
               have r9 := hg6.cell q9 (by simpa using hgb)
               have r10 := hg6.cell q10 (by simpa using hgb)
               have r11 := hg6.cell q11 (by simpa using hgb)
               have r12 := hg6.cell q12 (by simpa using hgb)
               have H6 := Gt (grown_of (b := b) H5) hg6))
          all_goals go_wp2_with fail
          all_goals (refine ⟨⟨j + 1, by omega, by go_num, ?_, Gt HR.out.2 H6⟩, by simp [RowKit.intOf]; omega⟩; rw [HF2.out]; have h := hs6; rwa [or_assoc_f] at h)
        · rw [if_neg g2] at HF2
          have f0 : (kd == 0) = false := by simpa using g0
          have f2 : (kd == 2) = false := by simpa using g2
          clear HZ
          have n0 : wr.cell? ⟨g1, o1 + j * 13, none⟩ = some (.int .i64 kd) := HP.out 0 _ rfl
          have n5 : wr.cell? ⟨g1, o1 + j * 13 + 5, none⟩ = some (.int .i64 k) := by rw [Nat.add_assoc]; exact HP.out 5 _ rfl
          have n6 : wr.cell? ⟨g1, o1 + j * 13 + 6, none⟩ = some (.string (tx nm)) := by rw [Nat.add_assoc]; exact HP.out 6 _ rfl
          have n7 : wr.cell? ⟨g1, o1 + j * 13 + 7, none⟩ = some (.bool f) := by rw [Nat.add_assoc]; exact HP.out 7 _ rfl
          have n8 : wr.cell? ⟨g1, o1 + j * 13 + 8, none⟩ = some (.int .u64 u) := by rw [Nat.add_assoc]; exact HP.out 8 _ rfl
          have n9 : wr.cell? ⟨g1, o1 + j * 13 + 9, none⟩ = some (.slice ap np cp) := by rw [Nat.add_assoc]; exact HP.out 9 _ rfl
          have n10 : wr.cell? ⟨g1, o1 + j * 13 + 10, none⟩ = some (.slice ak nk ck) := by rw [Nat.add_assoc]; exact HP.out 10 _ rfl
          have n11 : wr.cell? ⟨g1, o1 + j * 13 + 11, none⟩ = some (.slice ab nb cb) := by rw [Nat.add_assoc]; exact HP.out 11 _ rfl
          have n12 : wr.cell? ⟨g1, o1 + j * 13 + 12, none⟩ = some (.slice aa na ca) := by rw [Nat.add_assoc]; exact HP.out 12 _ rfl
          have HXp := Hd (hP body b (st.or (firstF (sdA cl sc) (l.take j))) cl ac cc sc ai ci wr k nm f u ap np cp ak nk ck ab nb cb aa na ca HZ2.out.1 HZ2.out.2 (by omega) HR.out.1 (HO.out.2.2.1.apart HR.out.2) (HO.out.2.2.2.apart HR.out.2) HE.out.2)
          go_wp2_with fail
          refine HXp.out.mono ?_
          rintro e w6 ⟨rfl, hs6, hg6⟩
          have H6 := Hd (Ai hs6 hg6)
          clear hs6 hg6 HXp
          go_wp2_with fail
          refine ⟨⟨j + 1, by omega, by go_num, ?_, Gt HR.out.2 H6.out.2⟩, by simp [RowKit.intOf]; omega⟩
          rw [HF2.out]
          have h := H6.out.1
          rwa [or_assoc_f] at h
    · obtain rfl : j = l.length := by omega
      go_wp2_with fail
      go_end0
      have h := HR.out.1
      rw [List.take_length] at h
      exact ⟨rfl, h, HR.out.2⟩
theorem bNames_len (bl : List Bnd) : (bNames bl).length = bl.length := by simp [bNames]
theorem plet_any (n : Nat) (hP : PlcC n) (bc nc : Nat) (cs : List Nm) (bs ns : Nat) (sc : List Nm) (k : Int) (nm : Nm) (f : Bool) (u : Int) (ps : List Nm) (ks : List Ex) (bl : List Bnd) (al : List Alt) (ap : Option Addr) (cp : Nat) (ak : Option Addr) (ck : Nat) (ab : Option Addr) (cb : Nat) (aa : Option Addr) (ca : Nat) (hN : NodeOk n ns k nm f u ps ks bl al) (K : Nat → Prop) (xk xb : List Value) (w : World) (hc : NSet w bc nc cs) (hs : NSet w bs ns sc) (hk : RowAt w K 57 8 (.slice ak ks.length ck) ks.length xk) (hb : RowAt w K 59 10 (.slice ab bl.length cb) bl.length xb) (tk : ExsAt w K ks xk) (tb : BndsAt w K bl xb) :
    Calls Tryz.prog 98 #[.agg #[.map (some bc), .map (some bs)], .agg #[.int .i64 k, .string (tx nm), .bool f, .int .u64 u, .slice ap ps.length cp, .slice ak ks.length ck, .slice ab bl.length cb, .slice aa al.length ca]] w fun e w' => e = .returned (vErr ((twF (bNames bl)).or ((scBs cs (sc ++ bNames bl) bl).or (scEs cs (sc ++ bNames bl) ks)))) ∧ Below w.heap.size w w' := by
  have hx1 := (Below.refl w.heap.size w).alloc Nr (.cells #[.map (some bc), .map (some bs)] 131)
  have hx := hx1.alloc hx1.size (.cells #[.int .i64 k, .string (tx nm), .bool f, .int .u64 u, .slice ap ps.length cp, .slice ak ks.length ck, .slice ab bl.length cb, .slice aa al.length ca] 57)
  have hB1 := (BoxW.alloc w #[.map (some bc), .map (some bs)] 131).below (Br.alloc Nr (.cells #[.int .i64 k, .string (tx nm), .bool f, .int .u64 u, .slice ap ps.length cp, .slice ak ks.length ck, .slice ab bl.length cb, .slice aa al.length ca] 57))
  have hB2 := BoxW.alloc (w.alloc (.cells #[.map (some bc), .map (some bs)] 131)) #[.int .i64 k, .string (tx nm), .bool f, .int .u64 u, .slice ap ps.length cp, .slice ak ks.length ck, .slice ab bl.length cb, .slice aa al.length ca] 57
  rw [show (w.alloc (.cells #[.map (some bc), .map (some bs)] 131)).heap.size = w.heap.size + 1 by simp] at hB2
  have hwt := hN.wt
  have hlb := sumN_len nB (fun b => by unfold nB; omega) bl
  have hnl := bNames_len bl
  have HX := Hd (Ai hx (Ai hB1 hB2))
  have HO := Hd (Ai hc (Ai hs (Ai hk (Ai hb (Ai tk tb)))))
  have hmf := func_made
  clear hx hx1 hB1 hB2 hc hs hk hb tk tb
  go_enter Tryz.func98, Tryz.ntmps98
  go_upto_region 1 with fail
  generalize ((w.alloc (.cells #[.map (some bc), .map (some bs)] 131)).alloc (.cells #[.int .i64 k, .string (tx nm), .bool f, .int .u64 u, .slice ap ps.length cp, .slice ak ks.length ck, .slice ab bl.length cb, .slice aa al.length ca] 57)) = W at *
  have d0 : W.cell? ⟨w.heap.size, 0, none⟩ = some (.map (some bc)) := HX.out.2.1.1 0 _ rfl
  have d1 : W.cell? ⟨w.heap.size, 1, none⟩ = some (.map (some bs)) := HX.out.2.1.1 1 _ rfl
  have d4 : W.cell? ⟨w.heap.size + 1, 5, none⟩ = some (.slice ak ks.length ck) := HX.out.2.2.1 5 _ rfl
  have d5 : W.cell? ⟨w.heap.size + 1, 6, none⟩ = some (.slice ab bl.length cb) := HX.out.2.2.1 6 _ rfl
  have HNm := Hd (fun (V : World) (hb : Below w.heap.size w V) => names_of_any bl ab cb K K xb V (by omega) (HO.out.2.2.2.1.move fun g hg lt => ⟨hg, hb.block g lt⟩) (HO.out.2.2.2.2.2.move fun g hg lt => ⟨hg, hb.block g lt⟩))
  have hlm : ∀ x, x ∈ bNames bl → x.length ≤ 100000 := fun x hx => by
    obtain ⟨b, hb, rfl⟩ := List.mem_map.1 hx
    exact (hN.wb b hb).1.2
  have HU := Hd (fun (V V1 : World) (lo : Nat) (v : Value) (a : Option Addr) (c : Nat) (hv : v = .slice a bl.length c) (hb : Below w.heap.size w V) (ho : V1.ownsRow lo 9 1 v bl.length (namesV (bNames bl))) (hbv : Below V1.heap.size V1 V) => under_any bc bs ns sc (bNames bl) hlm (by omega) a c (fun _ => True) V (HO.out.2.1.later hb) (by rw [hv, ← hnl] at ho; exact (RowAt.of ho (fun _ _ => trivial)).move fun g _ lt => ⟨trivial, hbv.block g lt⟩))
  rw [hnl] at HU
  clear hlm
  have hq1 : w.heap.size + 1 < W.heap.size := Bl d5
  have hq0 : w.heap.size < W.heap.size := by omega
  cases htw : twF (bNames bl) with
  | some fo =>
    obtain ⟨er, nn⟩ := fo
    have HT := Hd htw
    clear htw
    go_region_held3 (fun W' => W'.cell? ⟨w.heap.size, 0, none⟩ = some (.map (some bc)) ∧ W'.cell? ⟨w.heap.size, 1, none⟩ = some (.map (some bs)) ∧ W'.cell? ⟨w.heap.size + 1, 6, none⟩ = some (.slice ab bl.length cb)) (first | exact ⟨k0, k1, k6⟩ | exact ⟨r0, r1, r6⟩ | exact ⟨d0, d1, d5⟩ | exact ⟨(at_far _ _ _ _ _ _ (by omega)).trans ((at_far _ _ _ _ _ _ (by omega)).trans k0), (at_far _ _ _ _ _ _ (by omega)).trans ((at_far _ _ _ _ _ _ (by omega)).trans k1), (at_far _ _ _ _ _ _ (by omega)).trans ((at_far _ _ _ _ _ _ (by omega)).trans k6)⟩ | go_keep) (first
      | (go_at_call 62
         refine (HNm.out _ ?hbV).mono ?_
         case hbV => first | exact HX.out.1.drew | exact (HX.out.1.drew).alloc (show w.heap.size ≤ W.heap.size from HX.out.1.size) _
         rintro e w1 ⟨⟨v, rfl, ho⟩, hb1⟩
         obtain ⟨av, cv, rfl, -⟩ := own_shape ho
         have HWw : Below W.heap.size W w1 := by first | exact onB' ((Below.refl W.heap.size W).drew) hb1 | exact onB' (((Below.refl W.heap.size W).drew).alloc Nr _) hb1
         have r0 := later' HWw d0
         have r1 := later' HWw d1
         have r6 := later' HWw d5
         have hq2 : w.heap.size < w1.heap.size := by have := HWw.size; omega
         have hq3 : w.heap.size + 1 < w1.heap.size := by have := HWw.size; omega
         have hw1 := HWw.size
         first | (have HBx : BoxW w1 W.heap.size [.map none, .map none] := (BoxW.alloc W.drew #[.map none, .map none] 131).below hb1) | skip
         have H1 : Below w.heap.size w w1 := by first | exact onB' HX.out.1.drew hb1 | exact onB' ((HX.out.1.drew).alloc (show w.heap.size ≤ W.heap.size from HX.out.1.size) _) hb1)
      | (go_at_call 94
         refine (HU.out _ w1 _ _ av cv rfl ?hb2 ho ?hb3).mono ?_
         case hb2 => first | exact H1 | exact H1.alloc H1.size _
         case hb3 => first | exact Br | exact Br.alloc Nr _
         rintro e w2 ⟨hw, hb2⟩
         unfold UnderSaid at hw
         rw [HT.out] at hw
         subst hw; unfold vErr
         have H12 : Below w1.heap.size w1 w2 := by first | exact hb2 | exact onB' ((Below.refl w1.heap.size w1).alloc Nr _) hb2
         have k0 := later' H12 r0
         have k1 := later' H12 r1
         have k6 := later' H12 r6
         have k5 := later' (onB' HWw H12) d4
         first | (have HBz : BoxW w2 w1.heap.size [.map none, .map none] := (BoxW.alloc w1 #[.map none, .map none] 131).below hb2) | (have HBz : BoxW w2 W.heap.size [.map none, .map none] := HBx.below hb2) | skip
         first | (have q0 := HBz.1 0 _ rfl; have q1 := HBz.1 1 _ rfl; have z0 := HBz.2 0; have z1 := HBz.2 1) | skip
         have H2 : Below w.heap.size w w2 := by first | exact onB' H1 hb2 | exact onB' (H1.alloc H1.size _) hb2))
    all_goals (go_wp2_with fail; go_ret; refine ⟨by rw [HT.out]; rfl, ?_⟩; first | exact H2.alloc H2.size _ | (have h1 := H1.size; have h0 := HX.out.1.size; exact below_of_new (below_of_new H2 (set_grown ..) (by omega)) (set_grown ..) (by omega)))
  | none =>
    have HT := Hd htw
    clear htw
    go_region_held3 (fun W' => W'.cell? ⟨w.heap.size, 0, none⟩ = some (.map (some bc)) ∧ W'.cell? ⟨w.heap.size, 1, none⟩ = some (.map (some bs)) ∧ W'.cell? ⟨w.heap.size + 1, 6, none⟩ = some (.slice ab bl.length cb)) (first | exact ⟨k0, k1, k6⟩ | exact ⟨r0, r1, r6⟩ | exact ⟨d0, d1, d5⟩ | exact ⟨(at_far _ _ _ _ _ _ (by omega)).trans ((at_far _ _ _ _ _ _ (by omega)).trans k0), (at_far _ _ _ _ _ _ (by omega)).trans ((at_far _ _ _ _ _ _ (by omega)).trans k1), (at_far _ _ _ _ _ _ (by omega)).trans ((at_far _ _ _ _ _ _ (by omega)).trans k6)⟩ | go_keep) (first
      | (go_at_call 62
         refine (HNm.out _ ?hbV).mono ?_
         case hbV => first | exact HX.out.1.drew | exact (HX.out.1.drew).alloc (show w.heap.size ≤ W.heap.size from HX.out.1.size) _
         rintro e w1 ⟨⟨v, rfl, ho⟩, hb1⟩
         obtain ⟨av, cv, rfl, -⟩ := own_shape ho
         have HWw : Below W.heap.size W w1 := by first | exact onB' ((Below.refl W.heap.size W).drew) hb1 | exact onB' (((Below.refl W.heap.size W).drew).alloc Nr _) hb1
         have r0 := later' HWw d0
         have r1 := later' HWw d1
         have r6 := later' HWw d5
         have hq2 : w.heap.size < w1.heap.size := by have := HWw.size; omega
         have hq3 : w.heap.size + 1 < w1.heap.size := by have := HWw.size; omega
         have hw1 := HWw.size
         first | (have HBx : BoxW w1 W.heap.size [.map none, .map none] := (BoxW.alloc W.drew #[.map none, .map none] 131).below hb1) | skip
         have H1 : Below w.heap.size w w1 := by first | exact onB' HX.out.1.drew hb1 | exact onB' ((HX.out.1.drew).alloc (show w.heap.size ≤ W.heap.size from HX.out.1.size) _) hb1)
      | (go_at_call 94
         refine (HU.out _ w1 _ _ av cv rfl ?hb2 ho ?hb3).mono ?_
         case hb2 => first | exact H1 | exact H1.alloc H1.size _
         case hb3 => first | exact Br | exact Br.alloc Nr _
         rintro e w2 ⟨hw, hb2⟩
         unfold UnderSaid at hw
         rw [HT.out] at hw
         obtain ⟨b, rfl, hs⟩ := hw
         have H12 : Below w1.heap.size w1 w2 := by first | exact hb2 | exact onB' ((Below.refl w1.heap.size w1).alloc Nr _) hb2
         have k0 := later' H12 r0
         have k1 := later' H12 r1
         have k6 := later' H12 r6
         have k5 := later' (onB' HWw H12) d4
         first | (have HBz : BoxW w2 w1.heap.size [.map none, .map none] := (BoxW.alloc w1 #[.map none, .map none] 131).below hb2) | (have HBz : BoxW w2 W.heap.size [.map none, .map none] := HBx.below hb2) | skip
         first | (have q0 := HBz.1 0 _ rfl; have q1 := HBz.1 1 _ rfl; have z0 := HBz.2 0; have z1 := HBz.2 1) | skip
         have H2 : Below w.heap.size w w2 := by first | exact onB' H1 hb2 | exact onB' (H1.alloc H1.size _) hb2))
    · clear hb1 hb2 H12 HWw HNm HU ho k0 k1 d0 d1 d4 d5 r0 r1 r6
      have hy := (Below.refl w2.heap.size w2).alloc Nr (.cells #[.map (some bc), .map (some b)] 131)
      have HE := Hd (Ai (onB' H2 hy) (hs.later hy))
      have HBy := Hd (BoxW.alloc w2 #[.map (some bc), .map (some b)] 131)
      have x5 := later' hy k5
      have x6 := later' hy k6
      clear hy
      clear k5 k6 hs
      generalize (w2.alloc (.cells #[.map (some bc), .map (some b)] 131)) = W3 at *
      have s0 : W3.cell? ⟨w2.heap.size, 0, none⟩ = some (.map (some bc)) := HBy.out.1 0 _ rfl
      have s1 : W3.cell? ⟨w2.heap.size, 1, none⟩ = some (.map (some b)) := HBy.out.1 1 _ rfl
      have HF1 := Hd (first_binds n hP bc nc cs b (ns + (bNames bl).length) (sc ++ bNames bl) bl hN.sb hN.wb (by omega) ab cb K K xb W3 (HO.out.1.later HE.out.1) HE.out.2 (HO.out.2.2.2.1.move fun g hg lt => ⟨hg, HE.out.1.block g lt⟩) (HO.out.2.2.2.2.2.move fun g hg lt => ⟨hg, HE.out.1.block g lt⟩))
      go_wp2_with fail
      refine HF1.out.mono ?_
      rintro e w4 ⟨rfl, hb4⟩
      have HB4 := Hd (Ai (onB' HE.out.1 hb4) (HE.out.2.later hb4))
      have y5 := later' hb4 x5
      have y0 := later' hb4 s0
      have y1 := later' hb4 s1
      clear hb4 HF1 s0 s1 x5 x6
      cases hfo : scBs cs (sc ++ bNames bl) bl with
      | some fo =>
        obtain ⟨er, nn⟩ := fo
        have HT2 := Hd hfo
        unfold vErr
        clear hfo
        go_wp2_with fail
        go_ret
        exact ⟨by rw [HT.out, HT2.out]; rfl, HB4.out.1⟩
      | none =>
        have HT2 := Hd hfo
        unfold vErr
        clear hfo
        have HF2 := Hd (first_exprs n hP bc nc cs b (ns + (bNames bl).length) (sc ++ bNames bl) ks hN.sk hN.wk (by omega) ak ck K xk w4 (HO.out.1.later HB4.out.1) HB4.out.2 (HO.out.2.2.1.move fun g hg lt => ⟨hg, HB4.out.1.block g lt⟩) (HO.out.2.2.2.2.1.move fun g hg lt => ⟨hg, HB4.out.1.block g lt⟩))
        go_wp2_with fail
        refine HF2.out.mono ?_
        rintro e w5 ⟨rfl, hb5⟩
        have HB5 := Hd (onB' HB4.out.1 hb5)
        clear hb5 HF2
        go_wp2_with fail
        go_ret
        exact ⟨by rw [HT.out, HT2.out]; rfl, HB5.out⟩
    · clear hb1 hb2 H12 HWw HNm HU ho k0 k1 d0 d1 d4 d5 r0 r1 r6
      have h1s := H1.size
      have h0s := HX.out.1.size
      have hg := Gt (set_grown w2 w1.heap.size 0 (.map (some bc))) (set_grown (w2.setCell ⟨w1.heap.size, 0, none⟩ (.map (some bc))) w1.heap.size 1 (.map (some b)))
      have HE := Hd (Ai (below_of_new H2 hg (by omega)) (hs.same (hg.block b hs.lt (by simpa using hs.ne q0))))
      have HBy := Hd (show BoxW ((w2.setCell ⟨w1.heap.size, 0, none⟩ (.map (some bc))).setCell ⟨w1.heap.size, 1, none⟩ (.map (some b))) w1.heap.size [.map (some bc), .map (some b)] from (HBz.set 0 (show 0 < 2 by decide) (.map (some bc))).set 1 (show 1 < 2 by decide) (.map (some b)))
      have x5 := hg.cell k5 (by simp; omega)
      have x6 := hg.cell k6 (by simp; omega)
      clear hg HBz
      clear k5 k6 hs
      generalize ((w2.setCell ⟨w1.heap.size, 0, none⟩ (.map (some bc))).setCell ⟨w1.heap.size, 1, none⟩ (.map (some b))) = W3 at *
      have s0 : W3.cell? ⟨w1.heap.size, 0, none⟩ = some (.map (some bc)) := HBy.out.1 0 _ rfl
      have s1 : W3.cell? ⟨w1.heap.size, 1, none⟩ = some (.map (some b)) := HBy.out.1 1 _ rfl
      have HF1 := Hd (first_binds n hP bc nc cs b (ns + (bNames bl).length) (sc ++ bNames bl) bl hN.sb hN.wb (by omega) ab cb K K xb W3 (HO.out.1.later HE.out.1) HE.out.2 (HO.out.2.2.2.1.move fun g hg lt => ⟨hg, HE.out.1.block g lt⟩) (HO.out.2.2.2.2.2.move fun g hg lt => ⟨hg, HE.out.1.block g lt⟩))
      go_wp2_with fail
      refine HF1.out.mono ?_
      rintro e w4 ⟨rfl, hb4⟩
      have HB4 := Hd (Ai (onB' HE.out.1 hb4) (HE.out.2.later hb4))
      have y5 := later' hb4 x5
      have y0 := later' hb4 s0
      have y1 := later' hb4 s1
      clear hb4 HF1 s0 s1 x5 x6
      cases hfo : scBs cs (sc ++ bNames bl) bl with
      | some fo =>
        obtain ⟨er, nn⟩ := fo
        have HT2 := Hd hfo
        unfold vErr
        clear hfo
        go_wp2_with fail
        go_ret
        exact ⟨by rw [HT.out, HT2.out]; rfl, HB4.out.1⟩
      | none =>
        have HT2 := Hd hfo
        unfold vErr
        clear hfo
        have HF2 := Hd (first_exprs n hP bc nc cs b (ns + (bNames bl).length) (sc ++ bNames bl) ks hN.sk hN.wk (by omega) ak ck K xk w4 (HO.out.1.later HB4.out.1) HB4.out.2 (HO.out.2.2.1.move fun g hg lt => ⟨hg, HB4.out.1.block g lt⟩) (HO.out.2.2.2.2.1.move fun g hg lt => ⟨hg, HB4.out.1.block g lt⟩))
        go_wp2_with fail
        refine HF2.out.mono ?_
        rintro e w5 ⟨rfl, hb5⟩
        have HB5 := Hd (onB' HB4.out.1 hb5)
        clear hb5 HF2
        go_wp2_with fail
        go_ret
        exact ⟨by rw [HT.out, HT2.out]; rfl, HB5.out⟩
    · clear hb1 hb2 H12 HWw HNm HU ho k0 k1 d0 d1 d4 d5 r0 r1 r6
      have h1s := H1.size
      have h0s := HX.out.1.size
      have hg := Gt (set_grown w2 W.heap.size 0 (.map (some bc))) (set_grown (w2.setCell ⟨W.heap.size, 0, none⟩ (.map (some bc))) W.heap.size 1 (.map (some b)))
      have HE := Hd (Ai (below_of_new H2 hg (by omega)) (hs.same (hg.block b hs.lt (by simpa using hs.ne q0))))
      have HBy := Hd (show BoxW ((w2.setCell ⟨W.heap.size, 0, none⟩ (.map (some bc))).setCell ⟨W.heap.size, 1, none⟩ (.map (some b))) W.heap.size [.map (some bc), .map (some b)] from (HBz.set 0 (show 0 < 2 by decide) (.map (some bc))).set 1 (show 1 < 2 by decide) (.map (some b)))
      have x5 := hg.cell k5 (by simp; omega)
      have x6 := hg.cell k6 (by simp; omega)
      clear hg HBz
      clear k5 k6 hs
      generalize ((w2.setCell ⟨W.heap.size, 0, none⟩ (.map (some bc))).setCell ⟨W.heap.size, 1, none⟩ (.map (some b))) = W3 at *
      have s0 : W3.cell? ⟨W.heap.size, 0, none⟩ = some (.map (some bc)) := HBy.out.1 0 _ rfl
      have s1 : W3.cell? ⟨W.heap.size, 1, none⟩ = some (.map (some b)) := HBy.out.1 1 _ rfl
      have HF1 := Hd (first_binds n hP bc nc cs b (ns + (bNames bl).length) (sc ++ bNames bl) bl hN.sb hN.wb (by omega) ab cb K K xb W3 (HO.out.1.later HE.out.1) HE.out.2 (HO.out.2.2.2.1.move fun g hg lt => ⟨hg, HE.out.1.block g lt⟩) (HO.out.2.2.2.2.2.move fun g hg lt => ⟨hg, HE.out.1.block g lt⟩))
      go_wp2_with fail
      refine HF1.out.mono ?_
      rintro e w4 ⟨rfl, hb4⟩
      have HB4 := Hd (Ai (onB' HE.out.1 hb4) (HE.out.2.later hb4))
      have y5 := later' hb4 x5
      have y0 := later' hb4 s0
      have y1 := later' hb4 s1
      clear hb4 HF1 s0 s1 x5 x6
      cases hfo : scBs cs (sc ++ bNames bl) bl with
      | some fo =>
        obtain ⟨er, nn⟩ := fo
        have HT2 := Hd hfo
        unfold vErr
        clear hfo
        go_wp2_with fail
        go_ret
        exact ⟨by rw [HT.out, HT2.out]; rfl, HB4.out.1⟩
      | none =>
        have HT2 := Hd hfo
        unfold vErr
        clear hfo
        have HF2 := Hd (first_exprs n hP bc nc cs b (ns + (bNames bl).length) (sc ++ bNames bl) ks hN.sk hN.wk (by omega) ak ck K xk w4 (HO.out.1.later HB4.out.1) HB4.out.2 (HO.out.2.2.1.move fun g hg lt => ⟨hg, HB4.out.1.block g lt⟩) (HO.out.2.2.2.2.1.move fun g hg lt => ⟨hg, HB4.out.1.block g lt⟩))
        go_wp2_with fail
        refine HF2.out.mono ?_
        rintro e w5 ⟨rfl, hb5⟩
        have HB5 := Hd (onB' HB4.out.1 hb5)
        clear hb5 HF2
        go_wp2_with fail
        go_ret
        exact ⟨by rw [HT.out, HT2.out]; rfl, HB5.out⟩
end Go.Proofs.YtdjcdecbmeickaaGreatDoor
