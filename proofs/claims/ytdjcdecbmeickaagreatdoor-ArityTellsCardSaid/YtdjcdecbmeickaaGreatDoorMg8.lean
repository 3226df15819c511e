import Derived.Test.YtdjcdecbmeickaaGreatDoorMg4
import Derived.Test.YtdjcdecbmeickaaGreatDoorMg5
import Derived.Test.YtdjcdecbmeickaaGreatDoorMg7
namespace Go.Proofs.YtdjcdecbmeickaaGreatDoor
set_option maxHeartbeats 64000000
set_option maxRecDepth 100000
open Go.RowKit Go.Lib
def lookA (cs : List (Nm × Int)) (n : Nm) : Int := ((cs.find? fun d => d.1 == n).map (·.2)).getD 0
def takesL (n : Nm) : Int :=
  if n = [119, 101, 97, 107] then 3
  else if n = [100, 101, 114, 101, 102] ∨ n = [102, 108, 111, 97, 116] ∨ n = [116, 114, 117, 110, 99] then 1
  else if n = [115, 101, 113] ∨ n = [43] ∨ n = [45] ∨ n = [42] ∨ n = [47] ∨ n = [37] ∨ n = [61, 61] ∨ n = [60] ∨ n = [43, 46] ∨ n = [45, 46] ∨ n = [42, 46] ∨ n = [47, 46] ∨ n = [61, 61, 46] ∨ n = [60, 46] then 2
  else 0
def oneF (c : Bool) (e : Int) (n : Nm) : Fo := if c = true then some (e, n) else none
mutual
def arE (cs : List (Nm × Int)) : Ex → Fo
  | .mk k n _ _ ps ks bs al =>
    (if k = 2 then oneF (decide ((ks.length : Int) ≠ lookA cs n)) 11 n
     else if k = 5 then oneF (decide ((ks.length : Int) ≠ takesL n)) 11 n
     else if k = 4 then oneF (decide (25 < ks.length)) 12 []
     else if k = 8 then oneF (decide (24 < ps.length)) 12 (ps.headD [])
     else none).or ((arBs cs bs).or ((arEs cs ks).or (arAs cs al)))
def arEs (cs : List (Nm × Int)) : List Ex → Fo
  | [] => none
  | e :: r => (arE cs e).or (arEs cs r)
def arBs (cs : List (Nm × Int)) : List (Nm × List Nm × Ex) → Fo
  | [] => none
  | (n, ps, e) :: r => ((oneF (decide (24 < ps.length)) 12 n).or (arE cs e)).or (arBs cs r)
def arAs (cs : List (Nm × Int)) : List (Int × Nm × Bool × Int × List Nm × Ex) → Fo
  | [] => none
  | (k, n, _, _, ns, e) :: r => ((if k = 0 then oneF (decide ((ns.length : Int) ≠ lookA cs n)) 11 n else none).or (arE cs e)).or (arAs cs r)
end
def countD (cs : List (Nm × Int)) (n : Nm) (k : Int) : Fo := oneF (cs.any fun d => d.1 == n && decide (d.2 ≠ k)) 11 n
mutual
def adE (cs : List (Nm × Int)) : Ex → Fo
  | .mk k n _ _ ps ks bs al =>
    (if k = 2 then countD cs n ks.length
     else if k = 5 then oneF (decide ((ks.length : Int) ≠ takesL n)) 11 n
     else if k = 4 then oneF (decide (25 < ks.length)) 12 []
     else if k = 8 then oneF (decide (24 < ps.length)) 12 (ps.headD [])
     else none).or ((adBs cs bs).or ((adEs cs ks).or (adAs cs al)))
def adEs (cs : List (Nm × Int)) : List Ex → Fo
  | [] => none
  | e :: r => (adE cs e).or (adEs cs r)
def adBs (cs : List (Nm × Int)) : List (Nm × List Nm × Ex) → Fo
  | [] => none
  | (n, ps, e) :: r => ((oneF (decide (24 < ps.length)) 12 n).or (adE cs e)).or (adBs cs r)
def adAs (cs : List (Nm × Int)) : List (Int × Nm × Bool × Int × List Nm × Ex) → Fo
  | [] => none
  | (k, n, _, _, ns, e) :: r => ((if k = 0 then countD cs n ns.length else none).or (adE cs e)).or (adAs cs r)
end
def mainF (bs : List Bnd) : Fo := oneF (bs.any fun b => b.1 == mainL && decide (0 < b.2.1.length)) 11 mainL
def arM (m : Md) : Fo := (scM m).or ((mainF m.2).or (arBs (four ++ m.1) m.2))
def adM (m : Md) : Fo := (sdM m).or ((mainF m.2).or (adBs (four ++ m.1) m.2))
theorem count_eq : ∀ {cs : List (Nm × Int)} {n : Nm}, (cs.map (·.1)).Nodup → n ∈ cs.map (·.1) → ∀ k, countD cs n k = oneF (decide (k ≠ lookA cs n)) 11 n := by
  intro cs n hn hm k
  have h : ∀ (l : List (Nm × Int)), (l.map (·.1)).Nodup → n ∈ l.map (·.1) → (l.any fun d => d.1 == n && decide (d.2 ≠ k)) = decide (k ≠ lookA l n) := by
    intro l
    induction l with
    | nil => intro _ h; cases h
    | cons d r ih =>
      intro h1 h2
      obtain ⟨h3, h4⟩ := List.nodup_cons.1 h1
      rw [List.any_cons]
      unfold lookA
      rw [List.find?_cons]
      by_cases g : d.1 = n
      · have hr : (r.any fun d => d.1 == n && decide (d.2 ≠ k)) = false := by
          rw [List.any_eq_false]
          intro x hx
          have : x.1 ≠ n := fun e => h3 (List.mem_map.2 ⟨x, hx, e.trans g.symm⟩)
          simp [this]
        rw [hr]
        have gb : (d.1 == n) = true := by simpa using g
        simp only [gb, Bool.true_and, Bool.or_false, Option.map_some, Option.getD_some]
        exact decide_eq_decide.2 ⟨fun e q => e q.symm, fun e q => e q.symm⟩
      · have gb : (d.1 == n) = false := by simpa using g
        have hm' : n ∈ r.map (·.1) := by
          rcases List.mem_cons.1 h2 with e | e
          · exact absurd e.symm g
          · exact e
        simp only [gb, Bool.false_and, Bool.false_or]
        exact ih h4 hm'
  unfold countD
  rw [h cs hn hm]
mutual
theorem adE_eq {cs : List (Nm × Int)} (hn : (cs.map (·.1)).Nodup) : ∀ (e : Ex) (sc : List Nm), wfE e → scE (cs.map (·.1)) sc e = none → adE cs e = arE cs e
  | .mk k n f x ps ks bs al, sc, hw, he => by
    unfold wfE at hw
    obtain ⟨w1, w2, -, -, w5, w6, w7, w8, -⟩ := hw
    unfold scE at he
    have a0 : adAs cs [] = arAs cs [] := by unfold adAs arAs; rfl
    have b0 : adBs cs [] = arBs cs [] := by unfold adBs arBs; rfl
    have k0 : adEs cs [] = arEs cs [] := by unfold adEs arEs; rfl
    have hall : adBs cs bs = arBs cs bs ∧ adEs cs ks = arEs cs ks ∧ adAs cs al = arAs cs al ∧ (k = 2 → n ∈ cs.map (·.1)) := by
      by_cases g1 : k = 1
      · rw [w1 g1, w2 (by omega), w8 (by omega)]
        exact ⟨b0, k0, a0, fun q => by omega⟩
      rw [if_neg g1] at he
      by_cases g2 : k = 2
      · rw [if_pos g2] at he
        obtain ⟨p, q⟩ := or_none.1 he
        rw [w2 (by omega), w8 (by omega)]
        exact ⟨b0, adEs_eq hn ks sc w5 q, a0, fun _ => hasF_none.1 p⟩
      rw [if_neg g2] at he
      by_cases g6 : k = 6
      · rw [if_pos g6] at he
        obtain ⟨-, q⟩ := or_none.1 he
        obtain ⟨p, q⟩ := or_none.1 q
        rw [w2 (by omega)]
        exact ⟨adBs_eq hn bs _ w6 p, adEs_eq hn ks _ w5 q, a0, fun q => absurd q g2⟩
      rw [if_neg g6] at he
      rw [w8 g6]
      by_cases g7 : k = 7
      · rw [if_pos g7] at he
        obtain ⟨p, q⟩ := or_none.1 he
        exact ⟨b0, adEs_eq hn ks _ w5 p, adAs_eq hn al _ w7 q, fun q => absurd q g2⟩
      rw [if_neg g7] at he
      rw [w2 g7]
      by_cases g8 : k = 8
      · rw [if_pos g8] at he
        obtain ⟨-, q⟩ := or_none.1 he
        exact ⟨b0, adEs_eq hn ks _ w5 q, a0, fun q => absurd q g2⟩
      · rw [if_neg g8] at he
        exact ⟨b0, adEs_eq hn ks _ w5 he, a0, fun q => absurd q g2⟩
    obtain ⟨p1, p2, p3, p4⟩ := hall
    unfold adE arE
    rw [p1, p2, p3]
    by_cases g2 : k = 2
    · rw [if_pos g2, if_pos g2, count_eq hn (p4 g2)]
    · rw [if_neg g2, if_neg g2]
theorem adEs_eq {cs : List (Nm × Int)} (hn : (cs.map (·.1)).Nodup) : ∀ (l : List Ex) (sc : List Nm), wfEs l → scEs (cs.map (·.1)) sc l = none → adEs cs l = arEs cs l
  | [], _, _, _ => by unfold adEs arEs; rfl
  | e :: r, sc, hw, he => by
    unfold wfEs at hw
    unfold scEs at he
    obtain ⟨p, q⟩ := or_none.1 he
    unfold adEs arEs
    rw [adE_eq hn e sc hw.1 p, adEs_eq hn r sc hw.2 q]
theorem adBs_eq {cs : List (Nm × Int)} (hn : (cs.map (·.1)).Nodup) : ∀ (l : List (Nm × List Nm × Ex)) (sc : List Nm), wfBs l → scBs (cs.map (·.1)) sc l = none → adBs cs l = arBs cs l
  | [], _, _, _ => by unfold adBs arBs; rfl
  | (n, ps, e) :: r, sc, hw, he => by
    unfold wfBs at hw
    unfold scBs at he
    obtain ⟨p, q⟩ := or_none.1 he
    obtain ⟨-, p⟩ := or_none.1 p
    unfold adBs arBs
    rw [adE_eq hn e _ hw.1.2.2 p, adBs_eq hn r sc hw.2 q]
theorem adAs_eq {cs : List (Nm × Int)} (hn : (cs.map (·.1)).Nodup) : ∀ (l : List (Int × Nm × Bool × Int × List Nm × Ex)) (sc : List Nm), wfAs l → scAs (cs.map (·.1)) sc l = none → adAs cs l = arAs cs l
  | [], _, _, _ => by unfold adAs arAs; rfl
  | (k, n, f, x, ns, e) :: r, sc, hw, he => by
    unfold wfAs at hw
    unfold scAs at he
    obtain ⟨p, q⟩ := or_none.1 he
    unfold adAs arAs
    rw [adAs_eq hn r sc hw.2 q]
    by_cases g : k = 0
    · rw [if_pos g] at p
      obtain ⟨p1, p2⟩ := or_none.1 p
      obtain ⟨-, p3⟩ := or_none.1 p2
      rw [if_pos g, if_pos g, count_eq hn (hasF_none.1 p1), adE_eq hn e _ hw.1.2.2 p3]
    · rw [if_neg g] at p
      rw [if_neg g, if_neg g]
      by_cases g2 : k = 2
      · rw [if_pos g2] at p
        rw [adE_eq hn e _ hw.1.2.2 p]
      · rw [if_neg g2] at p
        rw [adE_eq hn e _ hw.1.2.2 p]
end
theorem adM_eq {m : Md} (h : wfBs m.2) : adM m = arM m := by
  unfold adM arM
  rw [sdM_eq h]
  cases hs : scM m with
  | some x => rfl
  | none =>
    obtain ⟨h1, h2, h3, h4⟩ := (scM_none m).1 hs
    have hb : scBs ((four ++ m.1).map (·.1)) (bNames m.2) m.2 = none := (scBs_none _).2 h4
    rw [adBs_eq h1 m.2 (bNames m.2) h hb]
def AMap (w : World) (b n : Nat) (f : Nm → Int) : Prop :=
  ∃ D : DataW Unit, w.ownsMap Tryz.prog 9 (plainElem Tryz.prog 3) b n D ∧ ∀ x, D.atKey (.string x) (.lit (.int .i64 0)) = .lit (.int .i64 (f x))
theorem amap_made (w : World) : AMap (w.alloc (.map #[] 0)) w.heap.size 0 (fun _ => 0) := ⟨_, World.ownsMap_made w _ _ _, fun _ => rfl⟩
theorem AMap.same {w w' : World} {b n : Nat} {f : Nm → Int} (h : AMap w b n f) (hk : w'.heap[b]? = w.heap[b]?) : AMap w' b n f := by
  obtain ⟨D, ⟨es, c, hb, r⟩, h2⟩ := h
  exact ⟨D, ⟨es, c, hk.trans hb, r⟩, h2⟩
theorem AMap.lt {w : World} {b n : Nat} {f : Nm → Int} (h : AMap w b n f) : b < w.heap.size := by
  obtain ⟨D, h1, h2⟩ := h
  exact h1.lt
theorem AMap.later {w w' : World} {b n : Nat} {f : Nm → Int} (h : AMap w b n f) (hb : Below w.heap.size w w') : AMap w' b n f := h.same (hb.block b h.lt)
theorem AMap.to {w : World} {b n : Nat} {f g : Nm → Int} (h : AMap w b n f) (e : ∀ x, f x = g x) : AMap w b n g := by
  obtain rfl : f = g := funext e
  exact h
theorem AMap.ne {w : World} {b n k i : Nat} {f : Nm → Int} {v : Value} (h : AMap w b n f) (hc : w.cell? ⟨k, i, none⟩ = some v) : b ≠ k := by
  obtain ⟨D, ⟨es, c, hb, r⟩, h2⟩ := h
  intro e
  subst e
  simp [World.cell?, hb] at hc
theorem nzero_int (w : World) : (zeroValue 3).run Tryz.prog w = .ok (.int .i64 0) w := rfl
theorem AMap.look {w : World} {b n : Nat} {f : Nm → Int} (h : AMap w b n f) (x : Nm) (hx : x.length ≤ 100000) :
    (Instr.lookup 36 (.map (some b)) (.string (tx x)) false).run Tryz.prog w = .ok (.int .i64 (f x)) w := by
  obtain ⟨D, h1, h2⟩ := h
  obtain ⟨c, hr, hat, _⟩ := h1.lookup_int (Maps.string_keyed Tryz.underlying9) Tryz.underlying36 Tryz.underlying3 (nzero_int _) (nkey_of x hx)
  rw [h2] at hat
  injection hat with hat
  injection hat with _ hat
  rw [hat]
  exact hr
def aput (f : Nm → Int) (k : Nm) (u : Int) : Nm → Int := fun l => if l = k then u else f l
theorem AMap.put {w : World} {b n : Nat} {f : Nm → Int} {D : DataW Unit} {k : Nm} {u : Int} (hT : Maps.Tidy D)
    (h1 : w.ownsMap Tryz.prog 9 (plainElem Tryz.prog 3) b n (D.put (.string k) (.lit (.int .i64 u)))) (h2 : ∀ x, D.atKey (.string x) (.lit (.int .i64 0)) = .lit (.int .i64 (f x))) : AMap w b n (aput f k u) := by
  refine ⟨_, h1, fun l => ?_⟩
  unfold aput
  by_cases e : l = k
  · subst e
    rw [if_pos rfl, Maps.atKey_put_same hT.isMap (by trivial)]
  · rw [if_neg e, Maps.atKey_put_other (by simpa using e)]
    exact h2 l
theorem wp_aput {o : Oper} {a : Act} {K : Act → World → Prop} {Q : Exit → Act → World → Prop} (w : World) (m x v : Operand) (hop : o.op = Op.mapUpdate 36 m x v ∨ o.op = Op.insert 36 m x v)
    (b n : Nat) (f : Nm → Int) (hm : a.eval m = .map (some b)) (h : AMap w b n f) (hn : n < 1000000) (k : Nm) (hk : k.length ≤ 100000) (u : Int) (hx : a.eval x = .string (tx k)) (hv : a.eval v = .int .i64 u) (hu : (Lit.int .i64 u).wf = true)
    (hK : ∀ w', AMap w' b (n + 1) (aput f k u) → w.grownBy w' (some b) → K (a.put o.dst undef) w') : Oper.wp Tryz.prog o a w K Q := by
  obtain ⟨D, h1, h2⟩ := h
  obtain ⟨w', hrun, r1, r2⟩ := h1.update (Maps.string_keyed Tryz.underlying9) Tryz.underlying36 (by unfold maxLen; omega) (nkey_of k hk) (plainElem_int Tryz.underlying3 hu)
  unfold Oper.wp
  have hk := hK w' (AMap.put (h1.tidy (Maps.string_keyed Tryz.underlying9)) r1 h2) r2
  rcases hop with hop | hop <;> simp [execOp, hop, hm, hx, hv, hrun, Result.andThen] <;> exact hk
theorem list_aput {ops : Array Oper} {rest : List Oper} {o : Oper} {a : Act} {Q : Exit → Act → World → Prop} (w : World) (hg : o.guard = none) (m x v : Operand) (hop : o.op = Op.mapUpdate 36 m x v ∨ o.op = Op.insert 36 m x v)
    (b n : Nat) (f : Nm → Int) (hm : a.eval m = .map (some b)) (h : AMap w b n f) (hn : n < 1000000) (k : Nm) (hk : k.length ≤ 100000) (u : Int) (hx : a.eval x = .string (tx k)) (hv : a.eval v = .int .i64 u) (hu : (Lit.int .i64 u).wf = true)
    (hK : ∀ w', AMap w' b (n + 1) (aput f k u) → w.grownBy w' (some b) → wpList Tryz.prog ops Q rest (a.put o.dst undef) w') : wpList Tryz.prog ops Q (o :: rest) a w :=
  wpList_plain hg fun _ hK' => wp_aput w m x v hop b n f hm h hn k hk u hx hv hu fun w' h1 h2 => hK' _ _ (hK w' h1 h2)
def vF (o : Fo) : Value := .agg #[.int .i64 (stN o).1, .string (tx (stN o).2)]
theorem setTwo {W : World} {b : Nat} {u0 u1 : Value} (h0 : W.cell? ⟨b, 0, none⟩ = some u0) (h1 : W.cell? ⟨b, 1, none⟩ = some u1) (v0 v1 : Value) : ((W.setCell ⟨b, 0, none⟩ v0).setCell ⟨b, 1, none⟩ v1).cell? ⟨b, 0, none⟩ = some v0 ∧ ((W.setCell ⟨b, 0, none⟩ v0).setCell ⟨b, 1, none⟩ v1).cell? ⟨b, 1, none⟩ = some v1 :=
  ⟨(at_oth _ _ _ _ _ (by decide)).trans (at_sam _ h0), at_sam _ ((at_oth _ _ _ _ _ (by decide)).trans h1)⟩
theorem below2 {w W : World} {b : Nat} (h : Below w.heap.size w W) (hb : w.heap.size ≤ b) (v0 v1 : Value) : Below w.heap.size w ((W.setCell ⟨b, 0, none⟩ v0).setCell ⟨b, 1, none⟩ v1) :=
  below_of_new (below_of_new h (set_grown ..) hb) (set_grown ..) hb
def FoNz (o : Fo) : Prop := ∀ e n, o = some (e, n) → e ≠ 0
theorem afirst_expr (ga gt gb gk gl : Nat) (F : Ex → Fo) (l : List Ex) (hz : ∀ x, x ∈ l → FoNz (F x)) (a : Option Addr) (c : Nat) (K K2 : Nat → Prop) (xs : List Value) (w : World) (hr : RowAt w K 57 8 (.slice a l.length c) l.length xs) (ht : ExsAt w K2 l xs)
    (HC : ∀ j (hj : j < l.length) (k : Int) (nm : Nm) (f : Bool) (u : Int) (ap : Option Addr) (np cp : Nat) (ak : Option Addr) (nk ck : Nat) (ab : Option Addr) (nb cb : Nat) (aa : Option Addr) (na ca : Nat) (W : World), Below w.heap.size w W → ExAt W K2 l[j] [.int .i64 k, .string (tx nm), .bool f, .int .u64 u, .slice ap np cp, .slice ak nk ck, .slice ab nb cb, .slice aa na ca] → Calls Tryz.prog 69 #[.agg #[.int .i64 k, .string (tx nm), .bool f, .int .u64 u, .slice ap np cp, .slice ak nk ck, .slice ab nb cb, .slice aa na ca], .pointer (some ⟨ga, 0, none⟩), .pointer (some ⟨gt, 0, none⟩), .pointer (some ⟨gb, 0, none⟩), .pointer (some ⟨gk, 0, none⟩), .pointer (some ⟨gl, 0, none⟩)] W fun e w' => e = .returned (vF (F l[j])) ∧ Below W.heap.size W w') :
    Calls Tryz.prog 70 #[.slice a l.length c, .func (.func 69) #[] #[.pointer (some ⟨ga, 0, none⟩), .pointer (some ⟨gt, 0, none⟩), .pointer (some ⟨gb, 0, none⟩), .pointer (some ⟨gk, 0, none⟩), .pointer (some ⟨gl, 0, none⟩)]] w fun e w' => e = .returned (vF (firstF F l)) ∧ Below w.heap.size w w' := by
  have HO := Hd (Ai hr ht)
  have HZ := Hd hz
  replace HC := Hd HC
  have hmx := hr.cap
  unfold maxLen at hmx
  clear hr ht hz
  have eg := enters_of Tryz.func69 (by kernel_rfl) rfl
  have HS := Hd (Ai ((Below.refl w.heap.size w).alloc Nr (.cells #[.int .i64 0, .string ⟨#[]⟩] 43)) (BoxW.alloc w #[.int .i64 0, .string ⟨#[]⟩] 43))
  go_enter Tryz.func70, Tryz.ntmps70
  go_wp2_with fail
  go_loopw [10] (fun s wr => ∃ j : Nat, j ≤ l.length ∧ s = .int .i64 j ∧ Below w.heap.size w wr ∧ BoxW wr w.heap.size [.int .i64 0, .string ⟨#[]⟩] ∧ firstF F (l.take j) = none) (fun s _ => l.length - (RowKit.intOf s).toNat)
  case atStart => exact ⟨0, Nat.zero_le _, rfl, HS.out.1, HS.out.2, rfl⟩
  case round =>
    obtain ⟨j, hj, rfl, hbr, hbx, hno⟩ := hrel
    have HR := Hd (Ai hbr hno)
    have HBx := Hd hbx
    clear hbr hno hbx HS
    by_cases gj : j < l.length
    · have gj' : (j : Int) < (l.length : Int) := by omega
      obtain ⟨k, nm, f, u, ap, np, cp, ak, nk, ck, ab, nb, cb, aa, na, ca, hE, hc⟩ := HO.out.2.cells j gj
      obtain ⟨g1, o1, ea1, k1, m1', -, ht1⟩ := HO.out.1.at (by omega)
      subst ea1
      have HP := Hd (fun i v h => later' HR.out.1 (ht1 _ _ (hc i v h)))
      have HT := Hd (show l.take (j + 1) = l.take j ++ [l[j]] from List.take_succ_eq_append_getElem gj)
      have HF := Hd (firstF_here F l j gj HR.out.2)
      have HZj := Hd (HZ.out l[j] (List.getElem_mem gj))
      have HCj := Hd (fun (W : World) (hb : Below w.heap.size w W) => HC.out j gj k nm f u ap np cp ak nk ck ab nb cb aa na ca W hb (hE.move fun g hk lt => ⟨hk, hb.block g lt⟩))
      clear ht1 hc HC HZ hE
      generalize hfo : F l[j] = fo at *
      have HTj := Hd (show firstF F (l.take (j + 1)) = fo by rw [HT.out, firstF_snoc, HR.out.2, hfo]; rfl)
      clear hfo HT
      have p0 : wr.cell? ⟨g1, o1 + j * 8, none⟩ = some (.int .i64 k) := HP.out 0 _ rfl
      have p1 : wr.cell? ⟨g1, o1 + j * 8 + 1, none⟩ = some (.string (tx nm)) := by rw [Nat.add_assoc]; exact HP.out 1 _ rfl
      have p2 : wr.cell? ⟨g1, o1 + j * 8 + 2, none⟩ = some (.bool f) := by rw [Nat.add_assoc]; exact HP.out 2 _ rfl
      have p3 : wr.cell? ⟨g1, o1 + j * 8 + 3, none⟩ = some (.int .u64 u) := by rw [Nat.add_assoc]; exact HP.out 3 _ rfl
      have p4 : wr.cell? ⟨g1, o1 + j * 8 + 4, none⟩ = some (.slice ap np cp) := by rw [Nat.add_assoc]; exact HP.out 4 _ rfl
      have p5 : wr.cell? ⟨g1, o1 + j * 8 + 5, none⟩ = some (.slice ak nk ck) := by rw [Nat.add_assoc]; exact HP.out 5 _ rfl
      have p6 : wr.cell? ⟨g1, o1 + j * 8 + 6, none⟩ = some (.slice ab nb cb) := by rw [Nat.add_assoc]; exact HP.out 6 _ rfl
      have p7 : wr.cell? ⟨g1, o1 + j * 8 + 7, none⟩ = some (.slice aa na ca) := by rw [Nat.add_assoc]; exact HP.out 7 _ rfl
      have ej : IntKind.i64.wrap ((j : Int) + 1) = (j : Int) + 1 := by rw [IntKind.wrap_i64]; omega
      have b0 : (0 : Int) ≤ (j : Int) := by omega
      have hx := (Below.refl wr.heap.size wr).alloc Nr (.cells #[.int .i64 k, .string (tx nm), .bool f, .int .u64 u, .slice ap np cp, .slice ak nk ck, .slice ab nb cb, .slice aa na ca] 57)
      have HX := Hd hx
      have HBx2 := Hd (HBx.out.below hx)
      clear hx
      go_wp2_with fail
      refine (HCj.out _ (onB' HR.out.1 HX.out)).mono ?_
      rintro e w4 ⟨rfl, hb4⟩
      have HB4 := Hd (onB' (onB' HR.out.1 HX.out) hb4)
      have HBx4 := Hd (HBx2.out.below hb4)
      clear hb4 HCj HP
      cases hfo : fo with
      | none =>
        have hy := (Below.refl w4.heap.size w4).alloc Nr (.cells #[.int .i64 0, .string ⟨#[]⟩] 43)
        have HB5 := Hd (onB' HB4.out hy)
        have HBx5 := Hd (HBx4.out.below hy)
        clear hy
        have ev : vF none = .agg #[.int .i64 0, .string ⟨#[]⟩] := rfl
        rw [ev]
        clear ev
        have HTn := Hd (HTj.out.trans hfo)
        clear hfo
        go_wp2_with fail
        exact ⟨⟨j + 1, by omega, by go_num, HB5.out, HBx5.out, HTn.out⟩, by simp [RowKit.intOf]; omega⟩
      | some v =>
        obtain ⟨er, n⟩ := v
        have HFn := Hd (HF.out (by rw [hfo]; rfl))
        have hne : (er != 0) = true := by simpa using HZj.out er n hfo
        have hy := (Below.refl w4.heap.size w4).alloc Nr (.cells #[.int .i64 er, .string (tx n)] 43)
        have HB5 := Hd (onB' HB4.out hy)
        have HBx5 := Hd (HBx4.out.below hy)
        have r0 := HBx5.out.1 0 _ rfl
        have r1 := HBx5.out.1 1 _ rfl
        have t0 := HBx5.out.2 0
        have t1 := HBx5.out.2 1
        clear hy
        have ev : vF (some (er, n)) = .agg #[.int .i64 er, .string (tx n)] := rfl
        rw [ev]
        clear ev HF HTj HZj
        subst hfo
        go_wp2_with fail
        have v0 := (setTwo r0 r1 (.int .i64 er) (.string (tx n))).1
        have v1 := (setTwo r0 r1 (.int .i64 er) (.string (tx n))).2
        exact bodyPost_ret (v := .agg #[.int .i64 er, .string (tx n)]) (by simp [results, Tryz.results70, go_sem, v0, v1]) rfl ⟨by rw [HFn.out]; rfl, below2 HB5.out Nr _ _⟩
    · obtain rfl : j = l.length := by omega
      have r0 := HBx.out.1 0 _ rfl
      have r1 := HBx.out.1 1 _ rfl
      have t0 := HBx.out.2 0
      have t1 := HBx.out.2 1
      go_wp2_with fail
      have h := HR.out.2
      rw [List.take_length] at h
      rw [h]
      have v0 := (setTwo r0 r1 (.int .i64 0) (.string ⟨#[]⟩)).1
      have v1 := (setTwo r0 r1 (.int .i64 0) (.string ⟨#[]⟩)).2
      exact bodyPost_ret (v := .agg #[.int .i64 0, .string ⟨#[]⟩]) (by simp [results, Tryz.results70, go_sem, v0, v1]) rfl ⟨rfl, below2 HR.out.1 Nr _ _⟩
theorem afirst_bind (gk : Nat) (F : Bnd → Fo) (l : List Bnd) (hz : ∀ x, x ∈ l → FoNz (F x)) (a : Option Addr) (c : Nat) (K K2 : Nat → Prop) (xs : List Value) (w : World) (hr : RowAt w K 59 10 (.slice a l.length c) l.length xs) (ht : BndsAt w K2 l xs)
    (HC : ∀ j (hj : j < l.length) (aq : Option Addr) (cq : Nat) (k : Int) (nm : Nm) (f : Bool) (u : Int) (ap : Option Addr) (np cp : Nat) (ak : Option Addr) (nk ck : Nat) (ab : Option Addr) (nb cb : Nat) (aa : Option Addr) (na ca : Nat) (W : World), Below w.heap.size w W → RowAt W K2 9 1 (.slice aq l[j].2.1.length cq) l[j].2.1.length (namesV l[j].2.1) → ExAt W K2 l[j].2.2 [.int .i64 k, .string (tx nm), .bool f, .int .u64 u, .slice ap np cp, .slice ak nk ck, .slice ab nb cb, .slice aa na ca] → Calls Tryz.prog 67 #[.agg #[.string (tx l[j].1), .slice aq l[j].2.1.length cq, .int .i64 k, .string (tx nm), .bool f, .int .u64 u, .slice ap np cp, .slice ak nk ck, .slice ab nb cb, .slice aa na ca], .pointer (some ⟨gk, 0, none⟩)] W fun e w' => e = .returned (vF (F l[j])) ∧ Below W.heap.size W w') :
    Calls Tryz.prog 30 #[.slice a l.length c, .func (.func 67) #[] #[.pointer (some ⟨gk, 0, none⟩)]] w fun e w' => e = .returned (vF (firstF F l)) ∧ Below w.heap.size w w' := by
  have HO := Hd (Ai hr ht)
  have HZ := Hd hz
  replace HC := Hd HC
  have hmx := hr.cap
  unfold maxLen at hmx
  clear hr ht hz
  have eg := enters_of Tryz.func67 (by kernel_rfl) rfl
  have HS := Hd (Ai ((Below.refl w.heap.size w).alloc Nr (.cells #[.int .i64 0, .string ⟨#[]⟩] 43)) (BoxW.alloc w #[.int .i64 0, .string ⟨#[]⟩] 43))
  go_enter Tryz.func30, Tryz.ntmps30
  go_wp2_with fail
  go_loopw [10] (fun s wr => ∃ j : Nat, j ≤ l.length ∧ s = .int .i64 j ∧ Below w.heap.size w wr ∧ BoxW wr w.heap.size [.int .i64 0, .string ⟨#[]⟩] ∧ firstF F (l.take j) = none) (fun s _ => l.length - (RowKit.intOf s).toNat)
  case atStart => exact ⟨0, Nat.zero_le _, rfl, HS.out.1, HS.out.2, rfl⟩
  case round =>
    obtain ⟨j, hj, rfl, hbr, hbx, hno⟩ := hrel
    have HR := Hd (Ai hbr hno)
    have HBx := Hd hbx
    clear hbr hno hbx HS
    by_cases gj : j < l.length
    · have gj' : (j : Int) < (l.length : Int) := by omega
      obtain ⟨aq, cq, k, nm, f, u, ap, np, cp, ak, nk, ck, ab, nb, cb, aa, na, ca, hQ, hE, hc⟩ := HO.out.2.cells j gj
      obtain ⟨g1, o1, ea1, k1, m1', -, ht1⟩ := HO.out.1.at (by omega)
      subst ea1
      have HP := Hd (fun i v h => later' HR.out.1 (ht1 _ _ (hc i v h)))
      have HT := Hd (show l.take (j + 1) = l.take j ++ [l[j]] from List.take_succ_eq_append_getElem gj)
      have HF := Hd (firstF_here F l j gj HR.out.2)
      have HZj := Hd (HZ.out l[j] (List.getElem_mem gj))
      have HCj := Hd (fun (W : World) (hb : Below w.heap.size w W) => HC.out j gj aq cq k nm f u ap np cp ak nk ck ab nb cb aa na ca W hb (hQ.move fun g hk lt => ⟨hk, hb.block g lt⟩) (hE.move fun g hk lt => ⟨hk, hb.block g lt⟩))
      clear ht1 hc HC HZ hE hQ
      generalize hfo : F l[j] = fo at *
      have HTj := Hd (show firstF F (l.take (j + 1)) = fo by rw [HT.out, firstF_snoc, HR.out.2, hfo]; rfl)
      clear hfo HT
      generalize l[j].1 = nb0 at *
      generalize l[j].2.1.length = nq at *
      have p0 : wr.cell? ⟨g1, o1 + j * 10, none⟩ = some (.string (tx nb0)) := HP.out 0 _ rfl
      have p1 : wr.cell? ⟨g1, o1 + j * 10 + 1, none⟩ = some (.slice aq nq cq) := by rw [Nat.add_assoc]; exact HP.out 1 _ rfl
      have p2 : wr.cell? ⟨g1, o1 + j * 10 + 2, none⟩ = some (.int .i64 k) := by rw [Nat.add_assoc]; exact HP.out 2 _ rfl
      have p3 : wr.cell? ⟨g1, o1 + j * 10 + 3, none⟩ = some (.string (tx nm)) := by rw [Nat.add_assoc]; exact HP.out 3 _ rfl
      have p4 : wr.cell? ⟨g1, o1 + j * 10 + 4, none⟩ = some (.bool f) := by rw [Nat.add_assoc]; exact HP.out 4 _ rfl
      have p5 : wr.cell? ⟨g1, o1 + j * 10 + 5, none⟩ = some (.int .u64 u) := by rw [Nat.add_assoc]; exact HP.out 5 _ rfl
      have p6 : wr.cell? ⟨g1, o1 + j * 10 + 6, none⟩ = some (.slice ap np cp) := by rw [Nat.add_assoc]; exact HP.out 6 _ rfl
      have p7 : wr.cell? ⟨g1, o1 + j * 10 + 7, none⟩ = some (.slice ak nk ck) := by rw [Nat.add_assoc]; exact HP.out 7 _ rfl
      have p8 : wr.cell? ⟨g1, o1 + j * 10 + 8, none⟩ = some (.slice ab nb cb) := by rw [Nat.add_assoc]; exact HP.out 8 _ rfl
      have p9 : wr.cell? ⟨g1, o1 + j * 10 + 9, none⟩ = some (.slice aa na ca) := by rw [Nat.add_assoc]; exact HP.out 9 _ rfl
      have ej : IntKind.i64.wrap ((j : Int) + 1) = (j : Int) + 1 := by rw [IntKind.wrap_i64]; omega
      have b0 : (0 : Int) ≤ (j : Int) := by omega
      have hx := (Below.refl wr.heap.size wr).alloc Nr (.cells #[.string (tx nb0), .slice aq nq cq, .int .i64 k, .string (tx nm), .bool f, .int .u64 u, .slice ap np cp, .slice ak nk ck, .slice ab nb cb, .slice aa na ca] 59)
      have HX := Hd hx
      have HBx2 := Hd (HBx.out.below hx)
      clear hx
      go_wp2_with fail
      refine (HCj.out _ (onB' HR.out.1 HX.out)).mono ?_
      rintro e w4 ⟨rfl, hb4⟩
      have HB4 := Hd (onB' (onB' HR.out.1 HX.out) hb4)
      have HBx4 := Hd (HBx2.out.below hb4)
      clear hb4 HCj HP
      cases hfo : fo with
      | none =>
        have hy := (Below.refl w4.heap.size w4).alloc Nr (.cells #[.int .i64 0, .string ⟨#[]⟩] 43)
        have HB5 := Hd (onB' HB4.out hy)
        have HBx5 := Hd (HBx4.out.below hy)
        clear hy
        have ev : vF none = .agg #[.int .i64 0, .string ⟨#[]⟩] := rfl
        rw [ev]
        clear ev
        have HTn := Hd (HTj.out.trans hfo)
        clear hfo
        go_wp2_with fail
        exact ⟨⟨j + 1, by omega, by go_num, HB5.out, HBx5.out, HTn.out⟩, by simp [RowKit.intOf]; omega⟩
      | some v =>
        obtain ⟨er, n⟩ := v
        have HFn := Hd (HF.out (by rw [hfo]; rfl))
        have hne : (er != 0) = true := by simpa using HZj.out er n hfo
        have hy := (Below.refl w4.heap.size w4).alloc Nr (.cells #[.int .i64 er, .string (tx n)] 43)
        have HB5 := Hd (onB' HB4.out hy)
        have HBx5 := Hd (HBx4.out.below hy)
        have r0 := HBx5.out.1 0 _ rfl
        have r1 := HBx5.out.1 1 _ rfl
        have t0 := HBx5.out.2 0
        have t1 := HBx5.out.2 1
        clear hy
        have ev : vF (some (er, n)) = .agg #[.int .i64 er, .string (tx n)] := rfl
        rw [ev]
        clear ev HF HTj HZj
        subst hfo
        go_wp2_with fail
        have v0 := (setTwo r0 r1 (.int .i64 er) (.string (tx n))).1
        have v1 := (setTwo r0 r1 (.int .i64 er) (.string (tx n))).2
        exact bodyPost_ret (v := .agg #[.int .i64 er, .string (tx n)]) (by simp [results, Tryz.results30, go_sem, v0, v1]) rfl ⟨by rw [HFn.out]; rfl, below2 HB5.out Nr _ _⟩
    · obtain rfl : j = l.length := by omega
      have r0 := HBx.out.1 0 _ rfl
      have r1 := HBx.out.1 1 _ rfl
      have t0 := HBx.out.2 0
      have t1 := HBx.out.2 1
      go_wp2_with fail
      have h := HR.out.2
      rw [List.take_length] at h
      rw [h]
      have v0 := (setTwo r0 r1 (.int .i64 0) (.string ⟨#[]⟩)).1
      have v1 := (setTwo r0 r1 (.int .i64 0) (.string ⟨#[]⟩)).2
      exact bodyPost_ret (v := .agg #[.int .i64 0, .string ⟨#[]⟩]) (by simp [results, Tryz.results30, go_sem, v0, v1]) rfl ⟨rfl, below2 HR.out.1 Nr _ _⟩
theorem afirst_alt (ga gk : Nat) (F : Alt → Fo) (l : List Alt) (hz : ∀ x, x ∈ l → FoNz (F x)) (a : Option Addr) (c : Nat) (K K2 : Nat → Prop) (xs : List Value) (w : World) (hr : RowAt w K 135 13 (.slice a l.length c) l.length xs) (ht : AltsAt w K2 l xs)
    (HC : ∀ j (hj : j < l.length) (aq : Option Addr) (cq : Nat) (k : Int) (nm : Nm) (f : Bool) (u : Int) (ap : Option Addr) (np cp : Nat) (ak : Option Addr) (nk ck : Nat) (ab : Option Addr) (nb cb : Nat) (aa : Option Addr) (na ca : Nat) (W : World), Below w.heap.size w W → RowAt W K2 9 1 (.slice aq l[j].2.2.2.2.1.length cq) l[j].2.2.2.2.1.length (namesV l[j].2.2.2.2.1) → ExAt W K2 l[j].2.2.2.2.2 [.int .i64 k, .string (tx nm), .bool f, .int .u64 u, .slice ap np cp, .slice ak nk ck, .slice ab nb cb, .slice aa na ca] → Calls Tryz.prog 68 #[.agg #[.int .i64 l[j].1, .string (tx l[j].2.1), .bool l[j].2.2.1, .int .u64 l[j].2.2.2.1, .slice aq l[j].2.2.2.2.1.length cq, .int .i64 k, .string (tx nm), .bool f, .int .u64 u, .slice ap np cp, .slice ak nk ck, .slice ab nb cb, .slice aa na ca], .pointer (some ⟨ga, 0, none⟩), .pointer (some ⟨gk, 0, none⟩)] W fun e w' => e = .returned (vF (F l[j])) ∧ Below W.heap.size W w') :
    Calls Tryz.prog 71 #[.slice a l.length c, .func (.func 68) #[] #[.pointer (some ⟨ga, 0, none⟩), .pointer (some ⟨gk, 0, none⟩)]] w fun e w' => e = .returned (vF (firstF F l)) ∧ Below w.heap.size w w' := by
  have HO := Hd (Ai hr ht)
  have HZ := Hd hz
  replace HC := Hd HC
  have hmx := hr.cap
  unfold maxLen at hmx
  clear hr ht hz
  have eg := enters_of Tryz.func68 (by kernel_rfl) rfl
  have HS := Hd (Ai ((Below.refl w.heap.size w).alloc Nr (.cells #[.int .i64 0, .string ⟨#[]⟩] 43)) (BoxW.alloc w #[.int .i64 0, .string ⟨#[]⟩] 43))
  go_enter Tryz.func71, Tryz.ntmps71
  go_wp2_with fail
  go_loopw [10] (fun s wr => ∃ j : Nat, j ≤ l.length ∧ s = .int .i64 j ∧ Below w.heap.size w wr ∧ BoxW wr w.heap.size [.int .i64 0, .string ⟨#[]⟩] ∧ firstF F (l.take j) = none) (fun s _ => l.length - (RowKit.intOf s).toNat)
  case atStart => exact ⟨0, Nat.zero_le _, rfl, HS.out.1, HS.out.2, rfl⟩
  case round =>
    obtain ⟨j, hj, rfl, hbr, hbx, hno⟩ := hrel
    have HR := Hd (Ai hbr hno)
    have HBx := Hd hbx
    clear hbr hno hbx HS
    by_cases gj : j < l.length
    · have gj' : (j : Int) < (l.length : Int) := by omega
      obtain ⟨aq, cq, k, nm, f, u, ap, np, cp, ak, nk, ck, ab, nb, cb, aa, na, ca, hQ, hE, hc⟩ := HO.out.2.cells j gj
      obtain ⟨g1, o1, ea1, k1, m1', -, ht1⟩ := HO.out.1.at (by omega)
      subst ea1
      have HP := Hd (fun i v h => later' HR.out.1 (ht1 _ _ (hc i v h)))
      have HT := Hd (show l.take (j + 1) = l.take j ++ [l[j]] from List.take_succ_eq_append_getElem gj)
      have HF := Hd (firstF_here F l j gj HR.out.2)
      have HZj := Hd (HZ.out l[j] (List.getElem_mem gj))
      have HCj := Hd (fun (W : World) (hb : Below w.heap.size w W) => HC.out j gj aq cq k nm f u ap np cp ak nk ck ab nb cb aa na ca W hb (hQ.move fun g hk lt => ⟨hk, hb.block g lt⟩) (hE.move fun g hk lt => ⟨hk, hb.block g lt⟩))
      clear ht1 hc HC HZ hE hQ
      generalize hfo : F l[j] = fo at *
      have HTj := Hd (show firstF F (l.take (j + 1)) = fo by rw [HT.out, firstF_snoc, HR.out.2, hfo]; rfl)
      clear hfo HT
      generalize l[j].2.1 = nb0 at *
      generalize l[j].2.2.2.2.1.length = nq at *
      generalize l[j].1 = kd at *
      generalize l[j].2.2.1 = fd at *
      generalize l[j].2.2.2.1 = ud at *
      have p0 : wr.cell? ⟨g1, o1 + j * 13, none⟩ = some (.int .i64 kd) := HP.out 0 _ rfl
      have p1 : wr.cell? ⟨g1, o1 + j * 13 + 1, none⟩ = some (.string (tx nb0)) := by rw [Nat.add_assoc]; exact HP.out 1 _ rfl
      have p2 : wr.cell? ⟨g1, o1 + j * 13 + 2, none⟩ = some (.bool fd) := by rw [Nat.add_assoc]; exact HP.out 2 _ rfl
      have p3 : wr.cell? ⟨g1, o1 + j * 13 + 3, none⟩ = some (.int .u64 ud) := by rw [Nat.add_assoc]; exact HP.out 3 _ rfl
      have p4 : wr.cell? ⟨g1, o1 + j * 13 + 4, none⟩ = some (.slice aq nq cq) := by rw [Nat.add_assoc]; exact HP.out 4 _ rfl
      have p5 : wr.cell? ⟨g1, o1 + j * 13 + 5, none⟩ = some (.int .i64 k) := by rw [Nat.add_assoc]; exact HP.out 5 _ rfl
      have p6 : wr.cell? ⟨g1, o1 + j * 13 + 6, none⟩ = some (.string (tx nm)) := by rw [Nat.add_assoc]; exact HP.out 6 _ rfl
      have p7 : wr.cell? ⟨g1, o1 + j * 13 + 7, none⟩ = some (.bool f) := by rw [Nat.add_assoc]; exact HP.out 7 _ rfl
      have p8 : wr.cell? ⟨g1, o1 + j * 13 + 8, none⟩ = some (.int .u64 u) := by rw [Nat.add_assoc]; exact HP.out 8 _ rfl
      have p9 : wr.cell? ⟨g1, o1 + j * 13 + 9, none⟩ = some (.slice ap np cp) := by rw [Nat.add_assoc]; exact HP.out 9 _ rfl
      have p10 : wr.cell? ⟨g1, o1 + j * 13 + 10, none⟩ = some (.slice ak nk ck) := by rw [Nat.add_assoc]; exact HP.out 10 _ rfl
      have p11 : wr.cell? ⟨g1, o1 + j * 13 + 11, none⟩ = some (.slice ab nb cb) := by rw [Nat.add_assoc]; exact HP.out 11 _ rfl
      have p12 : wr.cell? ⟨g1, o1 + j * 13 + 12, none⟩ = some (.slice aa na ca) := by rw [Nat.add_assoc]; exact HP.out 12 _ rfl
      have ej : IntKind.i64.wrap ((j : Int) + 1) = (j : Int) + 1 := by rw [IntKind.wrap_i64]; omega
      have b0 : (0 : Int) ≤ (j : Int) := by omega
      have hx := (Below.refl wr.heap.size wr).alloc Nr (.cells #[.int .i64 kd, .string (tx nb0), .bool fd, .int .u64 ud, .slice aq nq cq, .int .i64 k, .string (tx nm), .bool f, .int .u64 u, .slice ap np cp, .slice ak nk ck, .slice ab nb cb, .slice aa na ca] 135)
      have HX := Hd hx
      have HBx2 := Hd (HBx.out.below hx)
      clear hx
      go_wp2_with fail
      refine (HCj.out _ (onB' HR.out.1 HX.out)).mono ?_
      rintro e w4 ⟨rfl, hb4⟩
      have HB4 := Hd (onB' (onB' HR.out.1 HX.out) hb4)
      have HBx4 := Hd (HBx2.out.below hb4)
      clear hb4 HCj HP
      cases hfo : fo with
      | none =>
        have hy := (Below.refl w4.heap.size w4).alloc Nr (.cells #[.int .i64 0, .string ⟨#[]⟩] 43)
        have HB5 := Hd (onB' HB4.out hy)
        have HBx5 := Hd (HBx4.out.below hy)
        clear hy
        have ev : vF none = .agg #[.int .i64 0, .string ⟨#[]⟩] := rfl
        rw [ev]
        clear ev
        have HTn := Hd (HTj.out.trans hfo)
        clear hfo
        go_wp2_with fail
        exact ⟨⟨j + 1, by omega, by go_num, HB5.out, HBx5.out, HTn.out⟩, by simp [RowKit.intOf]; omega⟩
      | some v =>
        obtain ⟨er, n⟩ := v
        have HFn := Hd (HF.out (by rw [hfo]; rfl))
        have hne : (er != 0) = true := by simpa using HZj.out er n hfo
        have hy := (Below.refl w4.heap.size w4).alloc Nr (.cells #[.int .i64 er, .string (tx n)] 43)
        have HB5 := Hd (onB' HB4.out hy)
        have HBx5 := Hd (HBx4.out.below hy)
        have r0 := HBx5.out.1 0 _ rfl
        have r1 := HBx5.out.1 1 _ rfl
        have t0 := HBx5.out.2 0
        have t1 := HBx5.out.2 1
        clear hy
        have ev : vF (some (er, n)) = .agg #[.int .i64 er, .string (tx n)] := rfl
        rw [ev]
        clear ev HF HTj HZj
        subst hfo
        go_wp2_with fail
        have v0 := (setTwo r0 r1 (.int .i64 er) (.string (tx n))).1
        have v1 := (setTwo r0 r1 (.int .i64 er) (.string (tx n))).2
        exact bodyPost_ret (v := .agg #[.int .i64 er, .string (tx n)]) (by simp [results, Tryz.results71, go_sem, v0, v1]) rfl ⟨by rw [HFn.out]; rfl, below2 HB5.out Nr _ _⟩
    · obtain rfl : j = l.length := by omega
      have r0 := HBx.out.1 0 _ rfl
      have r1 := HBx.out.1 1 _ rfl
      have t0 := HBx.out.2 0
      have t1 := HBx.out.2 1
      go_wp2_with fail
      have h := HR.out.2
      rw [List.take_length] at h
      rw [h]
      have v0 := (setTwo r0 r1 (.int .i64 0) (.string ⟨#[]⟩)).1
      have v1 := (setTwo r0 r1 (.int .i64 0) (.string ⟨#[]⟩)).2
      exact bodyPost_ret (v := .agg #[.int .i64 0, .string ⟨#[]⟩]) (by simp [results, Tryz.results71, go_sem, v0, v1]) rfl ⟨rfl, below2 HR.out.1 Nr _ _⟩
def arB (cs : List (Nm × Int)) (b : Bnd) : Fo := (oneF (decide (24 < b.2.1.length)) 12 b.1).or (arE cs b.2.2)
def arA (cs : List (Nm × Int)) (a : Alt) : Fo := (if a.1 = 0 then oneF (decide ((a.2.2.2.2.1.length : Int) ≠ lookA cs a.2.1)) 11 a.2.1 else none).or (arE cs a.2.2.2.2.2)
def arH (cs : List (Nm × Int)) (k : Int) (n : Nm) (ps : List Nm) (nk : Nat) : Fo :=
  if k = 2 then oneF (decide ((nk : Int) ≠ lookA cs n)) 11 n
  else if k = 5 then oneF (decide ((nk : Int) ≠ takesL n)) 11 n
  else if k = 4 then oneF (decide (25 < nk)) 12 []
  else if k = 8 then oneF (decide (24 < ps.length)) 12 (ps.headD [])
  else none
theorem arEs_first (cs : List (Nm × Int)) : ∀ (l : List Ex), arEs cs l = firstF (arE cs) l
  | [] => by unfold arEs firstF; rfl
  | e :: r => by unfold arEs firstF; rw [arEs_first cs r]
theorem arBs_first (cs : List (Nm × Int)) : ∀ (l : List Bnd), arBs cs l = firstF (arB cs) l
  | [] => by unfold arBs firstF; rfl
  | (n, ps, e) :: r => by unfold arBs firstF; rw [arBs_first cs r]; rfl
theorem arAs_first (cs : List (Nm × Int)) : ∀ (l : List Alt), arAs cs l = firstF (arA cs) l
  | [] => by unfold arAs firstF; rfl
  | (k, n, f, x, ns, e) :: r => by unfold arAs firstF; rw [arAs_first cs r]; rfl
theorem arE_mk (cs : List (Nm × Int)) (k : Int) (n : Nm) (f : Bool) (u : Int) (ps : List Nm) (ks : List Ex) (bl : List Bnd) (al : List Alt) :
    arE cs (.mk k n f u ps ks bl al) = (arH cs k n ps ks.length).or ((firstF (arB cs) bl).or ((firstF (arE cs) ks).or (firstF (arA cs) al))) := by
  conv => lhs; unfold arE
  rw [arBs_first, arEs_first, arAs_first]
  rfl
theorem FoNz.or {a b : Fo} (ha : FoNz a) (hb : FoNz b) : FoNz (a.or b) := by
  cases a with
  | none => simpa using hb
  | some x => intro e n h; exact ha e n (by simpa using h)
theorem oneF_nz {c : Bool} {e : Int} {n : Nm} (he : e ≠ 0) : FoNz (oneF c e n) := by
  intro e' n' h
  unfold oneF at h
  split at h
  · cases h; exact he
  · cases h
theorem none_nz : FoNz none := fun _ _ h => by cases h
theorem firstF_nz {α : Type} {F : α → Fo} : ∀ {l : List α}, (∀ x, x ∈ l → FoNz (F x)) → FoNz (firstF F l)
  | [], _ => none_nz
  | x :: _, h => FoNz.or (h x (List.mem_cons_self ..)) (firstF_nz fun y hy => h y (List.mem_cons_of_mem _ hy))
theorem arH_nz (cs : List (Nm × Int)) (k : Int) (n : Nm) (ps : List Nm) (nk : Nat) : FoNz (arH cs k n ps nk) := by
  unfold arH
  split
  · exact oneF_nz (by decide)
  split
  · exact oneF_nz (by decide)
  split
  · exact oneF_nz (by decide)
  split
  · exact oneF_nz (by decide)
  · exact none_nz
theorem arE_nzn (cs : List (Nm × Int)) : ∀ (n : Nat) (e : Ex), SizeOf.sizeOf e ≤ n → FoNz (arE cs e)
  | 0, .mk k n f u ps ks bl al, h => by simp only [Ex.mk.sizeOf_spec] at h; omega
  | n + 1, .mk k nm f u ps ks bl al, h => by
    rw [arE_mk]
    simp only [Ex.mk.sizeOf_spec] at h
    refine FoNz.or (arH_nz _ _ _ _ _) (FoNz.or (firstF_nz fun x hx => ?_) (FoNz.or (firstF_nz fun x hx => ?_) (firstF_nz fun x hx => ?_)))
    · have := List.sizeOf_lt_of_mem hx
      obtain ⟨a, b, c⟩ := x
      simp only [Prod.mk.sizeOf_spec] at this
      exact (oneF_nz (by decide)).or (arE_nzn cs n c (by omega))
    · have := List.sizeOf_lt_of_mem hx
      exact arE_nzn cs n x (by omega)
    · have := List.sizeOf_lt_of_mem hx
      obtain ⟨a, b, c, d, e, g⟩ := x
      simp only [Prod.mk.sizeOf_spec] at this
      refine FoNz.or ?_ (arE_nzn cs n g (by omega))
      show FoNz (if a = 0 then _ else none)
      split
      · exact oneF_nz (by decide)
      · exact none_nz
theorem arE_nz (cs : List (Nm × Int)) (e : Ex) : FoNz (arE cs e) := arE_nzn cs _ e Nr
theorem arB_nz (cs : List (Nm × Int)) (b : Bnd) : FoNz (arB cs b) := (oneF_nz (by decide)).or (arE_nz cs _)
theorem arA_nz (cs : List (Nm × Int)) (a : Alt) : FoNz (arA cs a) := by
  refine FoNz.or ?_ (arE_nz cs _)
  split
  · exact oneF_nz (by decide)
  · exact none_nz
structure AskAt (W : World) (ga gt gb gk gl ma ma2 mt mt2 : Nat) (cs : List (Nm × Int)) : Prop where
  a : W.cell? ⟨ga, 0, none⟩ = some (.map (some ma))
  t : W.cell? ⟨gt, 0, none⟩ = some (.map (some mt))
  b : W.cell? ⟨gb, 0, none⟩ = some (.func (.func 67) #[] #[.pointer (some ⟨gk, 0, none⟩)])
  k : W.cell? ⟨gk, 0, none⟩ = some (.func (.func 69) #[] #[.pointer (some ⟨ga, 0, none⟩), .pointer (some ⟨gt, 0, none⟩), .pointer (some ⟨gb, 0, none⟩), .pointer (some ⟨gk, 0, none⟩), .pointer (some ⟨gl, 0, none⟩)])
  l : W.cell? ⟨gl, 0, none⟩ = some (.func (.func 68) #[] #[.pointer (some ⟨ga, 0, none⟩), .pointer (some ⟨gk, 0, none⟩)])
  am : AMap W ma ma2 (lookA cs)
  tm : AMap W mt mt2 takesL
theorem AskAt.later {W W' : World} {ga gt gb gk gl ma ma2 mt mt2 : Nat} {cs : List (Nm × Int)} (h : AskAt W ga gt gb gk gl ma ma2 mt mt2 cs) (hb : Below W.heap.size W W') : AskAt W' ga gt gb gk gl ma ma2 mt mt2 cs :=
  ⟨later' hb h.a, later' hb h.t, later' hb h.b, later' hb h.k, later' hb h.l, h.am.later hb, h.tm.later hb⟩
def AskC (ga gt gb gk gl ma ma2 mt mt2 : Nat) (cs : List (Nm × Int)) (n : Nat) : Prop :=
  ∀ (x : Ex) (K : Nat → Prop) (W : World) (k : Int) (nm : Nm) (f : Bool) (u : Int) (ap : Option Addr) (np cp : Nat) (ak : Option Addr) (nk ck : Nat) (ab : Option Addr) (nb cb : Nat) (aa : Option Addr) (na ca : Nat), SizeOf.sizeOf x ≤ n → wfE x → AskAt W ga gt gb gk gl ma ma2 mt mt2 cs → ExAt W K x [.int .i64 k, .string (tx nm), .bool f, .int .u64 u, .slice ap np cp, .slice ak nk ck, .slice ab nb cb, .slice aa na ca] →
    Calls Tryz.prog 69 #[.agg #[.int .i64 k, .string (tx nm), .bool f, .int .u64 u, .slice ap np cp, .slice ak nk ck, .slice ab nb cb, .slice aa na ca], .pointer (some ⟨ga, 0, none⟩), .pointer (some ⟨gt, 0, none⟩), .pointer (some ⟨gb, 0, none⟩), .pointer (some ⟨gk, 0, none⟩), .pointer (some ⟨gl, 0, none⟩)] W fun e w' => e = .returned (vF (arE cs x)) ∧ Below W.heap.size W w'
theorem afault_any (b : Nat) (st : Fo) (vc : Value) (er : Int) (he : er ≠ 0) (n : Nm) (w : World) (h : SAt w b st vc) : Calls Tryz.prog 18 #[.pointer (some ⟨b, 0, none⟩), .int .i64 er, .string (tx n)] w fun e w' => e = .returned (.tuple #[]) ∧ SAt w' b (st.or (some (er, n))) vc ∧ w.grownBy w' (some b) := by
  have q0 : w.cell? ⟨b, 0, none⟩ = some _ := h.box.1 0 _ rfl
  have q1 : w.cell? ⟨b, 1, none⟩ = some _ := h.box.1 1 _ rfl
  have z0 := h.box.2 0
  have z1 := h.box.2 1
  have HB := Hd h.box
  have HO := Hd h.ok
  cases st with
  | none =>
    have e0 : (stN none).1 = 0 := rfl
    have HF := Hd (show SAt ((w.setCell ⟨b, 0, none⟩ (.int .i64 er)).setCell ⟨b, 1, none⟩ (.string (tx n))) b (some (er, n)) vc from ⟨(h.box.set 0 (show 0 < 3 by decide) (.int .i64 er)).set 1 (show 1 < 3 by decide) (.string (tx n)), fun x hx => by cases hx; exact he⟩)
    show Calls _ _ _ _ fun e w' => e = .returned (.tuple #[]) ∧ SAt w' b (some (er, n)) vc ∧ _
    rw [e0] at q0
    clear h HO
    go_enter Tryz.func18, Tryz.ntmps18
    go_wp2_with fail
    go_end0
    exact ⟨rfl, HF.out, Gt (set_grown ..) (set_grown ..)⟩
  | some x =>
    have hx := HO.out x rfl
    have f0 : ((stN (some x)).1 == 0) = false := by simpa [stN] using hx
    have HF := Hd h
    show Calls _ _ _ _ fun e w' => e = .returned (.tuple #[]) ∧ SAt w' b (some x) vc ∧ _
    clear h HO hx
    generalize (stN (some x)).1 = ee at *
    go_enter Tryz.func18, Tryz.ntmps18
    go_wp2_with fail
    go_end0
    exact ⟨rfl, HF.out, grown_of Br⟩
theorem oneF_or (p q : Bool) (e : Int) (n : Nm) : oneF (p || q) e n = (oneF p e n).or (oneF q e n) := by cases p <;> cases q <;> rfl
theorem countD_snoc (l : List (Nm × Int)) (d : Nm × Int) (n : Nm) (k : Int) : countD (l ++ [d]) n k = (countD l n k).or (oneF (d.1 == n && decide (d.2 ≠ k)) 11 n) := by
  unfold countD
  rw [List.any_append, oneF_or]
  simp
theorem acount_any (b : Nat) (st : Fo) (cl : List (Nm × Int)) (ac : Option Addr) (cc : Nat) (nm : Nm) (k : Int) (w : World) (hS : SAt w b st (.slice ac cl.length cc)) (hc : RowAt w (Apart b) 92 2 (.slice ac cl.length cc) cl.length (declV cl)) :
    Calls Tryz.prog 74 #[.pointer (some ⟨b, 0, none⟩), .string (tx nm), .int .i64 k] w fun e w' => e = .returned (.tuple #[]) ∧ SAt w' b (st.or (countD cl nm k)) (.slice ac cl.length cc) ∧ w.grownBy w' (some b) := by
  have HO := Hd hc
  have HS := Hd hS
  have hmx := hc.cap
  unfold maxLen at hmx
  clear hc hS
  go_enter Tryz.func74, Tryz.ntmps74
  go_wp2_with fail
  go_loopw [6] (fun s wr => ∃ j : Nat, j ≤ cl.length ∧ s = .int .i64 j ∧ SAt wr b (st.or (countD (cl.take j) nm k)) (.slice ac cl.length cc) ∧ w.grownBy wr (some b)) (fun s _ => cl.length - (RowKit.intOf s).toNat)
  case atStart => exact ⟨0, Nat.zero_le _, rfl, by rw [List.take_zero, show countD [] nm k = none from rfl, or_nil_l]; exact HS.out, grown_of Br⟩
  case round =>
    obtain ⟨j, hj, rfl, hs1, hg1⟩ := hrel
    have HR := Hd (Ai hs1 hg1)
    have x2 := hs1.box.1 2 _ rfl
    clear hs1 hg1
    by_cases gj : j < cl.length
    · have gj' : (j : Int) < (cl.length : Int) := by omega
      obtain ⟨g1, o1, ea1, k1, m1', -, ht1⟩ := (HO.out.apart HR.out.2).at (by omega)
      subst ea1
      obtain ⟨z0, z1⟩ := declV_here gj
      have p0 : wr.cell? ⟨g1, o1 + j * 2, none⟩ = some (.string (tx cl[j].1)) := ht1 _ _ z0
      have p1 : wr.cell? ⟨g1, o1 + j * 2 + 1, none⟩ = some (.int .i64 cl[j].2) := by rw [Nat.add_assoc]; exact ht1 _ _ z1
      have HT := Hd (show countD (cl.take (j + 1)) nm k = (countD (cl.take j) nm k).or (oneF (cl[j].1 == nm && decide (cl[j].2 ≠ k)) 11 nm) by rw [List.take_succ_eq_append_getElem gj, countD_snoc])
      clear ht1 z0 z1
      generalize cl[j].1 = dn at *
      generalize cl[j].2 = dx at *
      have ej : IntKind.i64.wrap ((j : Int) + 1) = (j : Int) + 1 := by rw [IntKind.wrap_i64]; omega
      have b0 : (0 : Int) ≤ (j : Int) := by omega
      by_cases e1 : dn = nm
      · subst e1
        have he : ((tx dn).toList == (tx dn).toList) = true := by simp
        by_cases e2 : dx = k
        · have f2 : (dx != k) = false := by simpa using e2
          have HN := Hd (show oneF (dn == dn && decide (dx ≠ k)) 11 dn = none by rw [decide_eq_false (fun q => q e2), Bool.and_false]; rfl)
          clear e2
          go_wp2_with fail
          refine ⟨⟨j + 1, by omega, by go_num, ?_, HR.out.2⟩, by simp [RowKit.intOf]; omega⟩
          rw [HT.out, HN.out, or_nil_l]
          exact HR.out.1
        · have f2 : (dx != k) = true := by simpa using e2
          have HN := Hd (show oneF (dn == dn && decide (dx ≠ k)) 11 dn = some (11, dn) by rw [decide_eq_true e2]; simp [oneF])
          have HF := Hd (afault_any b (st.or (countD (cl.take j) dn k)) _ 11 (by decide) dn wr HR.out.1)
          clear e2
          go_wp2_with fail
          refine HF.out.mono ?_
          rintro e w3 ⟨rfl, hs3, hg3⟩
          have H3 := Hd (Ai hs3 hg3)
          clear hs3 hg3 HF x2
          go_wp2_with fail
          refine ⟨⟨j + 1, by omega, by go_num, ?_, Gt HR.out.2 H3.out.2⟩, by simp [RowKit.intOf]; omega⟩
          rw [HT.out, HN.out, ← or_assoc_f]
          exact H3.out.1
      · have he := tx_ne e1
        have HN := Hd (show oneF (dn == nm && decide (dx ≠ k)) 11 nm = none by rw [beq_eq_false_iff_ne.2 e1, Bool.false_and]; rfl)
        clear e1
        go_wp2_with fail
        refine ⟨⟨j + 1, by omega, by go_num, ?_, HR.out.2⟩, by simp [RowKit.intOf]; omega⟩
        rw [HT.out, HN.out, or_nil_l]
        exact HR.out.1
    · obtain rfl : j = cl.length := by omega
      have hs2 := HR.out.1
      rw [List.take_length] at hs2
      have HE := Hd hs2
      clear hs2
      go_wp2_with fail
      go_end0
      exact ⟨rfl, HE.out, HR.out.2⟩
def adB (cs : List (Nm × Int)) (b : Bnd) : Fo := (oneF (decide (24 < b.2.1.length)) 12 b.1).or (adE cs b.2.2)
def adA (cs : List (Nm × Int)) (a : Alt) : Fo := (if a.1 = 0 then countD cs a.2.1 a.2.2.2.2.1.length else none).or (adE cs a.2.2.2.2.2)
def adH (cs : List (Nm × Int)) (k : Int) (n : Nm) (ps : List Nm) (nk : Nat) : Fo :=
  if k = 2 then countD cs n nk
  else if k = 5 then oneF (decide ((nk : Int) ≠ takesL n)) 11 n
  else if k = 4 then oneF (decide (25 < nk)) 12 []
  else if k = 8 then oneF (decide (24 < ps.length)) 12 (ps.headD [])
  else none
theorem adEs_first (cs : List (Nm × Int)) : ∀ (l : List Ex), adEs cs l = firstF (adE cs) l
  | [] => by unfold adEs firstF; rfl
  | e :: r => by unfold adEs firstF; rw [adEs_first cs r]
theorem adBs_first (cs : List (Nm × Int)) : ∀ (l : List Bnd), adBs cs l = firstF (adB cs) l
  | [] => by unfold adBs firstF; rfl
  | (n, ps, e) :: r => by unfold adBs firstF; rw [adBs_first cs r]; rfl
theorem adAs_first (cs : List (Nm × Int)) : ∀ (l : List Alt), adAs cs l = firstF (adA cs) l
  | [] => by unfold adAs firstF; rfl
  | (k, n, f, x, ns, e) :: r => by unfold adAs firstF; rw [adAs_first cs r]; rfl
theorem adE_mk (cs : List (Nm × Int)) (k : Int) (n : Nm) (f : Bool) (u : Int) (ps : List Nm) (ks : List Ex) (bl : List Bnd) (al : List Alt) :
    adE cs (.mk k n f u ps ks bl al) = (adH cs k n ps ks.length).or ((firstF (adB cs) bl).or ((firstF (adE cs) ks).or (firstF (adA cs) al))) := by
  conv => lhs; unfold adE
  rw [adBs_first, adEs_first, adAs_first]
  rfl
def DocA (n : Nat) : Prop :=
  ∀ (x : Ex) (b : Nat) (st : Fo) (cl : List (Nm × Int)) (ac : Option Addr) (cc : Nat) (W : World) (k : Int) (nm : Nm) (f : Bool) (u : Int) (ap : Option Addr) (np cp : Nat) (ak : Option Addr) (nk ck : Nat) (ab : Option Addr) (nb cb : Nat) (aa : Option Addr) (na ca : Nat), SizeOf.sizeOf x ≤ n → SAt W b st (.slice ac cl.length cc) → RowAt W (Apart b) 92 2 (.slice ac cl.length cc) cl.length (declV cl) → ExAt W (Apart b) x [.int .i64 k, .string (tx nm), .bool f, .int .u64 u, .slice ap np cp, .slice ak nk ck, .slice ab nb cb, .slice aa na ca] →
    Calls Tryz.prog 39 #[.pointer (some ⟨b, 0, none⟩), .agg #[.int .i64 k, .string (tx nm), .bool f, .int .u64 u, .slice ap np cp, .slice ak nk ck, .slice ab nb cb, .slice aa na ca]] W fun e w' => e = .returned (.tuple #[]) ∧ SAt w' b (st.or (adE cl x)) (.slice ac cl.length cc) ∧ W.grownBy w' (some b)
theorem abind_any (n : Nat) (hP : DocA n) (b : Nat) (st : Fo) (cl : List (Nm × Int)) (ac : Option Addr) (cc : Nat) (nb0 : Nm) (ps : List Nm) (x : Ex) (aq : Option Addr) (cq : Nat) (k : Int) (nm : Nm) (f : Bool) (u : Int) (ap : Option Addr) (np cp : Nat) (ak : Option Addr) (nk ck : Nat) (ab : Option Addr) (nb cb : Nat) (aa : Option Addr) (na ca : Nat) (w : World) (hz : SizeOf.sizeOf x ≤ n) (hm : ps.length ≤ maxLen) (hS : SAt w b st (.slice ac cl.length cc)) (hc : RowAt w (Apart b) 92 2 (.slice ac cl.length cc) cl.length (declV cl)) (ht : ExAt w (Apart b) x [.int .i64 k, .string (tx nm), .bool f, .int .u64 u, .slice ap np cp, .slice ak nk ck, .slice ab nb cb, .slice aa na ca]) :
    Calls Tryz.prog 19 #[.pointer (some ⟨b, 0, none⟩), .agg #[.string (tx nb0), .slice aq ps.length cq, .int .i64 k, .string (tx nm), .bool f, .int .u64 u, .slice ap np cp, .slice ak nk ck, .slice ab nb cb, .slice aa na ca]] w fun e w' => e = .returned (.tuple #[]) ∧ SAt w' b (st.or (adB cl (nb0, ps, x))) (.slice ac cl.length cc) ∧ w.grownBy w' (some b) := by
  have hx := (Below.refl w.heap.size w).alloc Nr (.cells #[.string (tx nb0), .slice aq ps.length cq, .int .i64 k, .string (tx nm), .bool f, .int .u64 u, .slice ap np cp, .slice ak nk ck, .slice ab nb cb, .slice aa na ca] 59)
  have hB := BoxW.alloc w #[.string (tx nb0), .slice aq ps.length cq, .int .i64 k, .string (tx nm), .bool f, .int .u64 u, .slice ap np cp, .slice ak nk ck, .slice ab nb cb, .slice aa na ca] 59
  have hne : w.heap.size ≠ b := fun e => by have := hS.lt; omega
  unfold maxLen at hm
  have HP := Hd (fun (st2 : Fo) (V : World) (hg : w.grownBy V (some b)) (h2 : SAt V b st2 (.slice ac cl.length cc)) => hP x b st2 cl ac cc V k nm f u ap np cp ak nk ck ab nb cb aa na ca hz h2 (hc.apart hg) (ht.apart hg))
  have HX := Hd (Ai hx (Ai hB (Ai (hS.later hx) hne)))
  clear hx hB hS hc ht hne
  by_cases g : 24 < ps.length
  · have g' : (24 : Int) < (ps.length : Int) := by omega
    have HE := Hd (show adB cl (nb0, ps, x) = (some (12, nb0) : Fo).or (adE cl x) by unfold adB oneF; rw [if_pos (decide_eq_true g)])
    have HF := Hd (afault_any b st (.slice ac cl.length cc) 12 (by decide) nb0 _ HX.out.2.2.1)
    go_enter Tryz.func19, Tryz.ntmps19
    go_wp2_with fail
    refine HF.out.mono ?_
    rintro e w2 ⟨rfl, hs2, hg2⟩
    have hb2 := HX.out.2.1.grown hg2 HX.out.2.2.2
    have q0 : w2.cell? ⟨w.heap.size, 0, none⟩ = some (.string (tx nb0)) := hb2.1 0 _ rfl
    have q1 : w2.cell? ⟨w.heap.size, 1, none⟩ = some (.slice aq ps.length cq) := hb2.1 1 _ rfl
    have q2 : w2.cell? ⟨w.heap.size, 2, none⟩ = some (.int .i64 k) := hb2.1 2 _ rfl
    have q3 : w2.cell? ⟨w.heap.size, 3, none⟩ = some (.string (tx nm)) := hb2.1 3 _ rfl
    have q4 : w2.cell? ⟨w.heap.size, 4, none⟩ = some (.bool f) := hb2.1 4 _ rfl
    have q5 : w2.cell? ⟨w.heap.size, 5, none⟩ = some (.int .u64 u) := hb2.1 5 _ rfl
    have q6 : w2.cell? ⟨w.heap.size, 6, none⟩ = some (.slice ap np cp) := hb2.1 6 _ rfl
    have q7 : w2.cell? ⟨w.heap.size, 7, none⟩ = some (.slice ak nk ck) := hb2.1 7 _ rfl
    have q8 : w2.cell? ⟨w.heap.size, 8, none⟩ = some (.slice ab nb cb) := hb2.1 8 _ rfl
    have q9 : w2.cell? ⟨w.heap.size, 9, none⟩ = some (.slice aa na ca) := hb2.1 9 _ rfl
    have H2 := Hd (Ai hs2 (Gt (grown_of (b := b) HX.out.1) hg2))
    have HC := Hd (HP.out _ w2 H2.out.2 H2.out.1)
    clear hs2 hg2 hb2 HF
    go_wp2_with fail
    refine HC.out.mono ?_
    rintro e w3 ⟨rfl, hs3, hg3⟩
    have H3 := Hd (Ai hs3 (Gt H2.out.2 hg3))
    clear hs3 hg3 HC
    go_wp2_with fail
    go_end0
    exact ⟨rfl, by rw [HE.out, ← or_assoc_f]; exact H3.out.1, H3.out.2⟩
  · have g' : ¬ (24 : Int) < (ps.length : Int) := by omega
    have HE := Hd (show adB cl (nb0, ps, x) = adE cl x by unfold adB oneF; rw [if_neg (by simpa using g)]; rfl)
    have HC := Hd (HP.out _ _ (grown_of (b := b) HX.out.1) HX.out.2.2.1)
    go_enter Tryz.func19, Tryz.ntmps19
    go_wp2_with fail
    refine HC.out.mono ?_
    rintro e w3 ⟨rfl, hs3, hg3⟩
    have H3 := Hd (Ai hs3 (Gt (grown_of (b := b) HX.out.1) hg3))
    clear hs3 hg3 HC
    go_wp2_with fail
    go_end0
    exact ⟨rfl, by rw [HE.out]; exact H3.out.1, H3.out.2⟩
theorem tx_eqB (x y : Nm) : ((tx x).toList == y) = (x == y) := by
  rw [ByteArray.toList_eq]
  rfl
theorem dtakes_any (x : Nm) (w : World) : Calls Tryz.prog 6 #[.string (tx x)] w fun e w' => e = .returned (.int .i64 (takesL x)) ∧ Below w.heap.size w w' := by
  by_cases h0 : x = [119, 101, 97, 107]
  · subst h0
    have hy : tx [119, 101, 97, 107] = ⟨#[119, 101, 97, 107]⟩ := rfl
    have hv := Hd (show takesL [119, 101, 97, 107] = 3 by decide)
    rw [hy, hv.out]
    clear hy
    go_enter Tryz.func6, Tryz.ntmps6
    go_wp2_with fail
    go_ret
    exact ⟨rfl, Below.refl _ _⟩
  by_cases h1 : x = [100, 101, 114, 101, 102]
  · subst h1
    have hy : tx [100, 101, 114, 101, 102] = ⟨#[100, 101, 114, 101, 102]⟩ := rfl
    have hv := Hd (show takesL [100, 101, 114, 101, 102] = 1 by decide)
    rw [hy, hv.out]
    clear hy
    go_enter Tryz.func6, Tryz.ntmps6
    go_wp2_with fail
    go_ret
    exact ⟨rfl, Below.refl _ _⟩
  by_cases h2 : x = [102, 108, 111, 97, 116]
  · subst h2
    have hy : tx [102, 108, 111, 97, 116] = ⟨#[102, 108, 111, 97, 116]⟩ := rfl
    have hv := Hd (show takesL [102, 108, 111, 97, 116] = 1 by decide)
    rw [hy, hv.out]
    clear hy
    go_enter Tryz.func6, Tryz.ntmps6
    go_wp2_with fail
    go_ret
    exact ⟨rfl, Below.refl _ _⟩
  by_cases h3 : x = [116, 114, 117, 110, 99]
  · subst h3
    have hy : tx [116, 114, 117, 110, 99] = ⟨#[116, 114, 117, 110, 99]⟩ := rfl
    have hv := Hd (show takesL [116, 114, 117, 110, 99] = 1 by decide)
    rw [hy, hv.out]
    clear hy
    go_enter Tryz.func6, Tryz.ntmps6
    go_wp2_with fail
    go_ret
    exact ⟨rfl, Below.refl _ _⟩
  by_cases h4 : x = [115, 101, 113]
  · subst h4
    have hy : tx [115, 101, 113] = ⟨#[115, 101, 113]⟩ := rfl
    have hv := Hd (show takesL [115, 101, 113] = 2 by decide)
    rw [hy, hv.out]
    clear hy
    go_enter Tryz.func6, Tryz.ntmps6
    go_wp2_with fail
    go_ret
    exact ⟨rfl, Below.refl _ _⟩
  by_cases h5 : x = [43]
  · subst h5
    have hy : tx [43] = ⟨#[43]⟩ := rfl
    have hv := Hd (show takesL [43] = 2 by decide)
    rw [hy, hv.out]
    clear hy
    go_enter Tryz.func6, Tryz.ntmps6
    go_wp2_with fail
    go_ret
    exact ⟨rfl, Below.refl _ _⟩
  by_cases h6 : x = [45]
  · subst h6
    have hy : tx [45] = ⟨#[45]⟩ := rfl
    have hv := Hd (show takesL [45] = 2 by decide)
    rw [hy, hv.out]
    clear hy
    go_enter Tryz.func6, Tryz.ntmps6
    go_wp2_with fail
    go_ret
    exact ⟨rfl, Below.refl _ _⟩
  by_cases h7 : x = [42]
  · subst h7
    have hy : tx [42] = ⟨#[42]⟩ := rfl
    have hv := Hd (show takesL [42] = 2 by decide)
    rw [hy, hv.out]
    clear hy
    go_enter Tryz.func6, Tryz.ntmps6
    go_wp2_with fail
    go_ret
    exact ⟨rfl, Below.refl _ _⟩
  by_cases h8 : x = [47]
  · subst h8
    have hy : tx [47] = ⟨#[47]⟩ := rfl
    have hv := Hd (show takesL [47] = 2 by decide)
    rw [hy, hv.out]
    clear hy
    go_enter Tryz.func6, Tryz.ntmps6
    go_wp2_with fail
    go_ret
    exact ⟨rfl, Below.refl _ _⟩
  by_cases h9 : x = [37]
  · subst h9
    have hy : tx [37] = ⟨#[37]⟩ := rfl
    have hv := Hd (show takesL [37] = 2 by decide)
    rw [hy, hv.out]
    clear hy
    go_enter Tryz.func6, Tryz.ntmps6
    go_wp2_with fail
    go_ret
    exact ⟨rfl, Below.refl _ _⟩
  by_cases h10 : x = [61, 61]
  · subst h10
    have hy : tx [61, 61] = ⟨#[61, 61]⟩ := rfl
    have hv := Hd (show takesL [61, 61] = 2 by decide)
    rw [hy, hv.out]
    clear hy
    go_enter Tryz.func6, Tryz.ntmps6
    go_wp2_with fail
    go_ret
    exact ⟨rfl, Below.refl _ _⟩
  by_cases h11 : x = [60]
  · subst h11
    have hy : tx [60] = ⟨#[60]⟩ := rfl
    have hv := Hd (show takesL [60] = 2 by decide)
    rw [hy, hv.out]
    clear hy
    go_enter Tryz.func6, Tryz.ntmps6
    go_wp2_with fail
    go_ret
    exact ⟨rfl, Below.refl _ _⟩
  by_cases h12 : x = [43, 46]
  · subst h12
    have hy : tx [43, 46] = ⟨#[43, 46]⟩ := rfl
    have hv := Hd (show takesL [43, 46] = 2 by decide)
    rw [hy, hv.out]
    clear hy
    go_enter Tryz.func6, Tryz.ntmps6
    go_wp2_with fail
    go_ret
    exact ⟨rfl, Below.refl _ _⟩
  by_cases h13 : x = [45, 46]
  · subst h13
    have hy : tx [45, 46] = ⟨#[45, 46]⟩ := rfl
    have hv := Hd (show takesL [45, 46] = 2 by decide)
    rw [hy, hv.out]
    clear hy
    go_enter Tryz.func6, Tryz.ntmps6
    go_wp2_with fail
    go_ret
    exact ⟨rfl, Below.refl _ _⟩
  by_cases h14 : x = [42, 46]
  · subst h14
    have hy : tx [42, 46] = ⟨#[42, 46]⟩ := rfl
    have hv := Hd (show takesL [42, 46] = 2 by decide)
    rw [hy, hv.out]
    clear hy
    go_enter Tryz.func6, Tryz.ntmps6
    go_wp2_with fail
    go_ret
    exact ⟨rfl, Below.refl _ _⟩
  by_cases h15 : x = [47, 46]
  · subst h15
    have hy : tx [47, 46] = ⟨#[47, 46]⟩ := rfl
    have hv := Hd (show takesL [47, 46] = 2 by decide)
    rw [hy, hv.out]
    clear hy
    go_enter Tryz.func6, Tryz.ntmps6
    go_wp2_with fail
    go_ret
    exact ⟨rfl, Below.refl _ _⟩
  by_cases h16 : x = [61, 61, 46]
  · subst h16
    have hy : tx [61, 61, 46] = ⟨#[61, 61, 46]⟩ := rfl
    have hv := Hd (show takesL [61, 61, 46] = 2 by decide)
    rw [hy, hv.out]
    clear hy
    go_enter Tryz.func6, Tryz.ntmps6
    go_wp2_with fail
    go_ret
    exact ⟨rfl, Below.refl _ _⟩
  by_cases h17 : x = [60, 46]
  · subst h17
    have hy : tx [60, 46] = ⟨#[60, 46]⟩ := rfl
    have hv := Hd (show takesL [60, 46] = 2 by decide)
    rw [hy, hv.out]
    clear hy
    go_enter Tryz.func6, Tryz.ntmps6
    go_wp2_with fail
    go_ret
    exact ⟨rfl, Below.refl _ _⟩
  have hv := Hd (show takesL x = 0 by unfold takesL; simp only [h0, h1, h2, h3, h4, h5, h6, h7, h8, h9, h10, h11, h12, h13, h14, h15, h16, h17, if_false, or_false])
  rw [hv.out]
  have f0 : ((tx x).toList == [119, 101, 97, 107]) = false := by rw [tx_eqB]; exact beq_eq_false_iff_ne.2 h0
  have f1 : ((tx x).toList == [100, 101, 114, 101, 102]) = false := by rw [tx_eqB]; exact beq_eq_false_iff_ne.2 h1
  have f2 : ((tx x).toList == [102, 108, 111, 97, 116]) = false := by rw [tx_eqB]; exact beq_eq_false_iff_ne.2 h2
  have f3 : ((tx x).toList == [116, 114, 117, 110, 99]) = false := by rw [tx_eqB]; exact beq_eq_false_iff_ne.2 h3
  have f4 : ((tx x).toList == [115, 101, 113]) = false := by rw [tx_eqB]; exact beq_eq_false_iff_ne.2 h4
  have f5 : ((tx x).toList == [43]) = false := by rw [tx_eqB]; exact beq_eq_false_iff_ne.2 h5
  have f6 : ((tx x).toList == [45]) = false := by rw [tx_eqB]; exact beq_eq_false_iff_ne.2 h6
  have f7 : ((tx x).toList == [42]) = false := by rw [tx_eqB]; exact beq_eq_false_iff_ne.2 h7
  have f8 : ((tx x).toList == [47]) = false := by rw [tx_eqB]; exact beq_eq_false_iff_ne.2 h8
  have f9 : ((tx x).toList == [37]) = false := by rw [tx_eqB]; exact beq_eq_false_iff_ne.2 h9
  have f10 : ((tx x).toList == [61, 61]) = false := by rw [tx_eqB]; exact beq_eq_false_iff_ne.2 h10
  have f11 : ((tx x).toList == [60]) = false := by rw [tx_eqB]; exact beq_eq_false_iff_ne.2 h11
  have f12 : ((tx x).toList == [43, 46]) = false := by rw [tx_eqB]; exact beq_eq_false_iff_ne.2 h12
  have f13 : ((tx x).toList == [45, 46]) = false := by rw [tx_eqB]; exact beq_eq_false_iff_ne.2 h13
  have f14 : ((tx x).toList == [42, 46]) = false := by rw [tx_eqB]; exact beq_eq_false_iff_ne.2 h14
  have f15 : ((tx x).toList == [47, 46]) = false := by rw [tx_eqB]; exact beq_eq_false_iff_ne.2 h15
  have f16 : ((tx x).toList == [61, 61, 46]) = false := by rw [tx_eqB]; exact beq_eq_false_iff_ne.2 h16
  have f17 : ((tx x).toList == [60, 46]) = false := by rw [tx_eqB]; exact beq_eq_false_iff_ne.2 h17
  clear h0 h1 h2 h3 h4 h5 h6 h7 h8 h9 h10 h11 h12 h13 h14 h15 h16 h17
  go_enter Tryz.func6, Tryz.ntmps6
  go_wp2_with fail
  go_ret
  exact ⟨rfl, Below.refl _ _⟩
end Go.Proofs.YtdjcdecbmeickaaGreatDoor
