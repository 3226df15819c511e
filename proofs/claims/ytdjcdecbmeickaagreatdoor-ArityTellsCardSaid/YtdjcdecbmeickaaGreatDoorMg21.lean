import Derived.Deep.RegionHeld3
import Derived.Test.YtdjcdecbmeickaaGreatDoorRows
import Derived.ChangeSame
import Derived.ChangeVars
import Derived.JoinedOf
import Derived.RowKit
import Derived.RowKitTokens
import Derived.LaidLaws
import Derived.LaidHandle
import Derived.Stop.Joined
import Derived.Test.YtdjcdecbmeickaaGreatDoorMg3
import Derived.Test.YtdjcdecbmeickaaGreatDoorMg9
import Derived.Test.YtdjcdecbmeickaaGreatDoorMg10
import Derived.Test.YtdjcdecbmeickaaGreatDoorMg11
import Derived.Test.YtdjcdecbmeickaaGreatDoorMg20
namespace Go.Proofs.YtdjcdecbmeickaaGreatDoor
set_option maxHeartbeats 64000000
set_option maxRecDepth 100000
open Go.RowKit Go.Lib
theorem parseL_nn (l : List UInt8) : 0 ≤ (parseL l).2.1 := by
  unfold parseL
  split
  · split
    · exact Int.natCast_nonneg _
    · exact Int.le_refl 0
  · split
    · split
      · unfold U
        exact Int.emod_nonneg _ (by decide)
      · exact Int.le_refl 0
    · exact Int.le_refl 0
theorem numT_nn (t : List UInt8) : 0 ≤ (numT t).1.x := by
  unfold numT
  split
  · exact parseL_nn _
  · exact Int.le_refl 0
theorem readL_nn (l : List UInt8) : 0 ≤ (readL l).1.x := by
  unfold readL
  split
  · exact Int.le_refl 0
  · split
    · exact numT_nn _
    · unfold readR
      repeat' split
      all_goals first | exact numT_nn _ | exact Int.le_refl 0
def Nnt (r : List Tok) : Prop := ∀ y, y ∈ r → 0 ≤ y.1.x
theorem lexA_nn : ∀ (f : Nat) (l : List UInt8) (line : Int) (acc T : List (Tk × Int)), Nnt acc → lexA f l line acc = .good T → Nnt T
  | 0, l, line, acc, T, ha, h => by unfold lexA at h; cases h; exact ha
  | f + 1, [], line, acc, T, ha, h => by unfold lexA at h; cases h; exact ha
  | f + 1, c :: r, line, acc, T, ha, h => by
    unfold lexA at h
    split at h
    · exact lexA_nn f _ _ _ _ ha h
    split at h
    · exact lexA_nn f _ _ _ _ ha h
    split at h
    · split at h
      · cases h; exact ha
      · exact lexA_nn f _ _ _ _ ha h
    split at h
    · split at h
      · cases h
      · refine lexA_nn f _ _ _ _ (fun y hy => ?_) h
        rcases List.mem_append.1 hy with hy | hy
        · exact ha y hy
        · rw [List.mem_singleton.1 hy]; exact readL_nn _
    · cases h
theorem lexL_nn {l : List UInt8} {T : List Tok} (h : lexL l = .good T) : Nnt T := lexA_nn _ _ _ _ _ (fun _ h => by cases h) h
def OkN {α : Type} (Q : α → Prop) (o : Out α) : Prop :=
  match o with
  | .ok a _ r => Q a ∧ Nnt r
  | .bad _ _ => True
theorem OkN.bind {α β : Type} {Q : α → Prop} {S : β → Prop} {o : Out α} {f : α → Int → List Tok → Out β} (h : OkN Q o) (hf : ∀ a l r, Q a → Nnt r → OkN S (f a l r)) : OkN S (o.bind f) := by
  cases o with
  | ok a l r => exact hf a l r h.1 h.2
  | bad e l => trivial
theorem okN_suf {α : Type} {p : Par α} (h : Suf p) (l : Int) (r : List Tok) (hr : Nnt r) : OkN (fun _ => True) (p l r) := by
  have hs := h l r
  cases hp : p l r with
  | bad e l => trivial
  | ok a l2 r2 =>
    rw [hp] at hs
    exact ⟨trivial, fun y hy => hr y (hs y hy)⟩
theorem take_nn (l : Int) (r : List Tok) (hr : Nnt r) : OkN (fun t => 0 ≤ t.1.x) (takeO l r) := by
  cases r with
  | nil => trivial
  | cons y r => exact ⟨hr y (List.mem_cons_self ..), fun z hz => hr z (List.mem_cons_of_mem _ hz)⟩
theorem refuse_nn {α : Type} (Q : α → Prop) (e l : Int) (r : List Tok) : OkN Q (refuseO e l r) := by rw [refuseO_eq]; trivial
abbrev Ar (d : Nm × Int) : Prop := 0 ≤ d.2 ∧ d.2 ≤ 24
theorem declsO_nn : ∀ n (acc : List (Nm × Int)) (l : Int) (r : List Tok), Nnt r → (∀ d, d ∈ acc → Ar d) → OkN (fun l => ∀ d, d ∈ l → Ar d) (declsO n acc l r)
  | 0, acc, l, r, h, ha => ⟨ha, h⟩
  | n + 1, acc, l, r, h, ha => by
    unfold declsO
    split
    · refine (take_nn _ _ h).bind fun a l r e h => ?_
      split
      · refine (take_nn _ _ h).bind fun b l2 r2 e2 h => ?_
        split
        · exact refuse_nn _ _ _ _
        · rename_i hc
          refine declsO_nn n _ _ _ h fun d hd => ?_
          rcases List.mem_append.1 hd with hd | hd
          · exact ha d hd
          · rw [List.mem_singleton.1 hd]
            exact ⟨e2, by have := fun q => hc (Or.inr q); show b.1.x ≤ 24; omega⟩
      · exact refuse_nn _ _ _ _
    · exact ⟨ha, h⟩
theorem moduleO_nn : ∀ n cs bs (l : Int) (r : List Tok), Nnt r → (∀ d, d ∈ cs → Ar d) → OkN (fun m : Md => ∀ d, d ∈ m.1 → Ar d) (moduleO n cs bs l r)
  | 0, _, _, _, _, h, hm => ⟨hm, h⟩
  | n + 1, cs, bs, l, r, h, hm => by
    unfold moduleO
    split
    · exact ⟨hm, h⟩
    split
    · refine (take_nn _ _ h).bind fun a l r e h => ?_
      refine (declsO_nn _ [] _ _ h (fun _ h => by cases h)).bind fun d l2 r2 e2 h => ?_
      refine (okN_suf (want_suf _) _ _ h).bind fun b l3 r3 _ h => ?_
      refine moduleO_nn n _ _ _ _ h fun x hx => ?_
      rcases List.mem_append.1 hx with hx | hx
      · exact hm x hx
      · exact e2 x hx
    · refine (okN_suf (bind_suf (expr_suf _ _)) _ _ h).bind fun d l2 r2 e2 h => ?_
      refine (okN_suf (want_suf _) _ _ h).bind fun b l3 r3 _ h => ?_
      exact moduleO_nn n _ _ _ _ h hm
theorem modL_ar {l : List UInt8} {md : Md} {a : Int} {b : List Tok} (h : modL l = .ok md a b) : ∀ d, d ∈ md.1 → Ar d := by
  unfold modL at h
  cases hR : lexL l with
  | bad k line => rw [hR] at h; cases h
  | good T =>
    rw [hR] at h
    have hw := moduleO_nn (T.length + 1) [] [] 1 T (lexL_nn hR) (fun _ h => by cases h)
    have h' : moduleO (T.length + 1) [] [] 1 T = .ok md a b := h
    rw [h'] at hw
    exact hw.1
theorem ar_wf {d : Nm × Int} (h : Ar d) : (Lit.int .i64 d.2).wf = true := by
  obtain ⟨h0, h1⟩ := h
  generalize d.2 = x at *
  have : ∀ n : Fin 25, (Lit.int .i64 ((n.val : Nat) : Int)).wf = true := by decide
  have h2 := this ⟨x.toNat, by omega⟩
  rw [show ((x.toNat : Nat) : Int) = x by omega] at h2
  exact h2
theorem four_ar : ∀ d, d ∈ four → Ar d := by decide
theorem tx_eqA (x y : Nm) : ((tx x).toList == y) = (x == y) := by
  rw [ByteArray.toList_eq]
  rfl
def isM (n : Nm) (q : Nat) : Bool := n == mainL && decide (0 < q)
theorem ismain_any (nb0 : Nm) (aq : Option Addr) (nq cq : Nat) (k : Int) (nm : Nm) (f : Bool) (u : Int) (ap : Option Addr) (np cp : Nat) (ak : Option Addr) (nk ck : Nat) (ab : Option Addr) (nb cb : Nat) (aa : Option Addr) (na ca : Nat) (w : World) (hq : nq ≤ maxLen) :
    Calls Tryz.prog 29 #[.agg #[.string (tx nb0), .slice aq nq cq, .int .i64 k, .string (tx nm), .bool f, .int .u64 u, .slice ap np cp, .slice ak nk ck, .slice ab nb cb, .slice aa na ca]] w fun e w' => e = .returned (.bool (isM nb0 nq)) ∧ Below w.heap.size w w' := by
  have HX := Hd ((Below.refl w.heap.size w).alloc Nr (.cells #[.string (tx nb0), .slice aq nq cq, .int .i64 k, .string (tx nm), .bool f, .int .u64 u, .slice ap np cp, .slice ak nk ck, .slice ab nb cb, .slice aa na ca] 59))
  unfold maxLen at hq
  by_cases g : nb0 = mainL
  · subst g
    have hy : tx mainL = ⟨#[109, 97, 105, 110]⟩ := rfl
    rw [hy]
    rw [hy] at HX
    by_cases g2 : 0 < nq
    · have HE := Hd (show isM mainL nq = true by unfold isM; rw [decide_eq_true g2]; rfl)
      have g2' : (0 : Int) < (nq : Int) := by omega
      go_enter Tryz.func29, Tryz.ntmps29
      go_wp2_with fail
      go_ret
      exact ⟨by rw [HE.out]; rfl, HX.out⟩
    · obtain rfl : nq = 0 := by omega
      have HE := Hd (show isM mainL 0 = false by rfl)
      go_enter Tryz.func29, Tryz.ntmps29
      go_wp2_with fail
      go_ret
      exact ⟨by rw [HE.out]; rfl, HX.out⟩
  · have HE := Hd (show isM nb0 nq = false by unfold isM; rw [beq_eq_false_iff_ne.2 g]; rfl)
    have hn : ((tx nb0).toList == [109, 97, 105, 110]) = false := by
      rw [tx_eqA]
      exact beq_eq_false_iff_ne.2 g
    go_enter Tryz.func29, Tryz.ntmps29
    go_wp2_with fail
    go_ret
    exact ⟨by rw [HE.out]; rfl, HX.out⟩
theorem mainF_any (bs : List Bnd) : mainF bs = oneF (bs.any fun b => isM b.1 b.2.1.length) 11 mainL := rfl
theorem any_take {α : Type} (p : α → Bool) (l : List α) (j : Nat) (hj : j < l.length) (h : (l.take j).any p = false) : (l.take (j + 1)).any p = p l[j] := by
  rw [List.take_succ_eq_append_getElem hj, List.any_append, h]
  simp
theorem any_here {α : Type} (p : α → Bool) (l : List α) (j : Nat) (hj : j < l.length) (h : p l[j] = true) : l.any p = true := List.any_eq_true.2 ⟨_, List.getElem_mem hj, h⟩
def IdxSaid (b : Bool) (e : Ending) : Prop := ∃ r : Int, e = .returned (.int .i64 r) ∧ decide (0 ≤ r) = b
theorem index_main (bs : List Bnd) (a : Option Addr) (c : Nat) (K K2 : Nat → Prop) (xb : List Value) (w : World) (hr : RowAt w K 59 10 (.slice a bs.length c) bs.length xb) (hb : BndsAt w K2 bs xb) :
    Calls Tryz.prog 66 #[.slice a bs.length c, .func (.func 29) #[] #[]] w fun e w' => IdxSaid (bs.any fun b => isM b.1 b.2.1.length) e ∧ Below w.heap.size w w' := by
  have HO := Hd (Ai hr hb)
  have hmx := hr.cap
  unfold maxLen at hmx
  clear hr hb
  have eg := enters_of Tryz.func29 (by kernel_rfl) rfl
  go_enter Tryz.func66, Tryz.ntmps66
  go_wp2_with fail
  go_loopw [8] (fun s wr => ∃ j : Nat, j ≤ bs.length ∧ s = .int .i64 j ∧ Below w.heap.size w wr ∧ (bs.take j).any (fun b => isM b.1 b.2.1.length) = false) (fun s _ => bs.length - (RowKit.intOf s).toNat)
  case atStart => exact ⟨0, Nat.zero_le _, rfl, Below.refl _ _, rfl⟩
  case round =>
    obtain ⟨j, hj, rfl, hbr, hno⟩ := hrel
    have HR := Hd (Ai hbr hno)
    clear hbr hno
    by_cases gj : j < bs.length
    · have gj' : (j : Int) < (bs.length : Int) := by omega
      obtain ⟨aq, cq, k, nm, f, u, ap, np, cp, ak, nk, ck, ab, nb, cb, aa, na, ca, hQ, hE, hc⟩ := HO.out.2.cells j gj
      obtain ⟨g1, o1, ea1, k1, m1', -, ht1⟩ := HO.out.1.at (by omega)
      subst ea1
      have HP := Hd (fun i v h => later' HR.out.1 (ht1 _ _ (hc i v h)))
      have HT := Hd (any_take (fun b : Bnd => isM b.1 b.2.1.length) bs j gj HR.out.2)
      have HH := Hd (any_here (fun b : Bnd => isM b.1 b.2.1.length) bs j gj)
      have hqc := hQ.cap
      clear ht1 hc hE hQ
      generalize bs[j].1 = nb0 at *
      generalize bs[j].2.1.length = nq at *
      have p0 : wr.cell? ⟨g1, o1 + j * 10, none⟩ = some (.string (tx nb0)) := HP.out 0 _ rfl
      have p1 : wr.cell? ⟨g1, o1 + j * 10 + 1, none⟩ = some (.slice aq nq cq) := by rw [Nat.add_assoc]; exact HP.out 1 _ rfl
      have p2 : wr.cell? ⟨g1, o1 + j * 10 + 2, none⟩ = some (.int .i64 k) := by rw [Nat.add_assoc]; exact HP.out 2 _ rfl
      have p3 : wr.cell? ⟨g1, o1 + j * 10 + 3, none⟩ = some (.string (tx nm)) := by rw [Nat.add_assoc]; exact HP.out 3 _ rfl
      have p4 : wr.cell? ⟨g1, o1 + j * 10 + 4, none⟩ = some (.bool f) := by rw [Nat.add_assoc]; exact HP.out 4 _ rfl
      have p5 : wr.cell? ⟨g1, o1 + j * 10 + 5, none⟩ = some (.int .u64 u) := by rw [Nat.add_assoc]; exact HP.out 5 _ rfl
      have p6 : wr.cell? ⟨g1, o1 + j * 10 + 6, none⟩ = some (.slice ap np cp) := by rw [Nat.add_assoc]; exact HP.out 6 _ rfl
      have p7 : wr.cell? ⟨g1, o1 + j * 10 + 7, none⟩ = some (.slice ak nk ck) := by rw [Nat.add_assoc]; exact HP.out 7 _ rfl
      have p8 : wr.cell? ⟨g1, o1 + j * 10 + 8, none⟩ = some (.slice ab nb cb) := by rw [Nat.add_assoc]; exact HP.out 8 _ rfl
      have p9 : wr.cell? ⟨g1, o1 + j * 10 + 9, none⟩ = some (.slice aa na ca) := by rw [Nat.add_assoc]; exact HP.out 9 _ rfl
      have ej : IntKind.i64.wrap ((j : Int) + 1) = (j : Int) + 1 := by rw [IntKind.wrap_i64]; omega
      have b0 : (0 : Int) ≤ (j : Int) := by omega
      have HC := Hd (fun W => ismain_any nb0 aq nq cq k nm f u ap np cp ak nk ck ab nb cb aa na ca W hqc)
      cases hm : isM nb0 nq with
      | true =>
        have HM := Hd hm
        rw [hm] at HC
        go_wp2_with fail
        refine (HC.out _).mono ?_
        rintro e w4 ⟨rfl, hb4⟩
        have HB4 := Hd (onB' HR.out.1 hb4)
        clear hb4 HC hm
        go_wp2_with fail
        go_ret
        exact ⟨⟨_, rfl, by rw [HH.out HM.out]; exact decide_eq_true (by omega)⟩, HB4.out⟩
      | false =>
        have HM := Hd hm
        rw [hm] at HC
        go_wp2_with fail
        refine (HC.out _).mono ?_
        rintro e w4 ⟨rfl, hb4⟩
        have HB4 := Hd (onB' HR.out.1 hb4)
        clear hb4 HC hm
        go_wp2_with fail
        exact ⟨⟨j + 1, by omega, by go_num, HB4.out, by rw [HT.out]; exact HM.out⟩, by simp [RowKit.intOf]; omega⟩
    · obtain rfl : j = bs.length := by omega
      go_wp2_with fail
      go_ret
      have h := HR.out.2
      rw [List.take_length] at h
      exact ⟨⟨_, rfl, by rw [h]; decide⟩, HR.out.1⟩
theorem contains_main (bs : List Bnd) (a : Option Addr) (c : Nat) (K K2 : Nat → Prop) (xb : List Value) (w : World) (hr : RowAt w K 59 10 (.slice a bs.length c) bs.length xb) (hb : BndsAt w K2 bs xb) :
    Calls Tryz.prog 28 #[.slice a bs.length c, .func (.func 29) #[] #[]] w fun e w' => e = .returned (.bool (bs.any fun b => isM b.1 b.2.1.length)) ∧ Below w.heap.size w w' := by
  have HC := Hd (index_main bs a c K K2 xb w hr hb)
  clear hr hb
  go_enter Tryz.func28, Tryz.ntmps28
  go_wp2_with fail
  refine HC.out.mono ?_
  rintro e w2 ⟨⟨r, rfl, hr⟩, hb2⟩
  have HB := Hd (Ai hr hb2)
  clear hr hb2 HC
  go_wp2_with fail
  go_ret
  exact ⟨by rw [← HB.out.1]; rfl, HB.out.2⟩
def lookL (l : List (Nm × Int)) (n : Nm) : Int := ((l.reverse.find? fun d => d.1 == n).map (·.2)).getD 0
theorem lookL_snoc (l : List (Nm × Int)) (d : Nm × Int) : lookL (l ++ [d]) = aput (lookL l) d.1 d.2 := by
  funext n
  unfold lookL aput
  rw [List.reverse_append]
  show ((List.find? _ (d :: l.reverse)).map _).getD 0 = _
  rw [List.find?_cons]
  by_cases e : n = d.1
  · subst e
    simp
  · have : (d.1 == n) = false := beq_eq_false_iff_ne.2 fun q => e q.symm
    rw [this, if_neg e]
theorem find_mem {l : List (Nm × Int)} (hn : (l.map (·.1)).Nodup) {d : Nm × Int} (hd : d ∈ l) : l.find? (fun x => x.1 == d.1) = some d := by
  induction l with
  | nil => cases hd
  | cons x r ih =>
    obtain ⟨h3, h4⟩ := List.nodup_cons.1 hn
    rw [List.find?_cons]
    rcases List.mem_cons.1 hd with rfl | hd
    · simp
    · have : (x.1 == d.1) = false := beq_eq_false_iff_ne.2 fun e => h3 (List.mem_map.2 ⟨d, hd, e.symm⟩)
      rw [this]
      exact ih h4 hd
theorem lookL_eq {l : List (Nm × Int)} (hn : (l.map (·.1)).Nodup) (n : Nm) : lookL l n = lookA l n := by
  have hr : (l.reverse.map (·.1)).Nodup := by rw [List.map_reverse]; exact List.nodup_iff_count.2 fun a => by rw [List.count_reverse]; exact List.nodup_iff_count.1 hn a
  unfold lookL lookA
  by_cases h : ∃ d, d ∈ l ∧ d.1 = n
  · obtain ⟨d, hd, rfl⟩ := h
    rw [find_mem hn hd, find_mem hr (List.mem_reverse.2 hd)]
  · have h1 : l.find? (fun x => x.1 == n) = none := List.find?_eq_none.2 fun x hx e => h ⟨x, hx, by simpa using e⟩
    have h2 : l.reverse.find? (fun x => x.1 == n) = none := List.find?_eq_none.2 fun x hx e => h ⟨x, List.mem_reverse.1 hx, by simpa using e⟩
    rw [h1, h2]
def Past (w w' : World) (m : Nat) : Prop := w.heap.size ≤ w'.heap.size ∧ ∀ k, k < w.heap.size → k ≠ m → w'.heap[k]? = w.heap[k]?
theorem Past.refl (w : World) (m : Nat) : Past w w m := ⟨Nat.le_refl _, fun _ _ _ => rfl⟩
theorem Past.later {w w' w'' : World} {m : Nat} (h : Past w w' m) (hb : Below w'.heap.size w' w'') : Past w w'' m := ⟨Nt h.1 hb.size, fun k hk hm => (hb.block k (Nat.lt_of_lt_of_le hk h.1)).trans (h.2 k hk hm)⟩
theorem Past.put {w w' w'' : World} {m : Nat} (h : Past w w' m) (hg : w'.grownBy w'' (some m)) : Past w w'' m := ⟨Nt h.1 hg.size, fun k hk hm => (hg.block k (Nat.lt_of_lt_of_le hk h.1) (by simpa using hm)).trans (h.2 k hk hm)⟩
theorem Past.cell {w w' : World} {m n : Nat} {f : Nm → Int} (h : Past w w' m) {g o : Nat} {v : Value} (hc : w.cell? ⟨g, o, none⟩ = some v) (hm : AMap w m n f) : w'.cell? ⟨g, o, none⟩ = some v := by
  have hk : g < w.heap.size := Bl hc
  exact (World.cell?_of_block (a := ⟨g, o, none⟩) (h.2 g hk (fun e => hm.ne hc e.symm))).trans hc
theorem arities_any (ds : List (Nm × Int)) (hl : ∀ d, d ∈ ds → d.1.length ≤ 100000) (a : Option Addr) (c : Nat) (b : Value) (K : Nat → Prop) (w : World) (hn : 4 + ds.length ≤ 100000) (hr : RowAt w K 92 2 (.slice a ds.length c) ds.length (declV ds)) (hb : ∃ a n c, b = .slice a n c) (hw : ∀ d, d ∈ ds → (Lit.int .i64 d.2).wf = true) :
    Calls Tryz.prog 32 #[.agg #[.slice a ds.length c, b]] w fun e w' => (∃ m, e = .returned (.map (some m)) ∧ AMap w' m (4 + ds.length) (lookL (four ++ ds))) ∧ Below w.heap.size w w' := by
  obtain ⟨ab, nb, cb, rfl⟩ := hb
  have hx := (Below.refl w.heap.size w).alloc Nr (.cells #[.slice a ds.length c, .slice ab nb cb] 27)
  have hB := BoxW.alloc w #[.slice a ds.length c, .slice ab nb cb] 27
  have hz : (w.alloc (.cells #[.slice a ds.length c, .slice ab nb cb] 27)).heap.size = w.heap.size + 1 := Array.size_push ..
  have hy := hx.alloc hx.size (.map #[] 0)
  have hm := amap_made (w.alloc (.cells #[.slice a ds.length c, .slice ab nb cb] 27))
  rw [hz] at hm
  have HO := Hd (hr.move fun g hg lt => ⟨hg, hy.block g lt⟩)
  have HL := Hd (Ai hl hw)
  have HX := Hd (Ai hy hm)
  have hmm := @run_makeMap Tryz.prog
  have HC := Hd (pcons_any ds hl a c (.slice ab nb cb) _ ((w.alloc (.cells #[.slice a ds.length c, .slice ab nb cb] 27)).alloc (.map #[] 0)) hn HO.out ⟨_, _, _, rfl⟩)
  obtain ⟨l, hld⟩ : ∃ l : List (Nm × Int), l = four ++ ds := ⟨_, rfl⟩
  have hll : 4 + ds.length = l.length := by rw [hld]; simp [four]; omega
  have hlw : ∀ d, d ∈ l → d.1.length ≤ 100000 ∧ (Lit.int .i64 d.2).wf = true := fun d hd => by
    rw [hld] at hd
    rcases List.mem_append.1 hd with hd | hd
    · exact ⟨(by decide : ∀ d, d ∈ four → d.1.length ≤ 100000) d hd, ar_wf (four_ar d hd)⟩
    · exact ⟨hl d hd, hw d hd⟩
  rw [hll, ← hld] at HC
  have HL := Hd hlw
  have hlb : l.length ≤ 100000 := by omega
  have HZ := Hd (Ai hll hld)
  clear hr hl hw hx hy hm hB hlw hld hll
  go_enter Tryz.func32, Tryz.ntmps32
  go_wp2_with fail
  refine HC.out.mono ?_
  rintro e w2 ⟨⟨v2, rfl, ho2⟩, hb2⟩
  obtain ⟨a2, c2, rfl, -⟩ := own_shape ho2
  have HR := Hd (show RowAt w2 (fun _ => True) 92 2 (.slice a2 l.length c2) l.length (declV l) from RowAt.of ho2 (fun _ _ => trivial))
  have HX2 := Hd (Ai (onB' HX.out.1 hb2) (HX.out.2.later hb2))
  clear ho2 hb2 HC HX HO
  go_wp2_with fail
  go_loopw [10] (fun s wr => ∃ j : Nat, j ≤ l.length ∧ s = .int .i64 j ∧ Below w.heap.size w wr ∧ Past w2 wr (w.heap.size + 1) ∧ AMap wr (w.heap.size + 1) j (lookL (l.take j))) (fun s _ => l.length - (RowKit.intOf s).toNat)
  case atStart => exact ⟨0, Nat.zero_le _, rfl, HX2.out.1, Past.refl _ _, HX2.out.2⟩
  case round =>
    obtain ⟨j, hj, rfl, hbr, hpr, hmr⟩ := hrel
    have HRr := Hd (Ai hbr (Ai hpr hmr))
    by_cases gj : j < l.length
    · have gj' : (j : Int) < (l.length : Int) := by omega
      obtain ⟨g1, o1, ea1, k1, m1', -, ht1⟩ := HR.out.at (by omega)
      subst ea1
      obtain ⟨z0, z1⟩ := declV_here gj
      have p0 : wr.cell? ⟨g1, o1 + j * 2, none⟩ = some (.string (tx l[j].1)) := hpr.cell (ht1 _ _ z0) HX2.out.2
      have p1 : wr.cell? ⟨g1, o1 + j * 2 + 1, none⟩ = some (.int .i64 l[j].2) := by rw [Nat.add_assoc]; exact hpr.cell (ht1 _ _ z1) HX2.out.2
      have HT := Hd (show lookL (l.take (j + 1)) = aput (lookL (l.take j)) l[j].1 l[j].2 by rw [List.take_succ_eq_append_getElem gj, lookL_snoc])
      have hlx := HL.out l[j] (List.getElem_mem gj)
      clear ht1 z0 z1 hbr hpr hmr
      generalize l[j].1 = nb0 at *
      generalize l[j].2 = x0 at *
      have ej : IntKind.i64.wrap ((j : Int) + 1) = (j : Int) + 1 := by rw [IntKind.wrap_i64]; omega
      have b0 : (0 : Int) ≤ (j : Int) := by omega
      have hv := (Below.refl wr.heap.size wr).alloc Nr (.cells #[.string (tx nb0), .int .i64 x0] 92)
      have HV := Hd (Ai (onB' HRr.out.1 hv) (Ai (HRr.out.2.1.later hv) (HRr.out.2.2.later hv)))
      clear hv
      go_wp2_with (refine list_aput _ rfl _ _ _ (Or.inl rfl) (w.heap.size + 1) j (lookL (l.take j)) rfl HV.out.2.2 (by omega) nb0 hlx.1 x0 rfl rfl hlx.2 ?_; intro w3 h3 g3)
      exact ⟨⟨j + 1, by omega, by go_num, below_of_new HV.out.1 g3 (by omega), HV.out.2.1.put g3, by rw [HT.out]; exact h3⟩, by simp [RowKit.intOf]; omega⟩
    · obtain rfl : j = l.length := by omega
      go_wp2_with fail
      go_ret
      have h := HRr.out.2.2
      rw [List.take_length] at h
      exact ⟨⟨_, rfl, by rw [HZ.out.1, ← HZ.out.2]; exact h⟩, HRr.out.1⟩
theorem more1 (W : World) (o : Obj) : Below W.heap.size W (W.alloc o) := Br.alloc Nr o
theorem keep2 {p q i : Nat} (W : World) (h : q ≠ p) (x y : Value) : ((W.setCell ⟨q, 0, none⟩ x).setCell ⟨q, 1, none⟩ y).cell? ⟨p, i, none⟩ = W.cell? ⟨p, i, none⟩ := by
  rw [World.cell?_setCell_far _ _ _ _ h, World.cell?_setCell_far _ _ _ _ h]
def AskerSaid (m n : Nat) (cs : List (Nm × Int)) (e : Ending) (w' : World) : Prop := ∃ ga gt gb gk gl mt, e = .returned (.func (.func 67) #[] #[.pointer (some ⟨gk, 0, none⟩)]) ∧ AskAt w' ga gt gb gk gl m n mt 18 cs
theorem asker_any (m n : Nat) (cs : List (Nm × Int)) (w : World) (hm : AMap w m n (lookA cs)) :
    Calls Tryz.prog 31 #[.map (some m)] w fun e w' => AskerSaid m n cs e w' ∧ Below w.heap.size w w' := by
  have hx := (Below.refl w.heap.size w).alloc Nr (.cells #[.map (some m)] 36)
  have hB := BoxW.alloc w #[.map (some m)] 36
  have HX := Hd (Ai hx (Ai hB (hm.later hx)))
  have HT := Hd (taken_any (w.alloc (.cells #[.map (some m)] 36)))
  have hmf := func_made
  clear hx hB hm
  go_enter Tryz.func31, Tryz.ntmps31
  go_wp2_with fail
  refine HT.out.mono ?_
  rintro e w2 ⟨rfl, hm2, hb2⟩
  have H2 := Hd (Ai (onB' HX.out.1 hb2) (Ai (HX.out.2.1.below hb2) (Ai (HX.out.2.2.later hb2) (show AMap w2 (w.heap.size + 1) 18 takesL from (show (w.alloc (.cells #[.map (some m)] 36)).heap.size = w.heap.size + 1 by simp) ▸ hm2))))
  clear hm2 hb2 HT HX
  go_wp2_with fail
  have b1 := (Below.refl w2.heap.size w2).alloc Nr (.cells #[.map (some (w.heap.size + 1))] 36)
  have b2 := b1.alloc b1.size (.cells #[.func (.func 69) #[] #[.pointer (some ⟨w.heap.size, 0, none⟩), .pointer (some ⟨w2.heap.size, 0, none⟩), .pointer (some ⟨w2.heap.size + 1 + 1, 0, none⟩), .pointer (some ⟨w2.heap.size + 1, 0, none⟩), .pointer (some ⟨w2.heap.size + 1 + 1 + 1, 0, none⟩)]] 133)
  have b3 := b2.alloc b2.size (.cells #[.func (.func 67) #[] #[.pointer (some ⟨w2.heap.size + 1, 0, none⟩)]] 85)
  have b4 := b3.alloc b3.size (.cells #[.func (.func 68) #[] #[.pointer (some ⟨w.heap.size, 0, none⟩), .pointer (some ⟨w2.heap.size + 1, 0, none⟩)]] 136)
  have z1 : (w2.alloc (.cells #[.map (some (w.heap.size + 1))] 36)).heap.size = w2.heap.size + 1 := World.size_alloc ..
  have z2 : ((w2.alloc (.cells #[.map (some (w.heap.size + 1))] 36)).alloc (.cells #[.func (.func 69) #[] #[.pointer (some ⟨w.heap.size, 0, none⟩), .pointer (some ⟨w2.heap.size, 0, none⟩), .pointer (some ⟨w2.heap.size + 1 + 1, 0, none⟩), .pointer (some ⟨w2.heap.size + 1, 0, none⟩), .pointer (some ⟨w2.heap.size + 1 + 1 + 1, 0, none⟩)]] 133)).heap.size = w2.heap.size + 1 + 1 := by rw [World.size_alloc, z1]
  have z3 : (((w2.alloc (.cells #[.map (some (w.heap.size + 1))] 36)).alloc (.cells #[.func (.func 69) #[] #[.pointer (some ⟨w.heap.size, 0, none⟩), .pointer (some ⟨w2.heap.size, 0, none⟩), .pointer (some ⟨w2.heap.size + 1 + 1, 0, none⟩), .pointer (some ⟨w2.heap.size + 1, 0, none⟩), .pointer (some ⟨w2.heap.size + 1 + 1 + 1, 0, none⟩)]] 133)).alloc (.cells #[.func (.func 67) #[] #[.pointer (some ⟨w2.heap.size + 1, 0, none⟩)]] 85)).heap.size = w2.heap.size + 1 + 1 + 1 := by rw [World.size_alloc, z2]
  have ct := ((((BoxW.alloc w2 #[.map (some (w.heap.size + 1))] 36).below (more1 _ (.cells #[.func (.func 69) #[] #[.pointer (some ⟨w.heap.size, 0, none⟩), .pointer (some ⟨w2.heap.size, 0, none⟩), .pointer (some ⟨w2.heap.size + 1 + 1, 0, none⟩), .pointer (some ⟨w2.heap.size + 1, 0, none⟩), .pointer (some ⟨w2.heap.size + 1 + 1 + 1, 0, none⟩)]] 133))).below (more1 _ (.cells #[.func (.func 67) #[] #[.pointer (some ⟨w2.heap.size + 1, 0, none⟩)]] 85))).below (more1 _ (.cells #[.func (.func 68) #[] #[.pointer (some ⟨w.heap.size, 0, none⟩), .pointer (some ⟨w2.heap.size + 1, 0, none⟩)]] 136)))
  have ck := (((BoxW.alloc (w2.alloc (.cells #[.map (some (w.heap.size + 1))] 36)) #[.func (.func 69) #[] #[.pointer (some ⟨w.heap.size, 0, none⟩), .pointer (some ⟨w2.heap.size, 0, none⟩), .pointer (some ⟨w2.heap.size + 1 + 1, 0, none⟩), .pointer (some ⟨w2.heap.size + 1, 0, none⟩), .pointer (some ⟨w2.heap.size + 1 + 1 + 1, 0, none⟩)]] 133).below (more1 _ (.cells #[.func (.func 67) #[] #[.pointer (some ⟨w2.heap.size + 1, 0, none⟩)]] 85))).below (more1 _ (.cells #[.func (.func 68) #[] #[.pointer (some ⟨w.heap.size, 0, none⟩), .pointer (some ⟨w2.heap.size + 1, 0, none⟩)]] 136)))
  have cb := ((BoxW.alloc ((w2.alloc (.cells #[.map (some (w.heap.size + 1))] 36)).alloc (.cells #[.func (.func 69) #[] #[.pointer (some ⟨w.heap.size, 0, none⟩), .pointer (some ⟨w2.heap.size, 0, none⟩), .pointer (some ⟨w2.heap.size + 1 + 1, 0, none⟩), .pointer (some ⟨w2.heap.size + 1, 0, none⟩), .pointer (some ⟨w2.heap.size + 1 + 1 + 1, 0, none⟩)]] 133)) #[.func (.func 67) #[] #[.pointer (some ⟨w2.heap.size + 1, 0, none⟩)]] 85).below (more1 _ (.cells #[.func (.func 68) #[] #[.pointer (some ⟨w.heap.size, 0, none⟩), .pointer (some ⟨w2.heap.size + 1, 0, none⟩)]] 136)))
  have cl := (BoxW.alloc (((w2.alloc (.cells #[.map (some (w.heap.size + 1))] 36)).alloc (.cells #[.func (.func 69) #[] #[.pointer (some ⟨w.heap.size, 0, none⟩), .pointer (some ⟨w2.heap.size, 0, none⟩), .pointer (some ⟨w2.heap.size + 1 + 1, 0, none⟩), .pointer (some ⟨w2.heap.size + 1, 0, none⟩), .pointer (some ⟨w2.heap.size + 1 + 1 + 1, 0, none⟩)]] 133)).alloc (.cells #[.func (.func 67) #[] #[.pointer (some ⟨w2.heap.size + 1, 0, none⟩)]] 85)) #[.func (.func 68) #[] #[.pointer (some ⟨w.heap.size, 0, none⟩), .pointer (some ⟨w2.heap.size + 1, 0, none⟩)]] 136)
  rw [z1] at ck
  rw [z2] at cb
  rw [z3] at cl
  clear z1 z2 z3
  go_ret
  refine ⟨⟨w.heap.size, w2.heap.size, w2.heap.size + 1 + 1, w2.heap.size + 1, w2.heap.size + 1 + 1 + 1, w.heap.size + 1, rfl, ?_⟩, onB' H2.out.1 b4⟩
  refine ⟨later' b4 (H2.out.2.1.1 0 _ rfl), ?_, ?_, ?_, ?_, H2.out.2.2.1.later b4, H2.out.2.2.2.later b4⟩
  · exact ct.1 0 _ rfl
  · exact cb.1 0 _ rfl
  · exact ck.1 0 _ rfl
  · exact cl.1 0 _ rfl
theorem amod_any (m : Md) (hm : MdOk m) (hs : scM m = none) (har : ∀ d, d ∈ m.1 → Ar d) (ac : Option Addr) (cc : Nat) (ab : Option Addr) (cb : Nat) (K : Nat → Prop) (w : World) (h : ModAt w K m ac cc ab cb) :
    Calls Tryz.prog 14 #[.agg #[.slice ac m.1.length cc, .slice ab m.2.length cb]] w fun e w' => e = .returned (vF ((mainF m.2).or (arBs (four ++ m.1) m.2))) ∧ Below w.heap.size w w' := by
  have hx1 := (Below.refl w.heap.size w).alloc Nr (.cells #[.slice ac m.1.length cc, .slice ab m.2.length cb] 27)
  have hx := hx1.alloc hx1.size (.cells #[.int .i64 0, .string ⟨#[]⟩] 43)
  have hB1 := (BoxW.alloc w #[.slice ac m.1.length cc, .slice ab m.2.length cb] 27).below (Br.alloc Nr (.cells #[.int .i64 0, .string ⟨#[]⟩] 43))
  have hB2 := BoxW.alloc (w.alloc (.cells #[.slice ac m.1.length cc, .slice ab m.2.length cb] 27)) #[.int .i64 0, .string ⟨#[]⟩] 43
  rw [show (w.alloc (.cells #[.slice ac m.1.length cc, .slice ab m.2.length cb] 27)).heap.size = w.heap.size + 1 by simp] at hB2
  obtain ⟨xb, hbr, hbt⟩ := h.br
  have HX := Hd (Ai hx (Ai hB1 hB2))
  obtain ⟨hnd, -, -, -⟩ := (scM_none m).1 hs
  have hlk : lookL (four ++ m.1) = lookA (four ++ m.1) := funext fun n => lookL_eq hnd n
  have hwt := hm.wt
  have HC := Hd (contains_main m.2 ab cb (fun g => g < w.heap.size) (fun g => g < w.heap.size) xb ((w.alloc (.cells #[.slice ac m.1.length cc, .slice ab m.2.length cb] 27)).alloc (.cells #[.int .i64 0, .string ⟨#[]⟩] 43)) (hbr.low hx) (hbt.move fun g _ lt => ⟨lt, hx.block g lt⟩))
  have HC1 := Hd (fun (V : World) (hb : Below w.heap.size w V) => arities_any m.1 (fun d hd => (hm.wd d hd).2) ac cc (.slice ab m.2.length cb) K V (by omega) (h.below hb).dr ⟨_, _, _, rfl⟩ (fun d hd => ar_wf (har d hd)))
  rw [hlk] at HC1
  have HB := Hd (Ai hbr hbt)
  have HW := Hd hm.wb
  clear hx hx1 hB1 hB2 h hs hnd hlk har hbr hbt
  go_enter Tryz.func14, Tryz.ntmps14
  go_wp2_with fail
  refine HC.out.mono ?_
  rintro e w2 ⟨rfl, hb2⟩
  have H2 := Hd (Ai (onB' HX.out.1 hb2) (Ai (HX.out.2.1.below hb2) (HX.out.2.2.below hb2)))
  have r0 := H2.out.2.2.1 0 _ rfl
  have r1 := H2.out.2.2.1 1 _ rfl
  have t0 := H2.out.2.2.2 0
  have t1 := H2.out.2.2.2 1
  clear hb2 HC HX
  cases hany : (m.2.any fun b => isM b.1 b.2.1.length) with
  | true =>
    have HM := Hd (show mainF m.2 = some (11, mainL) by rw [mainF_any, hany]; rfl)
    clear hany
    go_wp2_with fail
    have v0 := (setTwo r0 r1 (.int .i64 11) (.string ⟨#[109, 97, 105, 110]⟩)).1
    have v1 := (setTwo r0 r1 (.int .i64 11) (.string ⟨#[109, 97, 105, 110]⟩)).2
    exact bodyPost_ret (v := .agg #[.int .i64 11, .string ⟨#[109, 97, 105, 110]⟩]) (by simp [results, Tryz.results14, go_sem, v0, v1]) rfl ⟨by rw [HM.out]; rfl, below2 H2.out.1 (by omega) _ _⟩
  | false =>
    have HM := Hd (show mainF m.2 = none by rw [mainF_any, hany]; rfl)
    clear hany
    have d0 : w2.cell? ⟨w.heap.size, 0, none⟩ = some (.slice ac m.1.length cc) := H2.out.2.1.1 0 _ rfl
    have d1 : w2.cell? ⟨w.heap.size, 1, none⟩ = some (.slice ab m.2.length cb) := H2.out.2.1.1 1 _ rfl
    clear r0 r1 t0 t1
    go_wp2_with fail
    go_region_held3 (fun W' => W'.cell? ⟨w.heap.size, 0, none⟩ = some (.slice ac m.1.length cc) ∧ W'.cell? ⟨w.heap.size, 1, none⟩ = some (.slice ab m.2.length cb)) (first | exact ⟨q0, q1⟩ | exact ⟨m0, m1⟩ | exact ⟨k0, k1⟩ | exact ⟨e0, e1⟩ | exact ⟨d0, d1⟩ | go_keep) (first
      | (go_at_call 32
         refine (HC1.out _ ?hb).mono ?_
         case hb => exact onB' H2.out.1 Br.drew
         rintro e w4 ⟨⟨mm, rfl, hm4⟩, hb4⟩
         have H4 : Below w2.heap.size w2 w4 := onB' (Below.refl w2.heap.size w2).drew hb4
         have e0 := later' H4 d0
         have e1 := later' H4 d1)
      | (go_at_call 31
         refine (asker_any mm (4 + m.1.length) (four ++ m.1) _ hm4).mono ?_
         rintro e w5 ⟨⟨ga, gt, gb, gk, gl, mt, rfl, hA5⟩, hb5⟩
         have H5 := onB' H4 hb5
         have k0 := later' hb5 e0
         have k1 := later' hb5 e1)
      | (go_at_call 30
         refine (afirst_bind gk (arB (four ++ m.1)) m.2 (fun x _ => arB_nz _ x) ab cb (fun g => g < w.heap.size) (fun g => g < w.heap.size) xb _ (HB.out.1.low (onB' H2.out.1 H5)) (HB.out.2.move fun g _ lt => ⟨lt, (onB' H2.out.1 H5).block g lt⟩)
           (fun j hj aq cq k nm f u ap np cp ak nk ck ab nb cb aa na ca V hV hQ hE => askbind_any ga gt gb gk gl mm (4 + m.1.length) mt 18 (four ++ m.1) _ (ask_all ga gt gb gk gl mm (4 + m.1.length) mt 18 (four ++ m.1) _) m.2[j] Nr (HW.out _ (List.getElem_mem hj)).2.2 aq cq k nm f u ap np cp ak nk ck ab nb cb aa na ca _ V hQ.cap (hA5.later hV) hE)).mono ?_
         rintro e w6 ⟨rfl, hb6⟩
         have H6 := onB' H5 hb6
         have m0 := later' hb6 k0
         have m1 := later' hb6 k1
         have hbr6 := H2.out.2.2.below H6
         have r0 := hbr6.1 0 _ rfl
         have r1 := hbr6.1 1 _ rfl
         have t0 := hbr6.2 0
         have t1 := hbr6.2 1
         unfold vF
         generalize hst : stN (firstF (arB (four ++ m.1)) m.2) = st at *
         have q0 := (keep2 (p := w.heap.size) (q := w.heap.size + 1) (i := 0) w6 (by omega) (.int .i64 st.1) (.string (tx st.2))).trans m0
         have q1 := (keep2 (p := w.heap.size) (q := w.heap.size + 1) (i := 1) w6 (by omega) (.int .i64 st.1) (.string (tx st.2))).trans m1))
    have HS := Hd hst
    go_wp2_with fail
    have v0 := (setTwo r0 r1 (.int .i64 st.1) (.string (tx st.2))).1
    have v1 := (setTwo r0 r1 (.int .i64 st.1) (.string (tx st.2))).2
    exact bodyPost_ret (v := .agg #[.int .i64 st.1, .string (tx st.2)]) (by simp [results, Tryz.results14, go_sem, v0, v1]) rfl ⟨by rw [HM.out, arBs_first, ← HS.out]; rfl, below2 (onB' H2.out.1 H6) (by omega) _ _⟩
theorem arM_len {m : Md} (hm : MdOk m) : FoLen (arM m) := by
  refine FoLen.or hm.len ?_
  intro e n h
  have hb : FoAr ((mainF m.2).or (arBs (four ++ m.1) m.2)) := FoAr.or (mainF_ar _) (by rw [arBs_first]; exact firstF_ar fun b hb => arB_ar _ b (hm.wb b hb))
  exact (hb e n h).2
theorem acheck_any (m : Md) (hm : MdOk m) (hnz : FoOk (scM m)) (har : ∀ d, d ∈ m.1 → Ar d) (ac : Option Addr) (cc : Nat) (ab : Option Addr) (cb : Nat) (K : Nat → Prop) (w : World) (h : ModAt w K m ac cc ab cb) (hE : ErrT w) :
    Calls Tryz.prog 8 #[.agg #[.slice ac m.1.length cc, .slice ab m.2.length cb]] w fun e w' => e = .returned (.tuple #[.int .i64 (stN (arM m)).1, .string (tx (stN (arM m)).2)]) ∧ Below w.heap.size w w' := by
  have hx := (Below.refl w.heap.size w).alloc Nr (.cells #[.slice ac m.1.length cc, .slice ab m.2.length cb] 27)
  have hB := BoxW.alloc w #[.slice ac m.1.length cc, .slice ab m.2.length cb] 27
  have HX := Hd (Ai hx (Ai hB (Ai (h.below hx) (hE.below hx))))
  have HC := Hd (check_any m hm ac cc ab cb K (w.alloc (.cells #[.slice ac m.1.length cc, .slice ab m.2.length cb] 27)) (h.below hx) (hE.below hx))
  have HL := Hd (arM_len hm)
  clear hx hB h hE
  go_enter Tryz.func8, Tryz.ntmps8
  go_wp2_with fail
  refine HC.out.mono ?_
  rintro e w2 ⟨rfl, hb2⟩
  have H2 := Hd (Ai (onB' HX.out.1 hb2) (Ai (HX.out.2.1.below hb2) (HX.out.2.2.1.below hb2)))
  clear hb2 HC HX
  cases hsc : scM m with
  | some fo =>
    obtain ⟨er, nn⟩ := fo
    have hne : (er != 0) = true := by simpa using (hnz er nn hsc).1
    have HM := Hd (show arM m = some (er, nn) by unfold arM; rw [hsc]; rfl)
    have e1 : stN (some (er, nn)) = (er, nn) := rfl
    rw [e1]
    clear hsc e1
    go_wp2_with fail
    go_ret2
    exact ⟨by rw [HM.out]; rfl, H2.out.1⟩
  | none =>
    have HF := Hd (amod_any m hm hsc har ac cc ab cb K w2 H2.out.2.2)
    have HM := Hd (show arM m = (mainF m.2).or (arBs (four ++ m.1) m.2) by unfold arM; rw [hsc]; rfl)
    rw [← HM.out] at HF
    have e1 : stN none = (0, []) := rfl
    rw [e1]
    have d0 : w2.cell? ⟨w.heap.size, 0, none⟩ = some (.slice ac m.1.length cc) := H2.out.2.1.1 0 _ rfl
    have d1 : w2.cell? ⟨w.heap.size, 1, none⟩ = some (.slice ab m.2.length cb) := H2.out.2.1.1 1 _ rfl
    clear hsc e1
    go_wp2_with fail
    refine HF.out.mono ?_
    rintro e w3 ⟨rfl, hb3⟩
    have hl : (stN (arM m)).2.length ≤ 100000 := by
      cases hq : arM m with
      | none => exact Nat.zero_le _
      | some v => exact HL.out v.1 v.2 hq
    unfold vF
    generalize hq1 : (stN (arM m)).1 = er at *
    generalize hq2 : (stN (arM m)).2 = nn at *
    have HQ := Hd (Ai hq1 hq2)
    clear hq1 hq2
    have hy := (Below.refl w3.heap.size w3).alloc Nr (.cells #[.int .i64 er, .string (tx nn)] 43)
    have hbx := BoxW.alloc w3 #[.int .i64 er, .string (tx nn)] 43
    have HB3 := Hd (onB' (onB' H2.out.1 hb3) hy)
    have hsx : (tx nn).size ≤ 140737488355328 := by
      have : (tx nn).size = nn.length := by simp [tx, ByteArray.size]
      omega
    have HC := Hd (fun W => clone_any (tx nn) hsx W)
    have HBX := Hd hbx
    clear hy hb3 HF hsx hbx d0 d1
    go_upto_region 5 with fail
    generalize (w3.alloc (.cells #[.int .i64 er, .string (tx nn)] 43)) = W at *
    have c0 : W.cell? ⟨w3.heap.size, 0, none⟩ = some (.int .i64 er) := HBX.out.1 0 _ rfl
    have c1 : W.cell? ⟨w3.heap.size, 1, none⟩ = some (.string (tx nn)) := HBX.out.1 1 _ rfl
    have HD := Hd (show Below W.heap.size W W.drew from Br.drew)
    go_region_held3 (fun W' => W'.cell? ⟨w3.heap.size, 0, none⟩ = some (.int .i64 er) ∧ W'.cell? ⟨w3.heap.size, 1, none⟩ = some (.string (tx nn))) (first | exact ⟨k0, k1⟩ | exact ⟨c0, c1⟩ | go_keep) (first
      | (go_at_call 15
         refine (HC.out _).mono ?_
         rintro e w4 ⟨rfl, hb4⟩
         have H4 := onB' HD.out hb4
         have k0 := later' H4 c0
         have k1 := later' H4 c1))
    all_goals (go_wp2_with fail; go_ret2; exact ⟨by first | rfl | (rw [HQ.out.1, HQ.out.2]; rfl), onB' HB3.out H4⟩)
theorem mainF_snoc (l : List Bnd) (b : Bnd) : mainF (l ++ [b]) = (mainF l).or (oneF (isM b.1 b.2.1.length) 11 mainL) := by
  rw [mainF_any, mainF_any, List.any_append, oneF_or]
  simp
theorem dacheck_any (m : Md) (hm : MdOk m) (hsd : sdM m = scM m) (hnz : FoOk (scM m)) (ac : Option Addr) (cc : Nat) (ab : Option Addr) (cb : Nat) (K : Nat → Prop) (w : World) (h : ModAt w K m ac cc ab cb) :
    Calls Tryz.prog 9 #[.agg #[.slice ac m.1.length cc, .slice ab m.2.length cb]] w fun e w' => e = .returned (.tuple #[.int .i64 (stN (adM m)).1, .string (tx (stN (adM m)).2)]) ∧ Below w.heap.size w w' := by
  have hx := (Below.refl w.heap.size w).alloc Nr (.cells #[.slice ac m.1.length cc, .slice ab m.2.length cb] 27)
  have hB := BoxW.alloc w #[.slice ac m.1.length cc, .slice ab m.2.length cb] 27
  have HC := Hd (dcheck_any m hm ac cc ab cb K (w.alloc (.cells #[.slice ac m.1.length cc, .slice ab m.2.length cb] 27)) (h.below hx))
  rw [hsd] at HC
  have hwt := hm.wt
  have HX := Hd (Ai hx hB)
  have HO := Hd h
  clear hx hB h
  go_enter Tryz.func9, Tryz.ntmps9
  go_wp2_with fail
  refine HC.out.mono ?_
  rintro e w2 ⟨rfl, hb2⟩
  have H2 := Hd (Ai (onB' HX.out.1 hb2) (HX.out.2.below hb2))
  clear hb2 HC HX
  cases hsc : scM m with
  | some fo =>
    obtain ⟨er, nn⟩ := fo
    have hne : (er != 0) = true := by simpa using (hnz er nn hsc).1
    have HM := Hd (show adM m = some (er, nn) by unfold adM; rw [hsd, hsc]; rfl)
    have e1 : stN (some (er, nn)) = (er, nn) := rfl
    rw [e1]
    clear hsc e1
    go_wp2_with fail
    go_ret2
    exact ⟨by rw [HM.out]; rfl, H2.out.1⟩
  | none =>
    have HM := Hd (show adM m = (mainF m.2).or (adBs (four ++ m.1) m.2) by unfold adM; rw [hsd, hsc]; rfl)
    have e1 : stN none = (0, []) := rfl
    rw [e1]
    have d0 : w2.cell? ⟨w.heap.size, 0, none⟩ = some (.slice ac m.1.length cc) := H2.out.2.1 0 _ rfl
    have d1 : w2.cell? ⟨w.heap.size, 1, none⟩ = some (.slice ab m.2.length cb) := H2.out.2.1 1 _ rfl
    have HCn := Hd (scons_any m.1 (.slice ac m.1.length cc) (.slice ab m.2.length cb) K w2 (by omega) (HO.out.below H2.out.1).dr)
    clear hsc e1
    go_wp2_with fail
    refine HCn.out.mono ?_
    rintro e w3 ⟨⟨v3, rfl, ho3⟩, hb3⟩
    obtain ⟨cl, hcl⟩ : ∃ cl : List (Nm × Int), cl = four ++ m.1 := ⟨_, rfl⟩
    have hll : 4 + m.1.length = cl.length := by rw [hcl]; simp [four]; omega
    rw [hll, ← hcl] at ho3
    rw [← hcl] at HM
    obtain ⟨a3, c3, rfl, -⟩ := own_shape ho3
    have hA := BoxW.alloc w3 #[.int .i64 0, .string ⟨#[]⟩, .slice a3 cl.length c3] 49
    have hx4 := more1 w3 (.cells #[.int .i64 0, .string ⟨#[]⟩, .slice a3 cl.length c3] 49)
    obtain ⟨xb, hbr, hbt⟩ := HO.out.br
    have hlt3 : w.heap.size < w3.heap.size := by have := Bl d0; have h3 := hb3.size; exact Nat.lt_of_lt_of_le this h3
    have H4 := Hd (show SAt (w3.alloc (.cells #[.int .i64 0, .string ⟨#[]⟩, .slice a3 cl.length c3] 49)) w3.heap.size none (.slice a3 cl.length c3) ∧ BoxW (w3.alloc (.cells #[.int .i64 0, .string ⟨#[]⟩, .slice a3 cl.length c3] 49)) w.heap.size [.slice ac m.1.length cc, .slice ab m.2.length cb] from ⟨⟨hA, fun x hx => by cases hx⟩, (H2.out.2.below hb3).below hx4⟩)
    have HB := Hd (onB' (onB' H2.out.1 hb3) hx4)
    have HR := Hd (show RowAt (w3.alloc (.cells #[.int .i64 0, .string ⟨#[]⟩, .slice a3 cl.length c3] 49)) (Apart w3.heap.size) 92 2 (.slice a3 cl.length c3) cl.length (declV cl) ∧ RowAt (w3.alloc (.cells #[.int .i64 0, .string ⟨#[]⟩, .slice a3 cl.length c3] 49)) (Apart w3.heap.size) 59 10 (.slice ab m.2.length cb) m.2.length xb ∧ BndsAt (w3.alloc (.cells #[.int .i64 0, .string ⟨#[]⟩, .slice a3 cl.length c3] 49)) (Apart w3.heap.size) m.2 xb from
      ⟨(RowAt.of (K := fun _ => True) ho3 (fun _ _ => trivial)).move fun g _ lt => ⟨Nat.ne_of_lt lt, hx4.block g lt⟩, hbr.move fun g _ lt => ⟨by show g ≠ _; omega, HB.out.block g lt⟩, hbt.move fun g _ lt => ⟨by show g ≠ _; omega, HB.out.block g lt⟩⟩)
    have hmb := hbr.cap
    unfold maxLen at hmb
    have hne : w.heap.size ≠ w3.heap.size := Nat.ne_of_lt hlt3
    have y1 := H4.out.2.1 1 _ rfl
    clear ho3 hb3 HCn hA hx4 hbr hbt d0 d1 hll hcl
    go_wp2_with fail
    generalize hW4 : (w3.alloc (.cells #[.int .i64 0, .string ⟨#[]⟩, .slice a3 cl.length c3] 49)) = W4 at *
    clear hW4
    generalize hbb : w3.heap.size = b at *
    clear hbb
    go_loopw [7] (fun s wr => ∃ j : Nat, j ≤ m.2.length ∧ s = .int .i64 j ∧ SAt wr b (mainF (m.2.take j)) (.slice a3 cl.length c3) ∧ W4.grownBy wr (some b) ∧ BoxW wr w.heap.size [.slice ac m.1.length cc, .slice ab m.2.length cb]) (fun s _ => m.2.length - (RowKit.intOf s).toNat)
    case atStart => exact ⟨0, Nat.zero_le _, rfl, H4.out.1, grown_of Br, H4.out.2⟩
    case round =>
      obtain ⟨j, hj, rfl, hs1, hg1, hb1⟩ := hrel
      have HRr := Hd (Ai hs1 (Ai hg1 hb1))
      have x1 := hb1.1 1 _ rfl
      clear hs1 hg1 hb1 y1
      by_cases gj : j < m.2.length
      · have gj' : (j : Int) < (m.2.length : Int) := by omega
        obtain ⟨aq9, cq9, k9, nm9, f9, u9, ap9, np9, cp9, ak9, nk9, ck9, ab9, nb9, cb9, aa9, na9, ca9, hQ, hE, hcs⟩ := HR.out.2.2.cells j gj
        obtain ⟨g1, o1, ea1, k1, m1', hgb, ht1⟩ := (HR.out.2.1.apart HRr.out.2.1).at (by omega)
        subst ea1
        have HPx := Hd (fun i v h => ht1 _ _ (hcs i v h))
        have HT := Hd (show mainF (m.2.take (j + 1)) = (mainF (m.2.take j)).or (oneF (isM m.2[j].1 m.2[j].2.1.length) 11 mainL) by rw [List.take_succ_eq_append_getElem gj, mainF_snoc])
        have hqc := hQ.cap
        clear ht1 hcs hE hQ
        generalize m.2[j].1 = nb0 at *
        generalize m.2[j].2.1.length = nq at *
        have p0 : wr.cell? ⟨g1, o1 + j * 10, none⟩ = some (.string (tx nb0)) := HPx.out 0 _ rfl
        have p1 : wr.cell? ⟨g1, o1 + j * 10 + 1, none⟩ = some (.slice aq9 nq cq9) := by rw [Nat.add_assoc]; exact HPx.out 1 _ rfl
        have ej : IntKind.i64.wrap ((j : Int) + 1) = (j : Int) + 1 := by rw [IntKind.wrap_i64]; omega
        have b0 : (0 : Int) ≤ (j : Int) := by omega
        unfold maxLen at hqc
        by_cases e1 : nb0 = mainL
        · subst e1
          have hy : tx mainL = ⟨#[109, 97, 105, 110]⟩ := rfl
          rw [hy] at p0
          by_cases e2 : 0 < nq
          · have e2' : (0 : Int) < (nq : Int) := by omega
            have HN := Hd (show oneF (isM mainL nq) 11 mainL = some (11, mainL) by unfold isM; rw [decide_eq_true e2]; rfl)
            have HF := Hd (afault_any b (mainF (m.2.take j)) _ 11 (by decide) mainL wr HRr.out.1)
            rw [hy] at HF
            clear hy
            go_wp2_with fail
            refine HF.out.mono ?_
            rintro e w6 ⟨rfl, hs6, hg6⟩
            have H6 := Hd (Ai hs6 hg6)
            clear hs6 hg6 HF p0 p1 x1 e2'
            go_wp2_with fail
            refine ⟨⟨j + 1, by omega, by go_num, ?_, Gt HRr.out.2.1 H6.out.2, HRr.out.2.2.grown H6.out.2 hne⟩, by simp [RowKit.intOf]; omega⟩
            rw [HT.out, HN.out]
            exact H6.out.1
          · obtain rfl : nq = 0 := by omega
            have HN := Hd (show oneF (isM mainL 0) 11 mainL = none by rfl)
            clear hy
            go_wp2_with fail
            refine ⟨⟨j + 1, by omega, by go_num, ?_, HRr.out.2⟩, by simp [RowKit.intOf]; omega⟩
            rw [HT.out, HN.out, or_nil_l]
            exact HRr.out.1
        · have hn : ((tx nb0).toList == [109, 97, 105, 110]) = false := by rw [tx_eqA]; exact beq_eq_false_iff_ne.2 e1
          have HN := Hd (show oneF (isM nb0 nq) 11 mainL = none by unfold isM; rw [beq_eq_false_iff_ne.2 e1]; rfl)
          clear e1
          go_wp2_with fail
          refine ⟨⟨j + 1, by omega, by go_num, ?_, HRr.out.2⟩, by simp [RowKit.intOf]; omega⟩
          rw [HT.out, HN.out, or_nil_l]
          exact HRr.out.1
      · obtain rfl : j = m.2.length := by omega
        have hs2 := HRr.out.1
        rw [List.take_length] at hs2
        have HR2 := Hd (Ai hs2 HRr.out.2)
        clear hs2 HRr H4
        generalize wr = wA at *
        obtain ⟨ST, hST⟩ : ∃ ST, ST = mainF m.2 := ⟨_, rfl⟩
        rw [← hST] at HR2
        have HST := Hd hST
        clear hST
        go_wp2_with fail
        go_loopw [8] (fun s wr => ∃ j : Nat, j ≤ m.2.length ∧ s = .int .i64 j ∧ SAt wr b (ST.or (firstF (adB cl) (m.2.take j))) (.slice a3 cl.length c3) ∧ W4.grownBy wr (some b) ∧ BoxW wr w.heap.size [.slice ac m.1.length cc, .slice ab m.2.length cb]) (fun s _ => m.2.length - (RowKit.intOf s).toNat)
        case atStart => exact ⟨0, Nat.zero_le _, rfl, by rw [List.take_zero, show firstF (adB cl) [] = none from rfl, or_nil_l]; exact HR2.out.1, HR2.out.2.1, HR2.out.2.2⟩
        case round =>
          obtain ⟨j, hj, rfl, hs1, hg1, hb1⟩ := hrel
          have HRr := Hd (Ai hs1 (Ai hg1 hb1))
          clear x1
          have x1 := hb1.1 1 _ rfl
          clear hs1 hg1 hb1
          by_cases gj : j < m.2.length
          · have gj' : (j : Int) < (m.2.length : Int) := by omega
            obtain ⟨aq9, cq9, k9, nm9, f9, u9, ap9, np9, cp9, ak9, nk9, ck9, ab9, nb9, cb9, aa9, na9, ca9, hQ, hE, hcs⟩ := HR.out.2.2.cells j gj
            obtain ⟨g1, o1, ea1, k1, m1', hgb, ht1⟩ := (HR.out.2.1.apart HRr.out.2.1).at (by omega)
            subst ea1
            have HPx := Hd (fun i v h => ht1 _ _ (hcs i v h))
            have HT := Hd (show firstF (adB cl) (m.2.take (j + 1)) = (firstF (adB cl) (m.2.take j)).or (adB cl m.2[j]) by rw [List.take_succ_eq_append_getElem gj, firstF_snoc])
            have HXp := Hd (abind_any _ (doca_all _) b (ST.or (firstF (adB cl) (m.2.take j))) cl a3 c3 m.2[j].1 m.2[j].2.1 m.2[j].2.2 aq9 cq9 k9 nm9 f9 u9 ap9 np9 cp9 ak9 nk9 ck9 ab9 nb9 cb9 aa9 na9 ca9 wr Nr hQ.cap HRr.out.1 (HR.out.1.apart HRr.out.2.1) (hE.apart HRr.out.2.1))
            clear ht1 hcs hE hQ
            obtain ⟨bx, hbx⟩ : ∃ bx, bx = m.2[j] := ⟨_, rfl⟩
            rw [← hbx] at HXp HT HPx
            clear hbx
            obtain ⟨nb0, ps0, body⟩ := bx
            replace HPx := Hd (show ∀ i v, [.string (tx nb0), .slice aq9 ps0.length cq9, .int .i64 k9, .string (tx nm9), .bool f9, .int .u64 u9, .slice ap9 np9 cp9, .slice ak9 nk9 ck9, .slice ab9 nb9 cb9, .slice aa9 na9 ca9][i]? = some v → wr.cell? ⟨g1, o1 + (j * 10 + i), none⟩ = some v from HPx.out)
            replace HXp := Hd (show Calls Tryz.prog 19 #[.pointer (some ⟨b, 0, none⟩), .agg #[.string (tx nb0), .slice aq9 ps0.length cq9, .int .i64 k9, .string (tx nm9), .bool f9, .int .u64 u9, .slice ap9 np9 cp9, .slice ak9 nk9 ck9, .slice ab9 nb9 cb9, .slice aa9 na9 ca9]] wr fun e w' => e = .returned (.tuple #[]) ∧ SAt w' b ((ST.or (firstF (adB cl) (m.2.take j))).or (adB cl (nb0, ps0, body))) (.slice a3 cl.length c3) ∧ wr.grownBy w' (some b) from HXp.out)
            have p0 : wr.cell? ⟨g1, o1 + j * 10, none⟩ = some (.string (tx nb0)) := HPx.out 0 _ rfl
            have p1 : wr.cell? ⟨g1, o1 + j * 10 + 1, none⟩ = some (.slice aq9 ps0.length cq9) := by rw [Nat.add_assoc]; exact HPx.out 1 _ rfl
            have p2 : wr.cell? ⟨g1, o1 + j * 10 + 2, none⟩ = some (.int .i64 k9) := by rw [Nat.add_assoc]; exact HPx.out 2 _ rfl
            have p3 : wr.cell? ⟨g1, o1 + j * 10 + 3, none⟩ = some (.string (tx nm9)) := by rw [Nat.add_assoc]; exact HPx.out 3 _ rfl
            have p4 : wr.cell? ⟨g1, o1 + j * 10 + 4, none⟩ = some (.bool f9) := by rw [Nat.add_assoc]; exact HPx.out 4 _ rfl
            have p5 : wr.cell? ⟨g1, o1 + j * 10 + 5, none⟩ = some (.int .u64 u9) := by rw [Nat.add_assoc]; exact HPx.out 5 _ rfl
            have p6 : wr.cell? ⟨g1, o1 + j * 10 + 6, none⟩ = some (.slice ap9 np9 cp9) := by rw [Nat.add_assoc]; exact HPx.out 6 _ rfl
            have p7 : wr.cell? ⟨g1, o1 + j * 10 + 7, none⟩ = some (.slice ak9 nk9 ck9) := by rw [Nat.add_assoc]; exact HPx.out 7 _ rfl
            have p8 : wr.cell? ⟨g1, o1 + j * 10 + 8, none⟩ = some (.slice ab9 nb9 cb9) := by rw [Nat.add_assoc]; exact HPx.out 8 _ rfl
            have p9 : wr.cell? ⟨g1, o1 + j * 10 + 9, none⟩ = some (.slice aa9 na9 ca9) := by rw [Nat.add_assoc]; exact HPx.out 9 _ rfl
            have ej : IntKind.i64.wrap ((j : Int) + 1) = (j : Int) + 1 := by rw [IntKind.wrap_i64]; omega
            have b0 : (0 : Int) ≤ (j : Int) := by omega
            go_wp2_with fail
            refine HXp.out.mono ?_
            rintro e w6 ⟨rfl, hs6, hg6⟩
            have H6 := Hd (Ai hs6 hg6)
            clear hs6 hg6 HXp x1 p0 p1 p2 p3 p4 p5 p6 p7 p8 p9
            go_wp2_with fail
            refine ⟨⟨j + 1, by omega, by go_num, ?_, Gt HRr.out.2.1 H6.out.2, HRr.out.2.2.grown H6.out.2 hne⟩, by simp [RowKit.intOf]; omega⟩
            rw [HT.out, ← or_assoc_f]
            exact H6.out.1
          · obtain rfl : j = m.2.length := by omega
            have hs2 := HRr.out.1
            rw [List.take_length] at hs2
            have HM2 := Hd (show adM m = ST.or (firstF (adB cl) m.2) by rw [HM.out, HST.out, adBs_first])
            have HE := Hd (below_of_new HB.out HRr.out.2.1 (Nat.le_of_lt hlt3))
            have u0 := hs2.box.1 0 _ rfl
            have u1 := hs2.box.1 1 _ rfl
            rw [← HM2.out] at u0 u1
            generalize hq1 : (stN (adM m)).1 = er at *
            generalize hq2 : (stN (adM m)).2 = nn at *
            have HQ := Hd (Ai hq1 hq2)
            clear hs2 hq1 hq2
            go_wp2_with fail
            go_quiet (fail)
            go_wp2_with fail
            go_ret2
            exact ⟨by first | rfl | (rw [HQ.out.1, HQ.out.2]; rfl), below_dN HE.out _⟩
def exTextA : ByteArray := ⟨#[109, 97, 105, 110, 32, 61, 32, 74, 117, 115, 116, 59]⟩
def exModA : Md := ([], [([109, 97, 105, 110], [], .leaf 2 [74, 117, 115, 116])])
theorem ex_modA : modL exTextA.data.toList = .ok exModA 1 [] := by kernel_rfl
theorem ex_faultA : arM exModA = some (11, [74, 117, 115, 116]) := by decide +kernel
theorem aawake_any (w : World) (hE : ErrT w) :
    Calls Tryz.prog 4 #[] w fun e w' => e = .returned (.bool true) ∧ Below w.heap.size w w' := by
  have HP := Hd (told_any exTextA (by decide +kernel) w)
  have HE := Hd hE
  rw [ex_modA] at HP
  unfold exTextA at HP
  clear hE
  go_enter Tryz.func4, Tryz.ntmps4
  go_wp2_with fail
  refine HP.out.mono ?_
  rintro e w2 ⟨⟨ad, cd, ab, cb, rfl, hm⟩, hb⟩
  have hx := (Below.refl w2.heap.size w2).alloc Nr (.cells #[.slice ad exModA.1.length cd, .slice ab exModA.2.length cb] 27)
  have hmo := modL_ok (by decide +kernel) ex_modA
  have HC := Hd (acheck_any exModA hmo.1 hmo.2.2 (modL_ar ex_modA) ad cd ab cb _ (w2.alloc (.cells #[.slice ad exModA.1.length cd, .slice ab exModA.2.length cb] 27)) (hm.below hx) (HE.out.below (onB' hb hx)))
  rw [ex_faultA] at HC
  have HM := Hd (Ai (onB' hb hx) (BoxW.alloc w2 #[.slice ad exModA.1.length cd, .slice ab exModA.2.length cb] 27))
  have HT := Hd (fun W => takes_any [119, 101, 97, 107] (by decide) W)
  rw [show tx [119, 101, 97, 107] = ⟨#[119, 101, 97, 107]⟩ from rfl, show takesL [119, 101, 97, 107] = 3 from by decide] at HT
  clear hm hb HP hx hmo
  go_wp2_with fail
  refine HC.out.mono ?_
  rintro e w3 ⟨rfl, hb3⟩
  have HB3 := Hd (onB' HM.out.1 hb3)
  have hf : stN (some (11, [74, 117, 115, 116])) = (11, [74, 117, 115, 116]) := rfl
  have hy : tx [74, 117, 115, 116] = ⟨#[74, 117, 115, 116]⟩ := rfl
  rw [hf, hy]
  clear hb3 HC
  go_wp2_with fail
  refine (HT.out _).mono ?_
  rintro e w4 ⟨rfl, hb4⟩
  have HB4 := Hd (onB' HB3.out hb4)
  clear hb4 HT
  go_wp2_with fail
  go_ret
  exact ⟨rfl, HB4.out⟩
theorem atells_walk (s name : ByteArray) (w : World) (hE : ErrT w) :
    Calls Tryz.prog 3 #[.string s, .string name] w fun e w' => e = .returned (.bool true) ∧ Below w.heap.size w w' := by
  have HE0 := Hd hE
  clear hE
  go_enter Tryz.func3, Tryz.ntmps3
  go_wp2_with fail
  refine (aawake_any w HE0.out).mono ?_
  rintro e w1 ⟨rfl, hb⟩
  have H1 := Hd (Ai hb (HE0.out.below hb))
  clear hb
  by_cases g3 : 3000 < s.size
  · have f3 : decide ((3000 : Int) < (s.size : Int)) = true := decide_eq_true (by omega)
    go_wp2_with fail
    go_ret
    exact ⟨rfl, H1.out.1⟩
  have f3 : decide ((3000 : Int) < (s.size : Int)) = false := decide_eq_false (by omega)
  by_cases g4 : 100 < name.size
  · have f4 : decide ((100 : Int) < (name.size : Int)) = true := decide_eq_true (by omega)
    go_wp2_with fail
    go_ret
    exact ⟨rfl, H1.out.1⟩
  have f4 : decide ((100 : Int) < (name.size : Int)) = false := decide_eq_false (by omega)
  go_wp2_with fail
  clear f3 f4
  have HTp := Hd (fun W => show Calls Tryz.prog 5 #[.string name] W fun e w' => e = .returned (.int .i64 (takesL name.data.toList)) ∧ Below W.heap.size W w' from takes_any name.data.toList (by have := size_eq name; omega) W)
  have HTd := Hd (fun W => show Calls Tryz.prog 6 #[.string name] W fun e w' => e = .returned (.int .i64 (takesL name.data.toList)) ∧ Below W.heap.size W w' from dtakes_any name.data.toList W)
  generalize takesL name.data.toList = tk at *
  have fz : (tk != tk) = false := by simp
  refine (HTp.out _).mono ?_
  rintro e w2 ⟨rfl, hb2⟩
  have H2 := Hd (Ai (onB' H1.out.1 hb2) (H1.out.2.below hb2))
  clear hb2 HTp
  go_wp2_with fail
  refine (HTd.out _).mono ?_
  rintro e w3 ⟨rfl, hb3⟩
  have H3 := Hd (Ai (onB' H2.out.1 hb3) (H2.out.2.below hb3))
  clear hb3 HTd
  have HP := Hd (told_any s (by omega) w3)
  have hsl : s.data.toList.length ≤ 100000 := by
    have := size_eq s
    omega
  go_wp2_with fail
  clear fz
  refine HP.out.mono ?_
  rintro e w4 ⟨hv, hb4⟩
  have HV := Hd (Ai hv (Ai (onB' H3.out.1 hb4) (H3.out.2.below hb4)))
  clear hb4 hv HP
  cases ho : modL s.data.toList with
  | bad er ln =>
    have hv := HV.out.1
    rw [ho] at hv
    obtain ⟨hne, rfl⟩ := hv
    have f5 : (er != 0) = true := by simpa using hne
    have hx := Hd (onB' HV.out.2.1 ((Below.refl w4.heap.size w4).alloc Nr (.cells #[.slice none 0 0, .slice none 0 0] 27)))
    go_wp2_with fail
    go_ret
    exact ⟨rfl, hx.out⟩
  | ok md la ra =>
    have hv := HV.out.1
    rw [ho] at hv
    obtain ⟨ad, cd, ab, cb, rfl, hm⟩ := hv
    have hok := modL_ok hsl ho
    have hx := (Below.refl w4.heap.size w4).alloc Nr (.cells #[.slice ad md.1.length cd, .slice ab md.2.length cb] 27)
    have HEW := Hd (show ErrT (w4.alloc (.cells #[.slice ad md.1.length cd, .slice ab md.2.length cb] 27)) from HV.out.2.2.below hx)
    have HX := Hd (Ai (onB' HV.out.2.1 hx) (Ai (BoxW.alloc w4 #[.slice ad md.1.length cd, .slice ab md.2.length cb] 27) (hm.below hx)))
    have HK := Hd (Ai hok (modL_ar ho))
    clear hm hx hok hsl
    have HC := Hd (acheck_any md HK.out.1.1 HK.out.1.2.2 HK.out.2 ad cd ab cb _ (w4.alloc (.cells #[.slice ad md.1.length cd, .slice ab md.2.length cb] 27)) HX.out.2.2 HEW.out)
    go_wp2_with fail
    refine HC.out.mono ?_
    rintro e w5 ⟨rfl, hb5⟩
    have H5 := Hd (Ai (HX.out.2.1.below hb5) (Ai (HX.out.2.2.below hb5) (onB' HX.out.1 hb5)))
    clear hb5 HC
    have x0 : w5.cell? ⟨w4.heap.size, 0, none⟩ = some (.slice ad md.1.length cd) := H5.out.1.1 0 _ rfl
    have x1 : w5.cell? ⟨w4.heap.size, 1, none⟩ = some (.slice ab md.2.length cb) := H5.out.1.1 1 _ rfl
    have HD := Hd (dacheck_any md HK.out.1.1 HK.out.1.2.1 HK.out.1.2.2 ad cd ab cb _ w5 H5.out.2.1)
    rw [adM_eq (wfBs_of HK.out.1.1.wb)] at HD
    generalize (stN (arM md)).1 = er at *
    generalize (stN (arM md)).2 = nn at *
    go_wp2_with fail
    refine HD.out.mono ?_
    rintro e w6 ⟨rfl, hb6⟩
    have H6 := Hd (onB' H5.out.2.2 hb6)
    clear hb6 HD x0 x1
    have he : ((tx nn).toList == (tx nn).toList) = true := by simp
    go_wp2_with fail
    go_ret
    exact ⟨by simp, H6.out⟩
end Go.Proofs.YtdjcdecbmeickaaGreatDoor
namespace Go.Proofs.YtdjcdecbmeickaaGreatDoor
open Go.ChangeShapes Go.WideShapes Go.RowKit Go.ChangeAt Go.Stop Go.Extern.Stop Go.Extern
theorem own : ownKnob Tryz.prog.godebug = none := by kernel_rfl
theorem et_at : Tryz.prog.globalNamed "errors.errorType" = some 0 := by kernel_rfl
theorem rt_at : (Tryz.prog.cutTypes.find? (·.1 == "internal/reflectlite.rtype")).map (·.2) = some 147 := by kernel_rfl
theorem err_row : ((List.range Tryz.prog.types.size).filter fun t => Tryz.prog.rowNamed t [101, 114, 114, 111, 114]) = [79] := by kernel_rfl
theorem errT_of_laid {W : World} (h : laidMetH Tryz.prog Rows.arityTellsRow.laid W) : ErrT W := by
  have h' : laidMet Tryz.prog [] W ∧ handlesMet Tryz.prog Rows.arityTellsRow.laid W := h
  obtain ⟨name, u, ty, e1, e2, e3, e4, e5⟩ := h'.2 _ (List.mem_singleton.2 rfl)
  have en : name = [101, 114, 114, 111, 114] := (Oi e1).symm
  subst en
  obtain rfl := Oi (rt_at.symm.trans e2)
  have hm : ty ∈ (List.range Tryz.prog.types.size).filter fun t => Tryz.prog.rowNamed t [101, 114, 114, 111, 114] := List.mem_filter.2 ⟨List.mem_range.2 e3, e4⟩
  rw [err_row] at hm
  obtain rfl := List.mem_singleton.1 hm
  have hh : typeHandle Tryz.prog 79 = .pointer (some ⟨1, 79, none⟩) := by kernel_rfl
  rw [hh] at e5
  simpa [ErrT] using World.var?_cell et_at e5 0
noncomputable def laidWorld (os : Os) : World :=
  let w0 := World.holding Tryz.prog os ⟨#[], #[], []⟩
  { w0 with heap := w0.heap.modify 0 fun
      | .cells _ t frozen => .cells #[.iface 147 (.agg #[.pointer (some ⟨1, 79, none⟩)])] t frozen
      | o => o }
theorem laidWorld_met (os : Os) (args : Array Value) : laidMetH Tryz.prog Rows.arityTellsRow.laid ((laidWorld os).forCall (fun _ _ => 0) ⟨#[], args, []⟩).memory :=
  laidMetH_of_parts (laidMet_nil _ _) (by kernel_rfl)
end Go.Proofs.YtdjcdecbmeickaaGreatDoor
