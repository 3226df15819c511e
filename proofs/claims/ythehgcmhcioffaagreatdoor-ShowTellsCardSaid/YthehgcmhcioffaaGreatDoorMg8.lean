import Derived.Test.YthehgcmhcioffaaGreatDoorMg5
import Derived.Test.YthehgcmhcioffaaGreatDoorMg7
namespace Go.Proofs.YthehgcmhcioffaaGreatDoor
set_option maxHeartbeats 64000000
set_option maxRecDepth 100000
open Go.RowKit Go.Lib
def TxE (x : Ex) : Prop :=
  ∀ (K : Nat → Prop) (W : World) (k : Int) (nm : Nm) (f : Bool) (u : Int) (ap : Option Addr) (np cp : Nat) (ak : Option Addr) (nk ck : Nat) (ab : Option Addr) (nb cb : Nat) (aa : Option Addr) (na ca : Nat), PE W → ExAt W K x [.int .i64 k, .string (tx nm), .bool f, .int .u64 u, .slice ap np cp, .slice ak nk ck, .slice ab nb cb, .slice aa na ca] →
    Calls Tryz.prog 15 #[.agg #[.int .i64 k, .string (tx nm), .bool f, .int .u64 u, .slice ap np cp, .slice ak nk ck, .slice ab nb cb, .slice aa na ca]] W fun e w' => e = .returned (.string (tx (shE x))) ∧ Below W.heap.size W w'
theorem print_any (f : Bool) (u : Int) (hu : NumF u) (w : World) (hp : PE w) : Calls Tryz.prog 133 #[.agg #[.bool f, .int .u64 u]] w fun e w' => e = .returned (.string (tx (printL f u))) ∧ Below w.heap.size w w' := by
  cases f with
  | false => exact print_int u w hp.1
  | true =>
    obtain ⟨h0, h1⟩ := hu
    obtain ⟨m, rfl⟩ := Int.eq_ofNat_of_zero_le h0
    have h := print_float m (by omega) w hp.2
    rwa [show (tx (printL true (m : Int)) : ByteArray) = ⟨(fltL m).toArray⟩ from by simp [tx, printL]]
theorem print_neg (f : Bool) (u : Int) (hu : NumF u) : srcL f u = if f = false ∧ wrap64 u < 0 then 35 :: printL f u else printL f u := by
  unfold srcL
  rcases print_form f u hu.1 hu.2 with ⟨c, r, e, hc, -⟩ | ⟨r, e, -, -⟩
  · have hn : ¬ (f = false ∧ wrap64 u < 0) := by
      rintro ⟨rfl, h⟩
      have e2 : printL false u = itoa (wrap64 u) := rfl
      unfold Lib.itoa at e2
      rw [if_pos h] at e2
      rw [e2] at e
      injection e with e _
      subst e
      revert hc
      decide
    rw [if_neg hn, e, if_neg]
    simp only [List.head?_cons, Option.some.injEq]
    rintro rfl
    revert hc
    decide
  · have hp : f = false ∧ wrap64 u < 0 := by
      cases f with
      | true =>
        exfalso
        obtain ⟨m, rfl⟩ := Int.eq_ofNat_of_zero_le hu.1
        have ht := (flt_text m (by have := hu.2; omega)).2
        have hp : printL true (m : Int) = fltL m := by simp [printL]
        rw [hp, ← ht] at e
        injection e with e _
        revert e
        decide
      | false =>
        refine ⟨rfl, ?_⟩
        rcases Int.lt_or_le (wrap64 u) 0 with h | h
        · exact h
        · exfalso
          obtain ⟨n, rfl⟩ := Int.eq_ofNat_of_zero_le hu.1
          have g : n < 9223372036854775808 := by
            have := hu.2
            unfold wrap64 at h
            omega
          have hp : printL false (n : Int) = itoa (wrap64 n) := by simp [printL]
          rw [hp, ← int_text_up n g] at e
          have hd := ((digs_in 10 (by omega) (by omega) n).1 45 (by rw [e]; exact List.mem_cons_self ..)).2 (by omega)
          revert hd
          decide
    rw [if_pos hp, e]
    rfl
theorem numText_any (f : Bool) (u : Int) (hu : NumF u) (w : World) (hp : PE w) : Calls Tryz.prog 104 #[.agg #[.bool f, .int .u64 u]] w fun e w' => e = .returned (.string (tx (nTx f u))) ∧ Below w.heap.size w w' := by
  have hx := (Below.refl w.heap.size w).alloc Nr (.cells #[.bool f, .int .u64 u] 33)
  have HP := Hd (print_any f u hu _ (hp.below hx))
  have HX := Hd hx
  have hs := print_neg f u hu
  have hlen := print_len f u hu.1 hu.2
  unfold nTx
  clear hx hp
  go_enter Tryz.func104, Tryz.ntmps104
  cases f with
  | true =>
    rw [if_neg (by simp)] at hs
    have HS := Hd hs
    clear hs
    go_wp2_with fail
    refine HP.out.mono ?_
    rintro e w2 ⟨rfl, hb⟩
    have HB := Hd (onB' HX.out hb)
    clear hb HP
    go_wp2_with fail
    go_ret
    exact ⟨by rw [HS.out]; rfl, HB.out⟩
  | false =>
    by_cases g : wrap64 u < 0
    · rw [if_pos ⟨rfl, g⟩] at hs
      have HS := Hd hs
      clear hs
      have g' : IntKind.i64.wrap u < 0 := by rw [IntKind.wrap_i64]; unfold wrap64 at g; omega
      go_wp2_with fail
      refine HP.out.mono ?_
      rintro e w2 ⟨rfl, hb⟩
      have HB := Hd (onB' HX.out hb)
      have hsz : (tx (printL false u)).size ≤ 1000 := by rw [tx_size]; exact hlen
      clear hb HP hlen
      go_wp2_with fail
      go_ret
      exact ⟨by rw [HS.out]; exact ret_str (by rw [show (⟨#[35]⟩ : ByteArray) = tx [35] from rfl, tx_app]; rfl), HB.out⟩
    · rw [if_neg (by simp [g])] at hs
      have HS := Hd hs
      clear hs
      have g' : ¬ IntKind.i64.wrap u < 0 := by rw [IntKind.wrap_i64]; unfold wrap64 at g; omega
      go_wp2_with fail
      refine HP.out.mono ?_
      rintro e w2 ⟨rfl, hb⟩
      have HB := Hd (onB' HX.out hb)
      clear hb HP
      go_wp2_with fail
      go_ret
      exact ⟨by rw [HS.out]; rfl, HB.out⟩
theorem isBare_any (k : Int) (nm : Nm) (f : Bool) (u : Int) (ap : Option Addr) (np cp : Nat) (ak : Option Addr) (nk ck : Nat) (ab : Option Addr) (nb cb : Nat) (aa : Option Addr) (na ca : Nat) (w : World) : Calls Tryz.prog 105 #[.agg #[.int .i64 k, .string (tx nm), .bool f, .int .u64 u, .slice ap np cp, .slice ak nk ck, .slice ab nb cb, .slice aa na ca]] w fun e w' => e = .returned (.bool ((k == 2 || k == 5) && nk == 0)) ∧ Below w.heap.size w w' := by
  have HX := Hd ((Below.refl w.heap.size w).alloc Nr (.cells #[.int .i64 k, .string (tx nm), .bool f, .int .u64 u, .slice ap np cp, .slice ak nk ck, .slice ab nb cb, .slice aa na ca] 48))
  go_enter Tryz.func105, Tryz.ntmps105
  by_cases g : k = 2 ∨ k = 5
  · by_cases gn : nk = 0
    · subst gn
      rcases g with rfl | rfl
      · go_wp2_with fail
        go_ret
        exact ⟨rfl, HX.out⟩
      · go_wp2_with fail
        go_ret
        exact ⟨rfl, HX.out⟩
    · have HZ := Hd (show ((nk : Int) == 0) = false by simp; omega)
      have HN := Hd (show (nk == 0) = false by simpa using gn)
      rcases g with rfl | rfl
      · go_wp2_with fail
        go_ret
        exact ⟨by rw [HN.out]; exact congrArg (fun b => Ending.returned (.bool b)) HZ.out, HX.out⟩
      · go_wp2_with fail
        go_ret
        exact ⟨by rw [HN.out]; exact congrArg (fun b => Ending.returned (.bool b)) HZ.out, HX.out⟩
  · have g2 : ¬ k = 2 := fun h => g (Or.inl h)
    have g5 : ¬ k = 5 := fun h => g (Or.inr h)
    have HN := Hd (show ((k == 2 || k == 5) && nk == 0) = false by simp [g2, g5])
    go_wp2_with fail
    go_ret
    exact ⟨by rw [HN.out]; rfl, HX.out⟩
theorem RowAt.blw {W V : World} {K : Nat → Prop} {e : TypeId} {size : Nat} {v : Value} {n : Nat} {xs : List Value} (h : RowAt W K e size v n xs) (hb : Below W.heap.size W V) : RowAt V K e size v n xs := h.move fun g hk lt => ⟨hk, hb.block g lt⟩
theorem ExAt.blw {W V : World} {K : Nat → Prop} {x : Ex} {cs : List Value} (h : ExAt W K x cs) (hb : Below W.heap.size W V) : ExAt V K x cs := h.move fun g hk lt => ⟨hk, hb.block g lt⟩
theorem ExsAt.blw {W V : World} {K : Nat → Prop} {x : List Ex} {cs : List Value} (h : ExsAt W K x cs) (hb : Below W.heap.size W V) : ExsAt V K x cs := h.move fun g hk lt => ⟨hk, hb.block g lt⟩
theorem BndsAt.blw {W V : World} {K : Nat → Prop} {x : List Bnd} {cs : List Value} (h : BndsAt W K x cs) (hb : Below W.heap.size W V) : BndsAt V K x cs := h.move fun g hk lt => ⟨hk, hb.block g lt⟩
theorem AltsAt.blw {W V : World} {K : Nat → Prop} {x : List Alt} {cs : List Value} (h : AltsAt W K x cs) (hb : Below W.heap.size W V) : AltsAt V K x cs := h.move fun g hk lt => ⟨hk, hb.block g lt⟩
theorem row_own {w w' : World} {base : Nat} {e : TypeId} {size : Nat} {v : Value} {n : Nat} {xs : List Value} (h : w.ownsRow base e size v n xs) (hb : Below w.heap.size w w') : RowAt w' (fun _ => True) e size v n xs := RowAt.of (own_below h hb) (fun _ _ => trivial)
theorem row_new {e : TypeId} {size : Nat} (w : World) (cs : Array Value) (n : Nat) (m : n ≤ maxLen) (h : cs.size = n * size) : RowAt (w.alloc (.cells cs e)) (fun _ => True) e size (.slice (some ⟨w.heap.size, 0, none⟩) n n) n cs.toList :=
  RowAt.of ⟨by rw [Array.length_toList]; exact h, Or.inr ⟨w.heap.size, n, cs, rfl, Nat.le_refl _, heap_alloc_new _ _, Nat.le_refl _, m, h, by rw [← h, ← Array.length_toList]; exact List.take_length⟩⟩ (fun _ _ => trivial)
theorem plain_of (k : Int) (nm : Nm) (f : Bool) (u : Int) (ps : List Nm) (ks : List Ex) (bl : List Bnd) (al : List Alt) : bareE (.mk k nm f u ps ks bl al) = ((k == 2 || k == 5) && ks.length == 0) := by
  unfold bareE
  cases ks <;> simp
theorem shatom_any (x : Ex) (hT : TxE x) (hl : (shE x).length ≤ 20000000000) (K : Nat → Prop) (w : World) (k : Int) (nm : Nm) (f : Bool) (u : Int) (ap : Option Addr) (np cp : Nat) (ak : Option Addr) (nk ck : Nat) (ab : Option Addr) (nb cb : Nat) (aa : Option Addr) (na ca : Nat) (hp : PE w) (hE : ExAt w K x [.int .i64 k, .string (tx nm), .bool f, .int .u64 u, .slice ap np cp, .slice ak nk ck, .slice ab nb cb, .slice aa na ca]) :
    Calls Tryz.prog 132 #[.agg #[.int .i64 k, .string (tx nm), .bool f, .int .u64 u, .slice ap np cp, .slice ak nk ck, .slice ab nb cb, .slice aa na ca]] w fun e w' => e = .returned (.string (tx (atomT x))) ∧ Below w.heap.size w w' := by
  obtain ⟨ps, ks, bl, al, xk, xb, xa, hxx, -, hnk, -⟩ := hE.opened
  have hkd : kindE x = k := by rw [hxx]; rfl
  have hba : bareE x = ((k == 2 || k == 5) && nk == 0) := by rw [hxx, plain_of, hnk]
  have hat : atomT x = if plainE x then shE x else encL (shE x) := rfl
  unfold plainE at hat
  rw [hkd, hba] at hat
  have hx := (Below.refl w.heap.size w).alloc Nr (.cells #[.int .i64 k, .string (tx nm), .bool f, .int .u64 u, .slice ap np cp, .slice ak nk ck, .slice ab nb cb, .slice aa na ca] 48)
  have HT := Hd (fun (V : World) (hb : Below w.heap.size w V) => hT K V k nm f u ap np cp ak nk ck ab nb cb aa na ca (hp.below hb) (hE.blw hb))
  have HI := Hd (isBare_any k nm f u ap np cp ak nk ck ab nb cb aa na ca (w.alloc (.cells #[.int .i64 k, .string (tx nm), .bool f, .int .u64 u, .slice ap np cp, .slice ak nk ck, .slice ab nb cb, .slice aa na ca] 48)))
  have HX := Hd (Ai hx (BoxW.alloc w #[.int .i64 k, .string (tx nm), .bool f, .int .u64 u, .slice ap np cp, .slice ak nk ck, .slice ab nb cb, .slice aa na ca] 48))
  have HN := Hd (fun W => enc_any (shE x) (by omega) W)
  generalize atomT x = ax at *
  generalize shE x = sx at *
  clear hx hp hE hT hba hkd hxx hl hnk
  go_enter Tryz.func132, Tryz.ntmps132
  by_cases g : k = 1 ∨ k = 3
  · have hax : ax = sx := by rw [hat]; rcases g with rfl | rfl <;> rfl
    subst hax
    clear hat HI HN
    have HTw := Hd (HT.out _ HX.out.1)
    rcases g with rfl | rfl
    · go_wp2_with fail
      refine HTw.out.mono ?_
      rintro e w2 ⟨rfl, hb⟩
      have HB := Hd (onB' HX.out.1 hb)
      clear hb HTw
      go_wp2_with fail
      go_ret
      exact ⟨rfl, HB.out⟩
    · go_wp2_with fail
      refine HTw.out.mono ?_
      rintro e w2 ⟨rfl, hb⟩
      have HB := Hd (onB' HX.out.1 hb)
      clear hb HTw
      go_wp2_with fail
      go_ret
      exact ⟨rfl, HB.out⟩
  · have g1 : ¬ k = 1 := fun h => g (Or.inl h)
    have g3 : ¬ k = 3 := fun h => g (Or.inr h)
    rw [show (k == 1) = false by simpa using g1, show (k == 3) = false by simpa using g3, Bool.false_or, Bool.false_or] at hat
    have e13 : (k == 1 || k == 3) = false := by simp [g1, g3]
    clear g
    go_wp2_with fail
    refine HI.out.mono ?_
    rintro e w2 ⟨rfl, hb⟩
    have HB := Hd (Ai (onB' HX.out.1 hb) (HX.out.2.below hb))
    clear hb HI HX
    generalize ((k == 2 || k == 5) && nk == 0) = bq at *
    have q0 : w2.cell? ⟨w.heap.size, 0, none⟩ = some (.int .i64 k) := HB.out.2.1 0 _ rfl
    have q1 : w2.cell? ⟨w.heap.size, 1, none⟩ = some (.string (tx nm)) := HB.out.2.1 1 _ rfl
    have q2 : w2.cell? ⟨w.heap.size, 2, none⟩ = some (.bool f) := HB.out.2.1 2 _ rfl
    have q3 : w2.cell? ⟨w.heap.size, 3, none⟩ = some (.int .u64 u) := HB.out.2.1 3 _ rfl
    have q4 : w2.cell? ⟨w.heap.size, 4, none⟩ = some (.slice ap np cp) := HB.out.2.1 4 _ rfl
    have q5 : w2.cell? ⟨w.heap.size, 5, none⟩ = some (.slice ak nk ck) := HB.out.2.1 5 _ rfl
    have q6 : w2.cell? ⟨w.heap.size, 6, none⟩ = some (.slice ab nb cb) := HB.out.2.1 6 _ rfl
    have q7 : w2.cell? ⟨w.heap.size, 7, none⟩ = some (.slice aa na ca) := HB.out.2.1 7 _ rfl
    have HTw := Hd (HT.out _ HB.out.1)
    cases bq with
    | true =>
      have hax : ax = sx := hat
      subst hax
      clear hat HN
      go_wp2_with fail
      refine HTw.out.mono ?_
      rintro e w3 ⟨rfl, hb⟩
      have HB3 := Hd (onB' HB.out.1 hb)
      clear hb HTw
      go_wp2_with fail
      go_ret
      exact ⟨rfl, HB3.out⟩
    | false =>
      have hax : ax = encL sx := hat
      subst hax
      clear hat
      go_wp2_with fail
      refine HTw.out.mono ?_
      rintro e w3 ⟨rfl, hb⟩
      have HB3 := Hd (onB' HB.out.1 hb)
      have HNw := Hd (HN.out w3)
      clear hb HTw HN
      go_wp2_with fail
      refine HNw.out.mono ?_
      rintro e w4 ⟨rfl, hb⟩
      have HB4 := Hd (onB' HB3.out hb)
      clear hb HNw
      go_wp2_with fail
      go_ret
      exact ⟨rfl, HB4.out⟩
theorem shatoms1_any (x : Ex) (hT : TxE x) (hl : (shE x).length ≤ 20000000000) (K : Nat → Prop) (w : World) (k : Int) (nm : Nm) (f : Bool) (u : Int) (ap : Option Addr) (np cp : Nat) (ak : Option Addr) (nk ck : Nat) (ab : Option Addr) (nb cb : Nat) (aa : Option Addr) (na ca : Nat) (hp : PE w) (hE : ExAt w K x [.int .i64 k, .string (tx nm), .bool f, .int .u64 u, .slice ap np cp, .slice ak nk ck, .slice ab nb cb, .slice aa na ca]) :
    Calls Tryz.prog 131 #[.agg #[.int .i64 k, .string (tx nm), .bool f, .int .u64 u, .slice ap np cp, .slice ak nk ck, .slice ab nb cb, .slice aa na ca]] w fun e w' => e = .returned (.string (tx (atomT x))) ∧ Below w.heap.size w w' := by
  have hx := (Below.refl w.heap.size w).alloc Nr (.cells #[.int .i64 k, .string (tx nm), .bool f, .int .u64 u, .slice ap np cp, .slice ak nk ck, .slice ab nb cb, .slice aa na ca] 37)
  have HT := Hd (shatom_any x hT hl K _ k nm f u ap np cp ak nk ck ab nb cb aa na ca (hp.below hx) (hE.blw hx))
  have HX := Hd hx
  clear hx hp hE hT
  go_enter Tryz.func131, Tryz.ntmps131
  go_wp2_with fail
  refine HT.out.mono ?_
  rintro e w2 ⟨rfl, hb⟩
  have HB := Hd (onB' HX.out hb)
  clear hb HT
  go_wp2_with fail
  go_ret
  exact ⟨rfl, HB.out⟩
theorem shatoms_any (ks : List Ex) (hT : ∀ y, y ∈ ks → TxE y ∧ (shE y).length ≤ 20000000000) (hn : ks.length ≤ 1000000) (K : Nat → Prop) (xk : List Value) (w : World) (k : Int) (nm : Nm) (f : Bool) (u : Int) (ap : Option Addr) (np cp : Nat) (ak : Option Addr) (ck : Nat) (ab : Option Addr) (nb cb : Nat) (aa : Option Addr) (na ca : Nat) (hp : PE w) (hr : RowAt w K 37 8 (.slice ak ks.length ck) ks.length xk) (ht : ExsAt w K ks xk) :
    Calls Tryz.prog 103 #[.agg #[.int .i64 k, .string (tx nm), .bool f, .int .u64 u, .slice ap np cp, .slice ak ks.length ck, .slice ab nb cb, .slice aa na ca]] w fun e w' => (∃ v, e = .returned v ∧ w'.ownsRow w.heap.size 9 1 v (ks.map atomT).length (namesV (ks.map atomT))) ∧ Below w.heap.size w w' := by
  have hx := (Below.refl w.heap.size w).alloc Nr (.cells #[.int .i64 k, .string (tx nm), .bool f, .int .u64 u, .slice ap np cp, .slice ak ks.length ck, .slice ab nb cb, .slice aa na ca] 48)
  have hlo := hx.size
  have HE := Hd (each_ex 131 (enters_of Tryz.func131 (by kernel_rfl) rfl) atomT ks hn ak ck K K xk _ (hr.blw hx) (ht.blw hx)
    (fun j hj k nm f u ap np cp ak nk ck ab nb cb aa na ca V hV hE => shatoms1_any ks[j] (hT _ (List.getElem_mem hj)).1 (hT _ (List.getElem_mem hj)).2 K V k nm f u ap np cp ak nk ck ab nb cb aa na ca ((hp.below hx).below hV) hE))
  have HX := Hd hx
  have hmf := func_made
  clear hx hp hr ht hT
  go_enter Tryz.func103, Tryz.ntmps103
  go_wp2_with fail
  refine HE.out.mono ?_
  rintro e w2 ⟨⟨v, rfl, ho⟩, hb⟩
  have HB := Hd (Ai (own_base ho hlo) (onB' HX.out hb))
  clear hb HE ho
  go_wp2_with fail
  go_ret
  exact ⟨⟨_, rfl, HB.out.1⟩, HB.out.2⟩
theorem mem_words {x f : List UInt8} {o : List (List UInt8)} (h : x ∈ o) : x.length ≤ (wordsL f o).length := by
  unfold wordsL
  rw [List.length_append]
  induction o with
  | nil => cases h
  | cons a r ih =>
    rw [List.flatMap_cons, List.length_append, List.length_cons]
    rcases List.mem_cons.1 h with rfl | h
    · omega
    · have := ih h; omega
theorem shinner_any (k : Int) (nm : Nm) (f : Bool) (u : Int) (ps : List Nm) (ks : List Ex) (bl : List Bnd) (al : List Alt) (ap : Option Addr) (cp : Nat) (ak : Option Addr) (ck : Nat) (ab : Option Addr) (cb : Nat) (aa : Option Addr) (ca : Nat) (K : Nat → Prop) (xk _ _ : List Value) (w : World) (hp : PE w) (hT : ∀ y, y ∈ ks → TxE y ∧ (shE y).length ≤ 20000000000) (hn : ks.length ≤ 1000000) (hK : RowAt w K 37 8 (.slice ak ks.length ck) ks.length xk) (tK : ExsAt w K ks xk) :
    Calls Tryz.prog 111 #[.agg #[.int .i64 k, .string (tx nm), .bool f, .int .u64 u, .slice ap ps.length cp, .slice ak ks.length ck, .slice ab bl.length cb, .slice aa al.length ca]] w fun e w' => e = .returned (.string (tx (innT ks))) ∧ Below w.heap.size w w' := by
  have hx := (Below.refl w.heap.size w).alloc Nr (.cells #[.int .i64 k, .string (tx nm), .bool f, .int .u64 u, .slice ap ps.length cp, .slice ak ks.length ck, .slice ab bl.length cb, .slice aa al.length ca] 48)
  have HX := Hd (Ai hx (BoxW.alloc w #[.int .i64 k, .string (tx nm), .bool f, .int .u64 u, .slice ap ps.length cp, .slice ak ks.length ck, .slice ab bl.length cb, .slice aa al.length ca] 48))
  have HO := Hd (Ai (hp.below hx) (Ai (hK.blw hx) (tK.blw hx)))
  have HT := Hd hT
  have hmf := func_made
  clear hx hp hK tK hT
  go_enter Tryz.func111, Tryz.ntmps111
  go_upto_region 1 with fail
  generalize (w.alloc (.cells #[.int .i64 k, .string (tx nm), .bool f, .int .u64 u, .slice ap ps.length cp, .slice ak ks.length ck, .slice ab bl.length cb, .slice aa al.length ca] 48)) = W at *
  have d0 : W.cell? ⟨w.heap.size, 0, none⟩ = some (.int .i64 k) := HX.out.2.1 0 _ rfl
  have d1 : W.cell? ⟨w.heap.size, 1, none⟩ = some (.string (tx nm)) := HX.out.2.1 1 _ rfl
  have d2 : W.cell? ⟨w.heap.size, 2, none⟩ = some (.bool f) := HX.out.2.1 2 _ rfl
  have d3 : W.cell? ⟨w.heap.size, 3, none⟩ = some (.int .u64 u) := HX.out.2.1 3 _ rfl
  have d4 : W.cell? ⟨w.heap.size, 4, none⟩ = some (.slice ap ps.length cp) := HX.out.2.1 4 _ rfl
  have d5 : W.cell? ⟨w.heap.size, 5, none⟩ = some (.slice ak ks.length ck) := HX.out.2.1 5 _ rfl
  have d6 : W.cell? ⟨w.heap.size, 6, none⟩ = some (.slice ab bl.length cb) := HX.out.2.1 6 _ rfl
  have d7 : W.cell? ⟨w.heap.size, 7, none⟩ = some (.slice aa al.length ca) := HX.out.2.1 7 _ rfl
  by_cases g : ks.length = 0
  · have hz : ks = [] := List.length_eq_zero_iff.1 g
    subst hz
    go_wp2_with fail
    go_ret
    exact ⟨rfl, HX.out.1⟩
  · have g0 : 0 < ks.length := by omega
    have gz : ¬ (ks.length : Int) = 0 := by omega
    have gp : (0 : Int) < (ks.length : Int) := by omega
    obtain ⟨k1, nm1, f1, u1, ap1, np1, cp1, ak1, nk1, ck1, ab1, nb1, cb1, aa1, na1, ca1, hE, hc⟩ := HO.out.2.2.cells 0 g0
    obtain ⟨g1, o1, ea1, m1, m2, -, ht1⟩ := HO.out.2.1.at g0
    subst ea1
    rw [Nat.zero_mul] at hc
    have hin : innT ks = shE ks[0] := by cases ks with
      | nil => simp at g0
      | cons a r => rfl
    have HK := Hd ((HT.out ks[0] (List.getElem_mem g0)).1 K W k1 nm1 f1 u1 ap1 np1 cp1 ak1 nk1 ck1 ab1 nb1 cb1 aa1 na1 ca1 HO.out.1 hE)
    have HI := Hd hin
    clear hE hin HT
    generalize shE ks[0] = tk at *
    have p0 : W.cell? ⟨g1, o1, none⟩ = some (.int .i64 k1) := ht1 0 _ (hc 0 _ rfl)
    have p1 : W.cell? ⟨g1, o1 + 1, none⟩ = some (.string (tx nm1)) := ht1 1 _ (by have := hc 1 _ rfl; rwa [Nat.zero_add] at this)
    have p2 : W.cell? ⟨g1, o1 + 2, none⟩ = some (.bool f1) := ht1 2 _ (by have := hc 2 _ rfl; rwa [Nat.zero_add] at this)
    have p3 : W.cell? ⟨g1, o1 + 3, none⟩ = some (.int .u64 u1) := ht1 3 _ (by have := hc 3 _ rfl; rwa [Nat.zero_add] at this)
    have p4 : W.cell? ⟨g1, o1 + 4, none⟩ = some (.slice ap1 np1 cp1) := ht1 4 _ (by have := hc 4 _ rfl; rwa [Nat.zero_add] at this)
    have p5 : W.cell? ⟨g1, o1 + 5, none⟩ = some (.slice ak1 nk1 ck1) := ht1 5 _ (by have := hc 5 _ rfl; rwa [Nat.zero_add] at this)
    have p6 : W.cell? ⟨g1, o1 + 6, none⟩ = some (.slice ab1 nb1 cb1) := ht1 6 _ (by have := hc 6 _ rfl; rwa [Nat.zero_add] at this)
    have p7 : W.cell? ⟨g1, o1 + 7, none⟩ = some (.slice aa1 na1 ca1) := ht1 7 _ (by have := hc 7 _ rfl; rwa [Nat.zero_add] at this)
    clear hc ht1
    go_wp2_with fail
    refine HK.out.mono ?_
    rintro e w2 ⟨rfl, hb⟩
    have HB := Hd (onB' HX.out.1 hb)
    clear hb HK
    go_wp2_with fail
    go_ret
    exact ⟨by rw [HI.out]; rfl, HB.out⟩
theorem shvar_any (k : Int) (nm : Nm) (f : Bool) (u : Int) (ps : List Nm) (ks : List Ex) (bl : List Bnd) (al : List Alt) (ap : Option Addr) (cp : Nat) (ak : Option Addr) (ck : Nat) (ab : Option Addr) (cb : Nat) (aa : Option Addr) (ca : Nat) (_ : Nat → Prop) (_ _ _ : List Value) (w : World) (_ : PE w) :
    Calls Tryz.prog 61 #[.agg #[.int .i64 k, .string (tx nm), .bool f, .int .u64 u, .slice ap ps.length cp, .slice ak ks.length ck, .slice ab bl.length cb, .slice aa al.length ca]] w fun e w' => e = .returned (.string (tx (nm))) ∧ Below w.heap.size w w' := by
  have hx := (Below.refl w.heap.size w).alloc Nr (.cells #[.int .i64 k, .string (tx nm), .bool f, .int .u64 u, .slice ap ps.length cp, .slice ak ks.length ck, .slice ab bl.length cb, .slice aa al.length ca] 48)
  have HX := Hd (Ai hx (BoxW.alloc w #[.int .i64 k, .string (tx nm), .bool f, .int .u64 u, .slice ap ps.length cp, .slice ak ks.length ck, .slice ab bl.length cb, .slice aa al.length ca] 48))
  have hmf := func_made
  clear hx 
  go_enter Tryz.func61, Tryz.ntmps61
  go_wp2_with fail
  go_ret
  exact ⟨rfl, HX.out.1⟩
theorem shnum_any (k : Int) (nm : Nm) (f : Bool) (u : Int) (ps : List Nm) (ks : List Ex) (bl : List Bnd) (al : List Alt) (ap : Option Addr) (cp : Nat) (ak : Option Addr) (ck : Nat) (ab : Option Addr) (cb : Nat) (aa : Option Addr) (ca : Nat) (_ : Nat → Prop) (_ _ _ : List Value) (w : World) (hp : PE w) (hu : NumF u) :
    Calls Tryz.prog 63 #[.agg #[.int .i64 k, .string (tx nm), .bool f, .int .u64 u, .slice ap ps.length cp, .slice ak ks.length ck, .slice ab bl.length cb, .slice aa al.length ca]] w fun e w' => e = .returned (.string (tx (nTx f u))) ∧ Below w.heap.size w w' := by
  have hx := (Below.refl w.heap.size w).alloc Nr (.cells #[.int .i64 k, .string (tx nm), .bool f, .int .u64 u, .slice ap ps.length cp, .slice ak ks.length ck, .slice ab bl.length cb, .slice aa al.length ca] 48)
  have HX := Hd (Ai hx (BoxW.alloc w #[.int .i64 k, .string (tx nm), .bool f, .int .u64 u, .slice ap ps.length cp, .slice ak ks.length ck, .slice ab bl.length cb, .slice aa al.length ca] 48))
  have HN := Hd (numText_any f u hu _ (hp.below hx))
  have hmf := func_made
  clear hx hp
  go_enter Tryz.func63, Tryz.ntmps63
  go_wp2_with fail
  refine HN.out.mono ?_
  rintro e w2 ⟨rfl, hb⟩
  have HB := Hd (onB' HX.out.1 hb)
  clear hb HN
  go_wp2_with fail
  go_ret
  exact ⟨rfl, HB.out⟩
theorem shnamed_any (k : Int) (nm : Nm) (f : Bool) (u : Int) (ps : List Nm) (ks : List Ex) (bl : List Bnd) (al : List Alt) (ap : Option Addr) (cp : Nat) (ak : Option Addr) (ck : Nat) (ab : Option Addr) (cb : Nat) (aa : Option Addr) (ca : Nat) (K : Nat → Prop) (xk _ _ : List Value) (w : World) (hp : PE w) (hT : ∀ y, y ∈ ks → TxE y ∧ (shE y).length ≤ 20000000000) (hn : ks.length ≤ 1000000) (hl : (wordsL nm (ks.map atomT)).length ≤ 20000000000) (hK : RowAt w K 37 8 (.slice ak ks.length ck) ks.length xk) (tK : ExsAt w K ks xk) :
    Calls Tryz.prog 62 #[.agg #[.int .i64 k, .string (tx nm), .bool f, .int .u64 u, .slice ap ps.length cp, .slice ak ks.length ck, .slice ab bl.length cb, .slice aa al.length ca]] w fun e w' => e = .returned (.string (tx (wordsL nm (ks.map atomT)))) ∧ Below w.heap.size w w' := by
  have hx := (Below.refl w.heap.size w).alloc Nr (.cells #[.int .i64 k, .string (tx nm), .bool f, .int .u64 u, .slice ap ps.length cp, .slice ak ks.length ck, .slice ab bl.length cb, .slice aa al.length ca] 48)
  have HX := Hd (Ai hx (BoxW.alloc w #[.int .i64 k, .string (tx nm), .bool f, .int .u64 u, .slice ap ps.length cp, .slice ak ks.length ck, .slice ab bl.length cb, .slice aa al.length ca] 48))
  have HA := Hd (fun (V : World) (hb : Below w.heap.size w V) => shatoms_any ks hT hn K xk V k nm f u ap ps.length cp ak ck ab bl.length cb aa al.length ca (hp.below hb) (hK.blw hb) (tK.blw hb))
  have HW := Hd (fun (V : World) (a : Option Addr) (c : Nat) (h : RowAt V (fun _ => True) 9 1 (.slice a (ks.map atomT).length c) (ks.map atomT).length (namesV (ks.map atomT))) => words_any nm (ks.map atomT) a c _ V h (by omega))
  generalize ks.map atomT = ot at *
  have hmf := func_made
  clear hx hp hK tK hT hl
  go_enter Tryz.func62, Tryz.ntmps62
  go_upto_region 1 with fail
  generalize (w.alloc (.cells #[.int .i64 k, .string (tx nm), .bool f, .int .u64 u, .slice ap ps.length cp, .slice ak ks.length ck, .slice ab bl.length cb, .slice aa al.length ca] 48)) = W at *
  have HS := Hd (fun (V : World) (hb : Below W.heap.size W V) => (⟨(HX.out.2.below hb).1 0 _ rfl, (HX.out.2.below hb).1 1 _ rfl, (HX.out.2.below hb).1 2 _ rfl, (HX.out.2.below hb).1 3 _ rfl, (HX.out.2.below hb).1 4 _ rfl, (HX.out.2.below hb).1 5 _ rfl, (HX.out.2.below hb).1 6 _ rfl, (HX.out.2.below hb).1 7 _ rfl⟩ : (V.cell? ⟨w.heap.size, 0, none⟩ = some (.int .i64 k) ∧ V.cell? ⟨w.heap.size, 1, none⟩ = some (.string (tx nm)) ∧ V.cell? ⟨w.heap.size, 2, none⟩ = some (.bool f) ∧ V.cell? ⟨w.heap.size, 3, none⟩ = some (.int .u64 u) ∧ V.cell? ⟨w.heap.size, 4, none⟩ = some (.slice ap ps.length cp) ∧ V.cell? ⟨w.heap.size, 5, none⟩ = some (.slice ak ks.length ck) ∧ V.cell? ⟨w.heap.size, 6, none⟩ = some (.slice ab bl.length cb) ∧ V.cell? ⟨w.heap.size, 7, none⟩ = some (.slice aa al.length ca))))
  have d0 : W.cell? ⟨w.heap.size, 0, none⟩ = some (.int .i64 k) := HX.out.2.1 0 _ rfl
  have d1 : W.cell? ⟨w.heap.size, 1, none⟩ = some (.string (tx nm)) := HX.out.2.1 1 _ rfl
  have d2 : W.cell? ⟨w.heap.size, 2, none⟩ = some (.bool f) := HX.out.2.1 2 _ rfl
  have d3 : W.cell? ⟨w.heap.size, 3, none⟩ = some (.int .u64 u) := HX.out.2.1 3 _ rfl
  have d4 : W.cell? ⟨w.heap.size, 4, none⟩ = some (.slice ap ps.length cp) := HX.out.2.1 4 _ rfl
  have d5 : W.cell? ⟨w.heap.size, 5, none⟩ = some (.slice ak ks.length ck) := HX.out.2.1 5 _ rfl
  have d6 : W.cell? ⟨w.heap.size, 6, none⟩ = some (.slice ab bl.length cb) := HX.out.2.1 6 _ rfl
  have d7 : W.cell? ⟨w.heap.size, 7, none⟩ = some (.slice aa al.length ca) := HX.out.2.1 7 _ rfl
  go_region_held3 (fun W' => W'.cell? ⟨w.heap.size, 0, none⟩ = some (.int .i64 k) ∧ W'.cell? ⟨w.heap.size, 1, none⟩ = some (.string (tx nm)) ∧ W'.cell? ⟨w.heap.size, 2, none⟩ = some (.bool f) ∧ W'.cell? ⟨w.heap.size, 3, none⟩ = some (.int .u64 u) ∧ W'.cell? ⟨w.heap.size, 4, none⟩ = some (.slice ap ps.length cp) ∧ W'.cell? ⟨w.heap.size, 5, none⟩ = some (.slice ak ks.length ck) ∧ W'.cell? ⟨w.heap.size, 6, none⟩ = some (.slice ab bl.length cb) ∧ W'.cell? ⟨w.heap.size, 7, none⟩ = some (.slice aa al.length ca)) (first | exact HS.out _ H3 | exact HS.out _ H2 | exact HS.out _ Br | go_keep) (first
    | (revert hr2; intro hr2; go_at_call 24
       refine (HW.out _ _ _ hr2).mono ?_
       rintro e w3 ⟨rfl, hbw3⟩
       have H3 : Below W.heap.size W w3 := onB' H2 hbw3
       clear hbw3)
    | (go_at_call 103
       refine (HA.out _ (onB' HX.out.1 (by first  | exact Br.drew | exact Below.refl _ _))).mono ?_
       rintro e w2 ⟨⟨v2, rfl, ho⟩, hbw2⟩
       have H2 : Below W.heap.size W w2 := onB' (by first  | exact Br.drew | exact Below.refl _ _) hbw2
       obtain ⟨a2, c2, rfl, -⟩ := own_shape ho
       have hr2 := row_own ho Br
       clear ho
       clear hbw2)
)
  all_goals go_wp2_with fail
  all_goals go_ret
  all_goals exact ⟨rfl, onB' HX.out.1 H3⟩
theorem bindText_any (b : Bnd) (hT : TxE b.2.2) (hl : (bindT b).length ≤ 20000000000) (aq : Option Addr) (cq : Nat) (K : Nat → Prop) (w : World) (k : Int) (nm : Nm) (f : Bool) (u : Int) (ap : Option Addr) (np cp : Nat) (ak : Option Addr) (nk ck : Nat) (ab : Option Addr) (nb cb : Nat) (aa : Option Addr) (na ca : Nat) (hp : PE w) (hQ : RowAt w K 9 1 (.slice aq b.2.1.length cq) b.2.1.length (namesV b.2.1)) (hE : ExAt w K b.2.2 [.int .i64 k, .string (tx nm), .bool f, .int .u64 u, .slice ap np cp, .slice ak nk ck, .slice ab nb cb, .slice aa na ca]) :
    Calls Tryz.prog 27 #[.agg #[.string (tx b.1), .slice aq b.2.1.length cq, .int .i64 k, .string (tx nm), .bool f, .int .u64 u, .slice ap np cp, .slice ak nk ck, .slice ab nb cb, .slice aa na ca]] w fun e w' => e = .returned (.string (tx (bindT b))) ∧ Below w.heap.size w w' := by
  have hx := (Below.refl w.heap.size w).alloc Nr (.cells #[.string (tx b.1), .slice aq b.2.1.length cq, .int .i64 k, .string (tx nm), .bool f, .int .u64 u, .slice ap np cp, .slice ak nk ck, .slice ab nb cb, .slice aa na ca] 39)
  have HX := Hd (Ai hx (BoxW.alloc w #[.string (tx b.1), .slice aq b.2.1.length cq, .int .i64 k, .string (tx nm), .bool f, .int .u64 u, .slice ap np cp, .slice ak nk ck, .slice ab nb cb, .slice aa na ca] 39))
  have hlT : (wordsL b.1 b.2.1).length ≤ 20000000000 := Nt (words_fst _ _) hl
  have HT := Hd (fun (V : World) (hb : Below w.heap.size w V) => hT K V k nm f u ap np cp ak nk ck ab nb cb aa na ca (hp.below hb) (hE.blw hb))
  have HN := Hd (fun (V : World) (hb : Below w.heap.size w V) => words_any b.1 b.2.1 aq cq K V (hQ.blw hb) (by omega))
  have HW : Hid (∀ (V : World) (a : Option Addr) (c : Nat) (_ : RowAt V (fun _ => True) 9 1 (.slice a 2 c) 2 [.string ⟨#[61]⟩, .string (tx (shE b.2.2))]), Calls Tryz.prog 24 #[.string (tx (wordsL b.1 b.2.1)), .slice a 2 c] V fun e w' => e = .returned (.string (tx (bindT b))) ∧ Below V.heap.size V w') :=
    Hd (fun V a c h => words_any (wordsL b.1 b.2.1) [[61], shE b.2.2] a c _ V h (by show (bindT b).length ≤ _; omega))
  generalize bindT b = R at *
  generalize wordsL b.1 b.2.1 = N at *
  generalize shE b.2.2 = I at *
  generalize tx b.1 = tb at *
  generalize b.2.1.length = lb at *
  have hmf := func_made
  clear hx hp hE hT hQ hl hlT
  go_enter Tryz.func27, Tryz.ntmps27
  go_upto_region 1 with fail
  generalize (w.alloc (.cells #[.string tb, .slice aq lb cq, .int .i64 k, .string (tx nm), .bool f, .int .u64 u, .slice ap np cp, .slice ak nk ck, .slice ab nb cb, .slice aa na ca] 39)) = W at *
  have HS := Hd (fun (V : World) (hb : Below W.heap.size W V) => (⟨(HX.out.2.below hb).1 0 _ rfl, (HX.out.2.below hb).1 1 _ rfl, (HX.out.2.below hb).1 2 _ rfl, (HX.out.2.below hb).1 3 _ rfl, (HX.out.2.below hb).1 4 _ rfl, (HX.out.2.below hb).1 5 _ rfl, (HX.out.2.below hb).1 6 _ rfl, (HX.out.2.below hb).1 7 _ rfl, (HX.out.2.below hb).1 8 _ rfl, (HX.out.2.below hb).1 9 _ rfl⟩ : (V.cell? ⟨w.heap.size, 0, none⟩ = some (.string tb) ∧ V.cell? ⟨w.heap.size, 1, none⟩ = some (.slice aq lb cq) ∧ V.cell? ⟨w.heap.size, 2, none⟩ = some (.int .i64 k) ∧ V.cell? ⟨w.heap.size, 3, none⟩ = some (.string (tx nm)) ∧ V.cell? ⟨w.heap.size, 4, none⟩ = some (.bool f) ∧ V.cell? ⟨w.heap.size, 5, none⟩ = some (.int .u64 u) ∧ V.cell? ⟨w.heap.size, 6, none⟩ = some (.slice ap np cp) ∧ V.cell? ⟨w.heap.size, 7, none⟩ = some (.slice ak nk ck) ∧ V.cell? ⟨w.heap.size, 8, none⟩ = some (.slice ab nb cb) ∧ V.cell? ⟨w.heap.size, 9, none⟩ = some (.slice aa na ca))))
  have d0 : W.cell? ⟨w.heap.size, 0, none⟩ = some (.string tb) := HX.out.2.1 0 _ rfl
  have d1 : W.cell? ⟨w.heap.size, 1, none⟩ = some (.slice aq lb cq) := HX.out.2.1 1 _ rfl
  have d2 : W.cell? ⟨w.heap.size, 2, none⟩ = some (.int .i64 k) := HX.out.2.1 2 _ rfl
  have d3 : W.cell? ⟨w.heap.size, 3, none⟩ = some (.string (tx nm)) := HX.out.2.1 3 _ rfl
  have d4 : W.cell? ⟨w.heap.size, 4, none⟩ = some (.bool f) := HX.out.2.1 4 _ rfl
  have d5 : W.cell? ⟨w.heap.size, 5, none⟩ = some (.int .u64 u) := HX.out.2.1 5 _ rfl
  have d6 : W.cell? ⟨w.heap.size, 6, none⟩ = some (.slice ap np cp) := HX.out.2.1 6 _ rfl
  have d7 : W.cell? ⟨w.heap.size, 7, none⟩ = some (.slice ak nk ck) := HX.out.2.1 7 _ rfl
  have d8 : W.cell? ⟨w.heap.size, 8, none⟩ = some (.slice ab nb cb) := HX.out.2.1 8 _ rfl
  have d9 : W.cell? ⟨w.heap.size, 9, none⟩ = some (.slice aa na ca) := HX.out.2.1 9 _ rfl
  go_region_held3 (fun W' => W'.cell? ⟨w.heap.size, 0, none⟩ = some (.string tb) ∧ W'.cell? ⟨w.heap.size, 1, none⟩ = some (.slice aq lb cq) ∧ W'.cell? ⟨w.heap.size, 2, none⟩ = some (.int .i64 k) ∧ W'.cell? ⟨w.heap.size, 3, none⟩ = some (.string (tx nm)) ∧ W'.cell? ⟨w.heap.size, 4, none⟩ = some (.bool f) ∧ W'.cell? ⟨w.heap.size, 5, none⟩ = some (.int .u64 u) ∧ W'.cell? ⟨w.heap.size, 6, none⟩ = some (.slice ap np cp) ∧ W'.cell? ⟨w.heap.size, 7, none⟩ = some (.slice ak nk ck) ∧ W'.cell? ⟨w.heap.size, 8, none⟩ = some (.slice ab nb cb) ∧ W'.cell? ⟨w.heap.size, 9, none⟩ = some (.slice aa na ca)) (first | exact HS.out _ H6 | exact HS.out _ HT5 | exact HS.out _ HN4 | exact HS.out _ Br | go_keep) (first
    | (revert HT5; intro HT5; revert HN4; intro HN4; go_at_call 24
       refine (HW.out _ _ _ (row_new _ #[.string ⟨#[61]⟩, .string (tx I)] 2 (by unfold maxLen; omega) rfl)).mono ?_
       rintro e w6 ⟨rfl, hbw6⟩
       have H6 : Below W.heap.size W w6 := (by first | exact onB' (onB' HT5 (Br.alloc Nr _)) hbw6 | exact onB' (onB' HN4 (Br.alloc Nr _)) hbw6)
       clear hbw6)
    | (go_at_call 24
       refine (HN.out _ (onB' HX.out.1 (by first | exact HT5 | exact Br.drew | exact Below.refl _ _))).mono ?_
       rintro e w4 ⟨rfl, hbw4⟩
       have HN4 : Below W.heap.size W w4 := onB' (by first | exact HT5 | exact Br.drew | exact Below.refl _ _) hbw4
       clear hbw4)
    | (go_at_call 15
       refine (HT.out _ (onB' HX.out.1 (by first | exact HN4 | exact Br.drew | exact Below.refl _ _))).mono ?_
       rintro e w5 ⟨rfl, hbw5⟩
       have HT5 : Below W.heap.size W w5 := onB' (by first | exact HN4 | exact Br.drew | exact Below.refl _ _) hbw5
       clear hbw5)
)
  all_goals go_wp2_with fail
  all_goals go_ret
  all_goals exact ⟨rfl, onB' HX.out.1 H6⟩
theorem shlam_any (k : Int) (nm : Nm) (f : Bool) (u : Int) (ps : List Nm) (ks : List Ex) (bl : List Bnd) (al : List Alt) (ap : Option Addr) (cp : Nat) (ak : Option Addr) (ck : Nat) (ab : Option Addr) (cb : Nat) (aa : Option Addr) (ca : Nat) (K : Nat → Prop) (xk xb xa : List Value) (w : World) (hp : PE w) (hT : ∀ y, y ∈ ks → TxE y ∧ (shE y).length ≤ 20000000000) (hn : ks.length ≤ 1000000) (hnp : ps.length ≤ 1000000) (hl : (wordsL (92 :: joinL [32] ps) [[45, 62], innT ks]).length ≤ 20000000000) (hP : RowAt w K 9 1 (.slice ap ps.length cp) ps.length (namesV ps)) (hK : RowAt w K 37 8 (.slice ak ks.length ck) ks.length xk) (tK : ExsAt w K ks xk) :
    Calls Tryz.prog 68 #[.agg #[.int .i64 k, .string (tx nm), .bool f, .int .u64 u, .slice ap ps.length cp, .slice ak ks.length ck, .slice ab bl.length cb, .slice aa al.length ca]] w fun e w' => e = .returned (.string (tx (wordsL (92 :: joinL [32] ps) [[45, 62], innT ks]))) ∧ Below w.heap.size w w' := by
  have hx := (Below.refl w.heap.size w).alloc Nr (.cells #[.int .i64 k, .string (tx nm), .bool f, .int .u64 u, .slice ap ps.length cp, .slice ak ks.length ck, .slice ab bl.length cb, .slice aa al.length ca] 48)
  have HX := Hd (Ai hx (BoxW.alloc w #[.int .i64 k, .string (tx nm), .bool f, .int .u64 u, .slice ap ps.length cp, .slice ak ks.length ck, .slice ab bl.length cb, .slice aa al.length ca] 48))
  have hlT : (92 :: joinL [32] ps).length ≤ 20000000000 := Nt (words_fst _ _) hl
  have hlJ : (joinL [32] ps).length ≤ 20000000000 := by simp only [List.length_cons] at hlT; omega
  have hsz : (tx (joinL [32] ps)).size ≤ 20000000000 := by rw [tx_size]; exact hlJ
  have hs1 : ¬ 9223372036854775807 < 1 + (tx (joinL [32] ps)).size := by omega
  have e3 : tx (92 :: joinL [32] ps) = ⟨#[92]⟩ ++ tx (joinL [32] ps) := by rw [show (⟨#[92]⟩ : ByteArray) = tx [92] from rfl, tx_app]; rfl
  have HI := Hd (fun (V : World) (hb : Below w.heap.size w V) => shinner_any k nm f u ps ks bl al ap cp ak ck ab cb aa ca K xk xb xa V (hp.below hb) hT hn (hK.blw hb) (tK.blw hb))
  have HJ : Hid (∀ (V : World) (_ : Below w.heap.size w V), Calls Tryz.prog 107 #[.slice ap ps.length cp, .string ⟨#[32]⟩] V fun e w' => e = .returned (.string (tx (joinL [32] ps))) ∧ Below V.heap.size V w') :=
    Hd (fun V hb => join_any [32] ps hnp ap cp K V (hP.blw hb) (by omega))
  have HW : Hid (∀ (V : World) (a : Option Addr) (c : Nat) (_ : RowAt V (fun _ => True) 9 1 (.slice a 2 c) 2 [.string ⟨#[45, 62]⟩, .string (tx (innT ks))]), Calls Tryz.prog 24 #[.string (⟨#[92]⟩ ++ tx (joinL [32] ps)), .slice a 2 c] V fun e w' => e = .returned (.string (tx (wordsL (92 :: joinL [32] ps) [[45, 62], innT ks]))) ∧ Below V.heap.size V w') :=
    Hd (fun V a c h => by rw [← e3]; exact words_any (92 :: joinL [32] ps) [[45, 62], innT ks] a c _ V h (by omega))
  generalize wordsL (92 :: joinL [32] ps) [[45, 62], innT ks] = R at *
  generalize joinL [32] ps = J at *
  generalize innT ks = I at *
  have hmf := func_made
  clear hx hp hK tK hT hP hl hlJ hlT e3
  go_enter Tryz.func68, Tryz.ntmps68
  go_upto_region 1 with fail
  generalize (w.alloc (.cells #[.int .i64 k, .string (tx nm), .bool f, .int .u64 u, .slice ap ps.length cp, .slice ak ks.length ck, .slice ab bl.length cb, .slice aa al.length ca] 48)) = W at *
  have HS := Hd (fun (V : World) (hb : Below W.heap.size W V) => (⟨(HX.out.2.below hb).1 0 _ rfl, (HX.out.2.below hb).1 1 _ rfl, (HX.out.2.below hb).1 2 _ rfl, (HX.out.2.below hb).1 3 _ rfl, (HX.out.2.below hb).1 4 _ rfl, (HX.out.2.below hb).1 5 _ rfl, (HX.out.2.below hb).1 6 _ rfl, (HX.out.2.below hb).1 7 _ rfl⟩ : (V.cell? ⟨w.heap.size, 0, none⟩ = some (.int .i64 k) ∧ V.cell? ⟨w.heap.size, 1, none⟩ = some (.string (tx nm)) ∧ V.cell? ⟨w.heap.size, 2, none⟩ = some (.bool f) ∧ V.cell? ⟨w.heap.size, 3, none⟩ = some (.int .u64 u) ∧ V.cell? ⟨w.heap.size, 4, none⟩ = some (.slice ap ps.length cp) ∧ V.cell? ⟨w.heap.size, 5, none⟩ = some (.slice ak ks.length ck) ∧ V.cell? ⟨w.heap.size, 6, none⟩ = some (.slice ab bl.length cb) ∧ V.cell? ⟨w.heap.size, 7, none⟩ = some (.slice aa al.length ca))))
  have d0 : W.cell? ⟨w.heap.size, 0, none⟩ = some (.int .i64 k) := HX.out.2.1 0 _ rfl
  have d1 : W.cell? ⟨w.heap.size, 1, none⟩ = some (.string (tx nm)) := HX.out.2.1 1 _ rfl
  have d2 : W.cell? ⟨w.heap.size, 2, none⟩ = some (.bool f) := HX.out.2.1 2 _ rfl
  have d3 : W.cell? ⟨w.heap.size, 3, none⟩ = some (.int .u64 u) := HX.out.2.1 3 _ rfl
  have d4 : W.cell? ⟨w.heap.size, 4, none⟩ = some (.slice ap ps.length cp) := HX.out.2.1 4 _ rfl
  have d5 : W.cell? ⟨w.heap.size, 5, none⟩ = some (.slice ak ks.length ck) := HX.out.2.1 5 _ rfl
  have d6 : W.cell? ⟨w.heap.size, 6, none⟩ = some (.slice ab bl.length cb) := HX.out.2.1 6 _ rfl
  have d7 : W.cell? ⟨w.heap.size, 7, none⟩ = some (.slice aa al.length ca) := HX.out.2.1 7 _ rfl
  go_region_held3 (fun W' => W'.cell? ⟨w.heap.size, 0, none⟩ = some (.int .i64 k) ∧ W'.cell? ⟨w.heap.size, 1, none⟩ = some (.string (tx nm)) ∧ W'.cell? ⟨w.heap.size, 2, none⟩ = some (.bool f) ∧ W'.cell? ⟨w.heap.size, 3, none⟩ = some (.int .u64 u) ∧ W'.cell? ⟨w.heap.size, 4, none⟩ = some (.slice ap ps.length cp) ∧ W'.cell? ⟨w.heap.size, 5, none⟩ = some (.slice ak ks.length ck) ∧ W'.cell? ⟨w.heap.size, 6, none⟩ = some (.slice ab bl.length cb) ∧ W'.cell? ⟨w.heap.size, 7, none⟩ = some (.slice aa al.length ca)) (first | exact HS.out _ H6 | exact HS.out _ HI5 | exact HS.out _ HJ4 | exact HS.out _ Br | go_keep) (first
    | (revert HI5; intro HI5; revert HJ4; intro HJ4; go_at_call 24
       refine (HW.out _ _ _ (row_new _ #[.string ⟨#[45, 62]⟩, .string (tx I)] 2 (by unfold maxLen; omega) rfl)).mono ?_
       rintro e w6 ⟨rfl, hbw6⟩
       have H6 : Below W.heap.size W w6 := (by first | exact onB' (onB' HI5 (Br.alloc Nr _)) hbw6 | exact onB' (onB' HJ4 (Br.alloc Nr _)) hbw6)
       clear hbw6)
    | (go_at_call 107
       refine (HJ.out _ (onB' HX.out.1 (by first | exact HI5 | exact Br.drew | exact Below.refl _ _))).mono ?_
       rintro e w4 ⟨rfl, hbw4⟩
       have HJ4 : Below W.heap.size W w4 := onB' (by first | exact HI5 | exact Br.drew | exact Below.refl _ _) hbw4
       clear hbw4)
    | (go_at_call 111
       refine (HI.out _ (onB' HX.out.1 (by first | exact HJ4 | exact Br.drew | exact Below.refl _ _))).mono ?_
       rintro e w5 ⟨rfl, hbw5⟩
       have HI5 : Below W.heap.size W w5 := onB' (by first | exact HJ4 | exact Br.drew | exact Below.refl _ _) hbw5
       clear hbw5)
)
  all_goals go_wp2_with fail
  all_goals go_ret
  all_goals exact ⟨rfl, onB' HX.out.1 H6⟩
end Go.Proofs.YthehgcmhcioffaaGreatDoor
