import Derived.Deep.RegionHeld3
import Derived.LaidEql
import Derived.Stop.Asserts
import Derived.RowKitTokens
import Derived.Lib.QuietBelow
import Derived.BigQuiet
import Derived.StillTailTactics
import Derived.Test.YthehgcmhcioffaaGreatDoorMg4
import Derived.Test.YthehgcmhcioffaaGreatDoorMg7
import Derived.Test.YthehgcmhcioffaaGreatDoorMg10
namespace Go.Proofs.YthehgcmhcioffaaGreatDoor
set_option maxHeartbeats 64000000
set_option maxRecDepth 100000
open Go.RowKit Go.Lib
theorem sh_len {x : Ex} (hk : kfE x) (hw : wfE x) (hx : wxE x ≤ 100000) : (shE x).length ≤ 20000000000 := by
  have := shE_len x hk hw
  unfold LB at this
  omega
theorem wx_pos : ∀ (e : Ex), kfE e → 1 ≤ wxE e
  | .mk k n f x ps [] bs al, h => by
    unfold kfE at h
    rw [wxE_mk]
    by_cases g : k = 4
    · have := h.2.1 g
      simp at this
    · rw [if_neg g]
      omega
  | .mk k n f x ps (a :: r) bs al, h => by
    unfold kfE at h
    have h7 := h.2.2.2.2.2.2.1
    unfold kfEs at h7
    have := wx_pos a h7.1
    rw [wxE_mk]
    unfold sumN
    omega
theorem wx_kids : ∀ (l : List Ex), kfEs l → l.length ≤ sumN wxE l
  | [], _ => Nat.le_refl _
  | a :: r, h => by
    unfold kfEs at h
    have h1 := wx_pos a h.1
    have h2 := wx_kids r h.2
    unfold sumN
    simp only [List.length_cons]
    omega
theorem sum_len {α : Type} (g : α → Nat) (h : ∀ a, 1 ≤ g a) : ∀ (l : List α), l.length ≤ sumN g l
  | [] => Nat.le_refl _
  | a :: r => by
    have h1 := h a
    have h2 := sum_len g h r
    unfold sumN
    simp only [List.length_cons]
    omega
theorem text_all : ∀ (n : Nat) (x : Ex), SizeOf.sizeOf x ≤ n → kfE x → wfE x → wxE x ≤ 100000 → TxE x := by
  intro n
  induction n with
  | zero =>
    intro x hs
    cases x
    simp at hs
  | succ n ih =>
    intro x hs hk hw hx K W k nm f u ap np cp ak nk ck ab nb cb aa na ca hp hE
    obtain ⟨ps, ks, bl, al, xk, xb, xa, rfl, rfl, rfl, rfl, rfl, hP, hK, hB, hA, tK, tB, tA⟩ := hE.opened
    have hl := sh_len hk hw hx
    rw [shE_mk] at hl ⊢
    rw [wxE_mk] at hx
    unfold kfE at hk
    unfold wfE at hw
    obtain ⟨k0, k1, k2, k3, k4, -, k6, k7, k8⟩ := hk
    obtain ⟨-, -, w3, w4, w5, w6, w7, -, -⟩ := hw
    simp only [Ex.mk.sizeOf_spec] at hs
    have nks := wx_kids ks k6
    have nbs := sum_len xB2 (fun b => by show 1 ≤ 2 + _ + _; omega) bl
    have nas := sum_len xA (fun b => by show 1 ≤ 1 + _ + _; omega) al
    have lbs := bindsLB bl k7 w6
    have las := altsLB al k8 w7
    have hT : ∀ y, y ∈ ks → TxE y ∧ (shE y).length ≤ 20000000000 := fun y hy => by
      have h1 := List.sizeOf_lt_of_mem hy
      have h2 := sumN_mem wxE hy
      have h3 := kfEs_mem k6 y hy
      have h4 := wfEs_mem w5 y hy
      exact ⟨ih y (by omega) h3 h4 (by omega), sh_len h3 h4 (by omega)⟩
    have hTb : ∀ y, y ∈ bl → TxE y.2.2 ∧ (bindT y).length ≤ 20000000000 := fun y hy => by
      have h1 := List.sizeOf_lt_of_mem hy
      have h2 : 2 + y.2.1.length + wxE y.2.2 ≤ sumN xB2 bl := sumN_mem xB2 hy
      have h3 := kfBs_mem k7 y hy
      have h4 := wfBs_mem w6 y hy
      have h5 : (bindT y).length + 2 ≤ _ := sumN_mem (fun b => (bindT b).length + 2) hy
      refine ⟨ih y.2.2 ?_ h3 h4.2.2 ?_, by omega⟩
      · obtain ⟨a, b, c⟩ := y
        simp only [Prod.mk.sizeOf_spec] at h1 ⊢
        omega
      · omega
    have hTa : ∀ y, y ∈ al → TxE y.2.2.2.2.2 ∧ (altT y).length ≤ 20000000000 ∧ (wordsL y.2.1 y.2.2.2.2.1).length ≤ 20000000000 ∧ (y.1 = 1 → NumF y.2.2.2.1) := fun y hy => by
      have h1 := List.sizeOf_lt_of_mem hy
      have h2 : 1 + y.2.2.2.2.1.length + wxE y.2.2.2.2.2 ≤ sumN xA al := sumN_mem xA hy
      have h3 := kfAs_mem k8 y hy
      have h4 := wfAs_mem w7 y hy
      have h5 : (altT y).length + 2 ≤ _ := sumN_mem (fun b => (altT b).length + 2) hy
      refine ⟨ih y.2.2.2.2.2 ?_ h3.2.2 h4.2.2 ?_, by omega, ?_, fun g => (h3.2.1 g).1⟩
      · obtain ⟨a, b, c, d, e, g⟩ := y
        simp only [Prod.mk.sizeOf_spec] at h1 ⊢
        omega
      · omega
      · by_cases g : y.1 = 1
        · rw [(h3.2.1 g).2.1, (h3.2.1 g).2.2]
          exact Nat.zero_le _
        · have h6 := words_fst (wordsL y.2.1 y.2.2.2.2.1) [[45, 62], shE y.2.2.2.2.2]
          rw [altT_eq, if_neg g] at h5
          omega
    have c : k = 1 ∨ k = 2 ∨ k = 3 ∨ k = 4 ∨ k = 5 ∨ k = 6 ∨ k = 7 ∨ k = 8 := by omega
    rcases c with rfl | rfl | rfl | rfl | rfl | rfl | rfl | rfl
    · refine text_k1 _ nm f u ap _ cp ak _ ck ab _ cb aa _ ca W fun V hV => ?_
      exact shvar_any 1 nm f u ps ks bl al ap cp ak ck ab cb aa ca K xk xb xa V (hp.below hV)
    · refine text_k2 _ nm f u ap _ cp ak _ ck ab _ cb aa _ ca W fun V hV => ?_
      exact shnamed_any 2 nm f u ps ks bl al ap cp ak ck ab cb aa ca K xk xb xa V (hp.below hV) hT (by omega) hl (hK.blw hV) (tK.blw hV)
    · refine text_k3 _ nm f u ap _ cp ak _ ck ab _ cb aa _ ca W fun V hV => ?_
      exact shnum_any 3 nm f u ps ks bl al ap cp ak ck ab cb aa ca K xk xb xa V (hp.below hV) (k4 rfl)
    · refine text_k4 _ nm f u ap _ cp ak _ ck ab _ cb aa _ ca W fun V hV => ?_
      exact shapp_any 4 nm f u ps ks bl al ap cp ak ck ab cb aa ca K xk xb xa V (hp.below hV) hT (by omega) hl (by have := k1 rfl; omega) (hK.blw hV) (tK.blw hV)
    · refine text_k5 _ nm f u ap _ cp ak _ ck ab _ cb aa _ ca W fun V hV => ?_
      exact shop_any 5 nm f u ps ks bl al ap cp ak ck ab cb aa ca K xk xb xa V (hp.below hV) hT (by omega) (by have := (w3 (Or.inr (Or.inr rfl))).2; omega) (fun g => by simpa [g] using hl) (fun g => by simpa [g] using hl) (hK.blw hV) (tK.blw hV)
    · refine text_k6 _ nm f u ap _ cp ak _ ck ab _ cb aa _ ca W fun V hV => ?_
      exact shlet_any 6 nm f u ps ks bl al ap cp ak ck ab cb aa ca K xk xb xa V (hp.below hV) hT (by omega) hTb (by omega) hl (hK.blw hV) (tK.blw hV) (hB.blw hV) (tB.blw hV)
    · refine text_k7 _ nm f u ap _ cp ak _ ck ab _ cb aa _ ca W fun V hV => ?_
      exact shcase_any 7 nm f u ps ks bl al ap cp ak ck ab cb aa ca K xk xb xa V (hp.below hV) hT (by omega) hTa (by omega) hl (hK.blw hV) (tK.blw hV) (hA.blw hV) (tA.blw hV)
    · refine text_k8 _ nm f u ap _ cp ak _ ck ab _ cb aa _ ca W fun V hV => ?_
      exact shlam_any 8 nm f u ps ks bl al ap cp ak ck ab cb aa ca K xk xb xa V (hp.below hV) hT (by omega) (by omega) hl (hP.blw hV) (hK.blw hV) (tK.blw hV)
structure ModAt (W : World) (K : Nat → Prop) (m : Md) (ac : Option Addr) (cc : Nat) (ab : Option Addr) (cb : Nat) : Prop where
  dr : RowAt W K 69 2 (.slice ac m.1.length cc) m.1.length (declV m.1)
  br : ∃ xb, RowAt W K 39 10 (.slice ab m.2.length cb) m.2.length xb ∧ BndsAt W K m.2 xb
theorem ModAt.below {W W' : World} {K : Nat → Prop} {m : Md} {ac : Option Addr} {cc : Nat} {ab : Option Addr} {cb : Nat} (h : ModAt W K m ac cc ab cb) (hb : Below W.heap.size W W') : ModAt W' K m ac cc ab cb := by
  obtain ⟨xb, h1, h2⟩ := h.br
  exact ⟨h.dr.move fun g hk lt => ⟨hk, hb.block g lt⟩, xb, h1.move fun g hk lt => ⟨hk, hb.block g lt⟩, h2.move fun g hk lt => ⟨hk, hb.block g lt⟩⟩
structure MdOk (m : Md) : Prop where
  wd : ∀ d, d ∈ m.1 → NmOk d.1
  wb : ∀ b, b ∈ m.2 → wB b
  wt : 10 + m.1.length + (m.2.length + sumN nB m.2) ≤ 100000
theorem decl_cells : ∀ (L : List (Nm × Int)) (j : Nat) (hj : j < L.length) (i : Nat) (v : Value), ([Value.string (tx L[j].1), .int .i64 L[j].2] : List Value)[i]? = some v → (declV L)[j * 2 + i]? = some v
  | [], j, hj, _, _, _ => by simp at hj
  | (n, x) :: r, 0, _, i, v, h => by
    unfold declV
    rw [Nat.zero_mul, Nat.zero_add]
    match i, h with
    | 0, h => exact h
    | 1, h => exact h
    | i + 2, h => simp at h
  | (n, x) :: r, j + 1, hj, i, v, h => by
    have := decl_cells r j (by simpa using hj) i v h
    unfold declV
    rw [show (j + 1) * 2 + i = (j * 2 + i) + 1 + 1 by omega]
    simpa using this
def DeclsAt (_W : World) (_K : Nat → Prop) (L : List (Nm × Int)) (xs : List Value) : Prop := xs = declV L
theorem DeclsAt.cells {W : World} {K : Nat → Prop} {L : List (Nm × Int)} {xs : List Value} (h : DeclsAt W K L xs) (j : Nat) (hj : j < L.length) : ∃ _u : Unit, ∀ i v, ([Value.string (tx L[j].1), .int .i64 L[j].2] : List Value)[i]? = some v → xs[j * 2 + i]? = some v := by
  unfold DeclsAt at h
  subst h
  exact ⟨(), decl_cells L j hj⟩
theorem each_de (fid : Nat) (eg : ∀ args w, (callFunc fid args).run Tryz.prog w = .ok (.enter fid args) w) (G : (Nm × Int) → List UInt8) (L : List (Nm × Int)) (hn : L.length ≤ 1000000) (a : Option Addr) (c : Nat) (K K2 : Nat → Prop) (xs : List Value) (w : World) (hr : RowAt w K 69 2 (.slice a L.length c) L.length xs) (ht : DeclsAt w K2 L xs)
    (HC : ∀ j (hj : j < L.length)  (V : World), Below w.heap.size w V → True → Calls Tryz.prog fid #[.agg #[.string (tx L[j].1), .int .i64 L[j].2]] V fun e w' => e = .returned (.string (tx (G L[j]))) ∧ Below V.heap.size V w') :
    Calls Tryz.prog 25 #[.slice a L.length c, .func (.func fid) #[] #[]] w fun e w' => (∃ v, e = .returned v ∧ w'.ownsRow w.heap.size 9 1 v (L.map G).length (namesV (L.map G))) ∧ Below w.heap.size w w' := by
  have HO := Hd (Ai hr ht)
  replace HC := Hd HC
  obtain ⟨i0, hi0, hz0, hzs, hzb⟩ := info_parts Tryz.info_text
  have hmx := hr.cap
  unfold maxLen at hmx
  clear hr ht
  go_enter Tryz.func25, Tryz.ntmps25
  go_wp2_with fail
  go_loopw [5, 10] (fun s5 s10 wr => ∃ (j : Nat) (vv : Value), j ≤ L.length ∧ vv = s5 ∧ s10 = .int .i64 j ∧ wr.ownsRow w.heap.size 9 1 vv ((L.take j).map G).length (namesV ((L.take j).map G)) ∧ Below w.heap.size w wr) (fun _ s10 _ => L.length - (RowKit.intOf s10).toNat)
  case atStart => exact ⟨0, _, Nat.zero_le _, rfl, rfl, by rw [List.take_zero]; exact World.ownsRow_nil _ _ _ _, Below.refl _ _⟩
  case round =>
    obtain ⟨j, vv, hj, rfl, rfl, hown, hbr⟩ := hrel
    obtain ⟨av, cc, rfl, hlow⟩ := own_shape hown
    have hln : ((L.take j).map G).length ≤ j := by rw [List.length_map, List.length_take]; omega
    have HR := Hd (Ai hown (Ai hbr hlow))
    clear hown hbr hlow
    by_cases gj : j < L.length
    · have gj' : (j : Int) < (L.length : Int) := by omega
      obtain ⟨-, hc⟩ := HO.out.2.cells j gj
      obtain ⟨g1, o1, ea1, k1, m1', -, ht1⟩ := HO.out.1.at (by omega)
      subst ea1
      have HP := Hd (fun i v h => later' HR.out.2.1 (ht1 _ _ (hc i v h)))
      have HT := Hd (map_step G L gj)
      have HCj := Hd (fun (V : World) (hb : Below w.heap.size w V) => HC.out j gj  V hb trivial)
      clear ht1 hc
      obtain ⟨tnm, htnm⟩ : ∃ tnm, tnm = tx L[j].1 := ⟨_, rfl⟩
      rw [← htnm] at HCj HP
      clear htnm
      obtain ⟨xv, hxv⟩ : ∃ xv, xv = L[j].2 := ⟨_, rfl⟩
      rw [← hxv] at HCj HP
      clear hxv
      generalize G L[j] = tk at *
      have p0 : wr.cell? ⟨g1, o1 + j * 2, none⟩ = some (.string (tnm)) := HP.out 0 _ rfl
      have p1 : wr.cell? ⟨g1, o1 + j * 2 + 1, none⟩ = some (.int .i64 xv) := by rw [Nat.add_assoc]; exact HP.out 1 _ rfl
      have ej : IntKind.i64.wrap ((j : Int) + 1) = (j : Int) + 1 := by rw [IntKind.wrap_i64]; omega
      have b0 : (0 : Int) ≤ (j : Int) := by omega
      have HX := Hd ((Below.refl wr.heap.size wr).alloc Nr (.cells #[.string (tnm), .int .i64 xv] 69))
      go_wp2_with fail
      refine (HCj.out _ (onB' HR.out.2.1 HX.out)).mono ?_
      rintro e w2 ⟨rfl, hb2⟩
      have HB := Hd (Ai (onB' (onB' HR.out.2.1 HX.out) hb2) (own_below HR.out.1 (onB' HX.out hb2)))
      have hzw := HR.out.2.1.size
      have hz2 := (onB' HX.out hb2).size
      clear hb2 HCj p0 p1 HP
      have one1 : ∀ u ∈ [Value.string (tx tk)], u.oneCell' = true := by intro u hu; simp at hu; rw [hu]; rfl
      have m9 : ((L.take j).map G).length + 1 ≤ maxLen := by unfold maxLen; omega
      have m8 : (((L.take j).map G).length + 1) * 16 ≤ 140737488355328 := by omega
      have H5 := Hd ((Below.refl w2.heap.size w2).alloc Nr (.cells #[.string (tx tk)] 9))
      have hz5 : w.heap.size ≤ (w2.alloc (.cells #[.string (tx tk)] 9)).heap.size := Nt HB.out.1.size H5.out.size
      have HO5 := Hd (own_below HB.out.2 H5.out)
      generalize hdd : ((L.take j).map G).length = N at *
      have HN := Hd hdd
      clear hdd
      go_wp2_with (at_builtin; refine wpList_append_lies _ rfl _ _ 30 rfl w.heap.size 9 i0 (.string ⟨#[]⟩) 1 16 Tryz.underlying30 hi0 hz0 hzs hzb rfl (by decide) (.slice av N cc) N (namesV ((L.take j).map G)) rfl HO5.out ⟨w2.heap.size, 0, none⟩ 1 1 [.string (tx tk)] rfl rfl (World.news_of_block (heap_alloc_new _ _)) one1 (by decide) m9 m8 hz5 _ rfl ?_; intro g9 cap9 w9 y1 y2 y3 y4)
      refine ⟨⟨j + 1, _, by omega, rfl, by go_num, ?_, ?_⟩, by simp [RowKit.intOf]; omega⟩
      · rw [HT.out, List.length_append, HN.out]
        simpa [namesV] using y1
      · have hx := onB' HB.out.1 H5.out
        exact ⟨y2.os.trans hx.os, y2.tape.trans hx.tape, y2.output.trans hx.output, Nt hx.size y2.size, fun q hq => (y2.block q (Nat.lt_of_lt_of_le hq hx.size) (fun e => by have := HR.out.2.2 q e.symm; omega)).trans (hx.block q hq)⟩
    · obtain rfl : j = L.length := by omega
      rw [List.take_length] at HR ⊢
      go_wp2_with fail
      go_ret
      exact ⟨⟨_, rfl, HR.out.1⟩, HR.out.2.1⟩
theorem itoa_any (n : Int) (h0 : -9223372036854775808 ≤ n) (h1 : n ≤ 9223372036854775807) (w : World) (hp : PE w) : Calls Tryz.prog 40 #[.int .i64 n] w fun e w' => e = .returned (.string (tx (Lib.itoa n))) ∧ Below w.heap.size w w' :=
  (Tryz.strconv_Itoa n h0 h1 w hp.1).mono fun _ _ ⟨he, k, os, hw⟩ => ⟨he, hw ▸ below_grow w k os⟩
theorem declText_any (d : Nm × Int) (hd : -9223372036854775808 ≤ d.2 ∧ d.2 ≤ 9223372036854775807) (hl : (declT d).length ≤ 20000000000) (w : World) (hp : PE w) :
    Calls Tryz.prog 26 #[.agg #[.string (tx d.1), .int .i64 d.2]] w fun e w' => e = .returned (.string (tx (declT d))) ∧ Below w.heap.size w w' := by
  have hx := (Below.refl w.heap.size w).alloc Nr (.cells #[.string (tx d.1), .int .i64 d.2] 69)
  have HX := Hd (Ai hx (BoxW.alloc w #[.string (tx d.1), .int .i64 d.2] 69))
  have HI := Hd (fun (V : World) (hb : Below w.heap.size w V) => itoa_any d.2 hd.1 hd.2 V (hp.below hb))
  have HW : Hid (∀ (V : World) (a : Option Addr) (c : Nat) (_ : RowAt V (fun _ => True) 9 1 (.slice a 1 c) 1 [.string (tx (Lib.itoa d.2))]), Calls Tryz.prog 24 #[.string (tx d.1), .slice a 1 c] V fun e w' => e = .returned (.string (tx (declT d))) ∧ Below V.heap.size V w') :=
    Hd (fun V a c h => words_any d.1 [Lib.itoa d.2] a c _ V h (by show (declT d).length ≤ _; omega))
  clear hd hl
  generalize declT d = R at *
  generalize Lib.itoa d.2 = I at *
  generalize tx d.1 = tb at *
  generalize d.2 = nb at *
  have hmf := func_made
  clear hx hp
  go_enter Tryz.func26, Tryz.ntmps26
  go_upto_region 1 with fail
  generalize (w.alloc (.cells #[.string tb, .int .i64 nb] 69)) = W at *
  have HS := Hd (fun (V : World) (hb : Below W.heap.size W V) => (⟨(HX.out.2.below hb).1 0 _ rfl, (HX.out.2.below hb).1 1 _ rfl⟩ : (V.cell? ⟨w.heap.size, 0, none⟩ = some (.string tb) ∧ V.cell? ⟨w.heap.size, 1, none⟩ = some (.int .i64 nb))))
  have d0 : W.cell? ⟨w.heap.size, 0, none⟩ = some (.string tb) := HX.out.2.1 0 _ rfl
  have d1 : W.cell? ⟨w.heap.size, 1, none⟩ = some (.int .i64 nb) := HX.out.2.1 1 _ rfl
  go_region_held3 (fun W' => W'.cell? ⟨w.heap.size, 0, none⟩ = some (.string tb) ∧ W'.cell? ⟨w.heap.size, 1, none⟩ = some (.int .i64 nb)) (first | exact HS.out _ H6 | exact HS.out _ HI5 | exact HS.out _ Br | go_keep) (first
    | (revert HI5; intro HI5; go_at_call 24
       refine (HW.out _ _ _ (row_new _ #[.string (tx I)] 1 (by unfold maxLen; omega) rfl)).mono ?_
       rintro e w6 ⟨rfl, hbw6⟩
       have H6 : Below W.heap.size W w6 := (by first | exact onB' (onB' HI5 (Br.alloc Nr _)) hbw6)
       clear hbw6)
    | (go_at_call 40
       refine (HI.out _ (onB' HX.out.1 (by first  | exact Br.drew | exact Below.refl _ _))).mono ?_
       rintro e w5 ⟨rfl, hbw5⟩
       have HI5 : Below W.heap.size W w5 := onB' (by first  | exact Br.drew | exact Below.refl _ _) hbw5
       clear hbw5)
)
  all_goals go_wp2_with fail
  all_goals go_ret
  all_goals exact ⟨rfl, onB' HX.out.1 H6⟩
theorem sexpr_any (x : Ex) (hk : kfE x) (hw : wfE x) (hx : wxE x ≤ 100000) (K : Nat → Prop) (w : World) (k : Int) (nm : Nm) (f : Bool) (u : Int) (ap : Option Addr) (np cp : Nat) (ak : Option Addr) (nk ck : Nat) (ab : Option Addr) (nb cb : Nat) (aa : Option Addr) (na ca : Nat) (hp : PE w) (hE : ExAt w K x [.int .i64 k, .string (tx nm), .bool f, .int .u64 u, .slice ap np cp, .slice ak nk ck, .slice ab nb cb, .slice aa na ca]) :
    Calls Tryz.prog 8 #[.agg #[.int .i64 k, .string (tx nm), .bool f, .int .u64 u, .slice ap np cp, .slice ak nk ck, .slice ab nb cb, .slice aa na ca]] w fun e w' => e = .returned (.string (tx (shE x))) ∧ Below w.heap.size w w' := by
  have hl := sh_len hk hw hx
  have hx1 := (Below.refl w.heap.size w).alloc Nr (.cells #[.int .i64 k, .string (tx nm), .bool f, .int .u64 u, .slice ap np cp, .slice ak nk ck, .slice ab nb cb, .slice aa na ca] 37)
  have HT := Hd (text_all (SizeOf.sizeOf x) x Nr hk hw hx K _ k nm f u ap np cp ak nk ck ab nb cb aa na ca (hp.below hx1) (hE.blw hx1))
  have HX := Hd hx1
  have HC := Hd (fun V => clone_any (tx (shE x)) (by rw [tx_size]; omega) V)
  clear hx1 hp hE hl hk hw hx
  generalize tx (shE x) = t at *
  go_enter Tryz.func8, Tryz.ntmps8
  go_wp2_with fail
  refine HT.out.mono ?_
  rintro e w2 ⟨rfl, hb⟩
  have HB := Hd (onB' HX.out hb)
  have HCw := Hd (HC.out w2)
  clear hb HT HC
  go_wp2_with fail
  refine HCw.out.mono ?_
  rintro e w3 ⟨rfl, hb⟩
  have HB3 := Hd (onB' HB.out hb)
  clear hb HCw
  go_wp2_with fail
  go_ret
  exact ⟨rfl, HB3.out⟩
def dataL : List UInt8 := [100, 97, 116, 97]
def headT (ds : List (Nm × Int)) : List UInt8 := if ds.length = 0 then [] else lineL (wordsL dataL (ds.map declT))
def linesT (l : List Bnd) : List UInt8 := l.flatMap fun b => lineL (bindT b)
def modT (m : Md) : List UInt8 := headT m.1 ++ linesT m.2
theorem lines_step (L : List Bnd) {j : Nat} (h : j < L.length) : linesT (L.take (j + 1)) = linesT (L.take j) ++ lineL (bindT L[j]) := by
  unfold linesT
  rw [List.take_succ_eq_append_getElem h, List.flatMap_append]
  simp
theorem lines_len : ∀ (L : List Bnd), (linesT L).length = sumN (fun b => (bindT b).length + 2) L
  | [] => rfl
  | b :: r => by
    have := lines_len r
    unfold linesT at this ⊢
    rw [List.flatMap_cons, List.length_append, this]
    show (bindT b ++ [59, 10]).length + _ = ((bindT b).length + 2) + sumN (fun b => (bindT b).length + 2) r
    simp only [List.length_append, List.length_cons, List.length_nil]
theorem lines_take (L : List Bnd) (j : Nat) : (linesT (L.take j)).length ≤ (linesT L).length := by
  have h : linesT L = linesT (L.take j) ++ linesT (L.drop j) := by
    unfold linesT
    rw [← List.flatMap_append, List.take_append_drop]
  rw [h, List.length_append]
  omega
theorem bld_below {B b : Nat} {bs : List Value} {w V : World} (h : Lib.IsBuilder TB 5 B b bs w) (hb : Below w.heap.size w V) : Lib.IsBuilder TB 5 B b bs V := by
  have lt : ∀ {v : Obj}, w.heap[b]? = some v → b < w.heap.size := fun {v} e => by
    rcases Nat.lt_or_ge b w.heap.size with h' | h'
    · exact h'
    · rw [Array.getElem?_eq_none h'] at e; cases e
  rcases h with ⟨h1, v, h2, h3, h4⟩ | ⟨h1, v, h2, h3, h4⟩
  · exact Or.inl ⟨h1, v, (hb.block b (lt h2)).trans h2, own_below h3 hb, h4⟩
  · exact Or.inr ⟨h1, v, (hb.block b (lt h2)).trans h2, own_below h3 hb, h4⟩
theorem line_any (B b : Nat) (f t : List UInt8) (ht : t.length ≤ 20000000000) (hf : f.length ≤ 60000000000) (w : World) (h : Lib.IsBuilder TB 5 B b (Lib.byteCells f) w) (hBw : B ≤ w.heap.size) :
    Calls Tryz.prog 22 #[.string (tx t), .pointer (some ⟨b, 0, none⟩)] w fun e w' => e = .returned (.tuple #[]) ∧ Lib.IsBuilder TB 5 B b (Lib.byteCells (f ++ lineL t)) w' ∧ Below B w w' := by
  have e3 : tx (lineL t) = tx t ++ ⟨#[59]⟩ ++ ⟨#[10]⟩ := by
    rw [show (⟨#[59]⟩ : ByteArray) = tx [59] from rfl, show (⟨#[10]⟩ : ByteArray) = tx [10] from rfl, tx_app, tx_app]
    unfold lineL
    rw [List.append_assoc]
    rfl
  have hsz : (tx t).size ≤ 20000000000 := by rw [tx_size]; exact ht
  have hsz2 : (tx t ++ ⟨#[59]⟩ : ByteArray).size ≤ 20000000001 := by rw [show (⟨#[59]⟩ : ByteArray) = tx [59] from rfl, tx_app, tx_size]; simp only [List.length_append, List.length_cons, List.length_nil]; omega
  have hs1 : ¬ 9223372036854775807 < (tx t).size + 1 := by omega
  have hs2 : ¬ 9223372036854775807 < (tx t).size + 1 + 1 := by omega
  have HW := Hd (ws_any B b (Lib.byteCells f) (tx (lineL t)) w h (by rw [Lib.byteCells_length, tx_size]; unfold lineL; simp only [List.length_append, List.length_cons, List.length_nil]; omega) hBw)
  rw [Lib.strCells_eq, tx_list', ← Lib.byteCells_append] at HW
  generalize f ++ lineL t = ft at *
  rw [e3] at HW
  clear h e3 ht hf
  go_enter Tryz.func22, Tryz.ntmps22
  go_wp2_with fail
  refine HW.out.mono ?_
  rintro e w2 ⟨rfl, hB2, hb⟩
  have HB := Hd (Ai (show Lib.IsBuilder TB 5 B b (Lib.byteCells ft) w2 from Or.inr hB2) hb)
  clear hb HW hB2
  go_wp2_with fail
  try simp only [Exit.inBlock, Exit.then]
  first | refine bodyPost_end (results_none rfl _ _ _) rfl ?_ | refine bodyPost_ret (results_none rfl _ _ _) rfl ?_
  exact ⟨rfl, HB.out⟩
theorem belowAt {B : Nat} {w V : World} (h : Below w.heap.size w V) (hB : B ≤ w.heap.size) : Below B w V :=
  ⟨h.os, h.tape, h.output, h.size, fun i hi => h.block i (Nat.lt_of_lt_of_le hi hB)⟩
theorem smodule_any (m : Md) (hkb : kfBs m.2) (hwb : wfBs m.2) (hx : sumN xB2 m.2 ≤ 100000) (hd : ∀ d, d ∈ m.1 → (-9223372036854775808 ≤ d.2 ∧ d.2 ≤ 9223372036854775807) ∧ (declT d).length ≤ 20000000000) (hdn : m.1.length ≤ 1000000) (hdl : (wordsL dataL (m.1.map declT)).length ≤ 20000000000) (K : Nat → Prop) (ad : Option Addr) (cd : Nat) (ab : Option Addr) (cb : Nat) (xb : List Value) (w : World) (hp : PE w) (hD : RowAt w K 69 2 (.slice ad m.1.length cd) m.1.length (declV m.1)) (hB : RowAt w K 39 10 (.slice ab m.2.length cb) m.2.length xb) (tB : BndsAt w K m.2 xb) :
    Calls Tryz.prog 10 #[.agg #[.slice ad m.1.length cd, .slice ab m.2.length cb]] w fun e w' => e = .returned (.string (tx (modT m))) ∧ Below w.heap.size w w' := by
  have hx0 := (Below.refl w.heap.size w).alloc Nr (.cells #[.slice ad m.1.length cd, .slice ab m.2.length cb] 26)
  have hz0 : (w.alloc (.cells #[.slice ad m.1.length cd, .slice ab m.2.length cb] 26)).heap.size = w.heap.size + 1 := by simp
  have hx1 : Below (w.heap.size + 1) (w.alloc (.cells #[.slice ad m.1.length cd, .slice ab m.2.length cb] 26)) ((w.alloc (.cells #[.slice ad m.1.length cd, .slice ab m.2.length cb] 26)).alloc (.cells #[.pointer none, .slice none 0 0] TB)) := belowAt (Br.alloc Nr _) (by rw [hz0]; exact Nat.le_refl _)
  have hfb : Lib.IsBuilder TB 5 (w.heap.size + 1) (w.heap.size + 1) (Lib.byteCells []) ((w.alloc (.cells #[.slice ad m.1.length cd, .slice ab m.2.length cb] 26)).alloc (.cells #[.pointer none, .slice none 0 0] TB)) := by
    have h := Lib.fresh_isBuilder TB 5 (w.alloc (.cells #[.slice ad m.1.length cd, .slice ab m.2.length cb] 26))
    rw [hz0] at h
    exact h
  have hBx := ((BoxW.alloc w #[.slice ad m.1.length cd, .slice ab m.2.length cb] 26).below (Br.alloc Nr (.cells #[.pointer none, .slice none 0 0] TB)))
  have HBx := Hd hBx
  have hcapB := hB.cap
  have hcapD := hD.cap
  unfold maxLen at hcapB hcapD
  have HLn := Hd (fun j => Nt (lines_take m.2 j) (show (linesT m.2).length ≤ 20000000000 by
    rw [lines_len]
    have := bindsLB m.2 hkb hwb
    omega))
  have HTb := Hd (fun y (hy : y ∈ m.2) => text_all (SizeOf.sizeOf y.2.2) y.2.2 Nr (kfBs_mem hkb y hy) (wfBs_mem hwb y hy).2.2 (by
    have h2 : 2 + y.2.1.length + wxE y.2.2 ≤ sumN xB2 m.2 := sumN_mem xB2 hy
    omega))
  have HO := Hd (Ai hx0 (Ai hp (Ai hB (Ai tB (Ai hD hz0)))))
  have HD := Hd (each_de 26 (enters_of Tryz.func26 (by kernel_rfl) rfl) declT m.1 hdn ad cd K (fun _ => True) (declV m.1) ((w.alloc (.cells #[.slice ad m.1.length cd, .slice ab m.2.length cb] 26)).alloc (.cells #[.pointer none, .slice none 0 0] TB)) (hD.blw (onB' hx0 (show Below (w.alloc (.cells #[.slice ad m.1.length cd, .slice ab m.2.length cb] 26)).heap.size (w.alloc (.cells #[.slice ad m.1.length cd, .slice ab m.2.length cb] 26)) ((w.alloc (.cells #[.slice ad m.1.length cd, .slice ab m.2.length cb] 26)).alloc (.cells #[.pointer none, .slice none 0 0] TB)) by rw [hz0]; exact hx1))) rfl
    (fun j hj V hV _ => declText_any m.1[j] (hd _ (List.getElem_mem hj)).1 (hd _ (List.getElem_mem hj)).2 V (hp.below (onB' (onB' hx0 (show Below (w.alloc (.cells #[.slice ad m.1.length cd, .slice ab m.2.length cb] 26)).heap.size (w.alloc (.cells #[.slice ad m.1.length cd, .slice ab m.2.length cb] 26)) ((w.alloc (.cells #[.slice ad m.1.length cd, .slice ab m.2.length cb] 26)).alloc (.cells #[.pointer none, .slice none 0 0] TB)) by rw [hz0]; exact hx1)) hV))))
  have HS := Hd (Ai hfb hx1)
  have hmf := func_made
  clear hx0 hx1 hfb hp hD hB tB hkb hwb hx hd hBx hz0
  have c0 : ((w.alloc (.cells #[.slice ad m.1.length cd, .slice ab m.2.length cb] 26)).alloc (.cells #[.pointer none, .slice none 0 0] TB)).cell? ⟨w.heap.size, 0, none⟩ = some (.slice ad m.1.length cd) := HBx.out.1 0 _ rfl
  have c1 : ((w.alloc (.cells #[.slice ad m.1.length cd, .slice ab m.2.length cb] 26)).alloc (.cells #[.pointer none, .slice none 0 0] TB)).cell? ⟨w.heap.size, 1, none⟩ = some (.slice ab m.2.length cb) := HBx.out.1 1 _ rfl
  by_cases g : m.1.length = 0
  · have HRES : Ending.returned (.string (tx (headT m.1 ++ linesT m.2))) = .returned (.string (tx (modT m))) := rfl
    have hh : headT m.1 = [] := by unfold headT; rw [if_pos g]
    rw [hh] at HRES
    have HF := Hd (show ([] : List UInt8).length ≤ 20000000002 from Nat.zero_le _)
    have g' : ¬ (0 : Int) < (m.1.length : Int) := by omega
    clear hh HD hdl g
    go_enter Tryz.func10, Tryz.ntmps10
    go_wp2_with fail
    go_loopw [21] (fun s wr => ∃ j : Nat, j ≤ m.2.length ∧ s = .int .i64 j ∧ Lib.IsBuilder TB 5 (w.heap.size + 1) (w.heap.size + 1) (Lib.byteCells ([] ++ linesT (m.2.take j))) wr ∧ Below (w.heap.size + 1) (w.alloc (.cells #[.slice ad m.1.length cd, .slice ab m.2.length cb] 26)) wr) (fun s _ => m.2.length - (RowKit.intOf s).toNat)
    case atStart => exact ⟨0, Nat.zero_le _, rfl, by rw [List.take_zero]; show Lib.IsBuilder TB 5 _ _ (Lib.byteCells ([] ++ [])) _; rw [List.append_nil]; exact HS.out.1, HS.out.2⟩
    case round =>
      obtain ⟨j, hj, rfl, hB, hbr⟩ := hrel
      have HR := Hd (Ai hB (Ai hbr (onB' HO.out.1 (show Below (w.alloc (.cells #[.slice ad m.1.length cd, .slice ab m.2.length cb] 26)).heap.size (w.alloc (.cells #[.slice ad m.1.length cd, .slice ab m.2.length cb] 26)) wr by rw [HO.out.2.2.2.2.2]; exact hbr))))
      clear hB hbr
      by_cases gj : j < m.2.length
      · have gj' : (j : Int) < (m.2.length : Int) := by omega
        obtain ⟨aq, cq, k, nm, f, u, ap, np, cp, ak, nk, ck, ab1, nb, cb1, aa, na, ca, hQ, hE, hc⟩ := HO.out.2.2.2.1.cells j gj
        obtain ⟨g1, o1, ea1, k1, m1', -, ht1⟩ := HO.out.2.2.1.at (by omega)
        subst ea1
        have HP := Hd (fun i v h => later' HR.out.2.2 (ht1 _ _ (hc i v h)))
        have HT := Hd (lines_step m.2 gj)
        have hl1 := HLn.out (j + 1)
        rw [lines_step m.2 gj, List.length_append] at hl1
        have hl2 : (lineL (bindT m.2[j])).length = (bindT m.2[j]).length + 2 := by unfold lineL; simp only [List.length_append, List.length_cons, List.length_nil]
        have hl3 : (bindT m.2[j]).length ≤ 20000000000 := by omega
        have HCj := Hd (fun (V : World) (hb : Below w.heap.size w V) => bindText_any m.2[j] (HTb.out _ (List.getElem_mem gj)) hl3 aq cq K V k nm f u ap np cp ak nk ck ab1 nb cb1 aa na ca (HO.out.2.1.below hb) (hQ.blw hb) (hE.blw hb))
        have HL := Hd (fun (V : World) (hb : Below wr.heap.size wr V) => line_any (w.heap.size + 1) (w.heap.size + 1) ([] ++ linesT (m.2.take j)) (bindT m.2[j]) hl3 (by rw [List.length_append]; have := HF.out; omega) V (bld_below HR.out.1 hb) (Nt (by have := HR.out.2.1.size; have := HO.out.2.2.2.2.2; omega) hb.size))
        clear ht1 hc hE hQ hl1 hl2 hl3
        generalize bindT m.2[j] = tk at *
        generalize tx m.2[j].1 = tb at *
        generalize m.2[j].2.1.length = lb at *
        have p0 : wr.cell? ⟨g1, o1 + j * 10, none⟩ = some (.string tb) := HP.out 0 _ rfl
        have p1 : wr.cell? ⟨g1, o1 + j * 10 + 1, none⟩ = some (.slice aq lb cq) := by rw [Nat.add_assoc]; exact HP.out 1 _ rfl
        have p2 : wr.cell? ⟨g1, o1 + j * 10 + 2, none⟩ = some (.int .i64 k) := by rw [Nat.add_assoc]; exact HP.out 2 _ rfl
        have p3 : wr.cell? ⟨g1, o1 + j * 10 + 3, none⟩ = some (.string (tx nm)) := by rw [Nat.add_assoc]; exact HP.out 3 _ rfl
        have p4 : wr.cell? ⟨g1, o1 + j * 10 + 4, none⟩ = some (.bool f) := by rw [Nat.add_assoc]; exact HP.out 4 _ rfl
        have p5 : wr.cell? ⟨g1, o1 + j * 10 + 5, none⟩ = some (.int .u64 u) := by rw [Nat.add_assoc]; exact HP.out 5 _ rfl
        have p6 : wr.cell? ⟨g1, o1 + j * 10 + 6, none⟩ = some (.slice ap np cp) := by rw [Nat.add_assoc]; exact HP.out 6 _ rfl
        have p7 : wr.cell? ⟨g1, o1 + j * 10 + 7, none⟩ = some (.slice ak nk ck) := by rw [Nat.add_assoc]; exact HP.out 7 _ rfl
        have p8 : wr.cell? ⟨g1, o1 + j * 10 + 8, none⟩ = some (.slice ab1 nb cb1) := by rw [Nat.add_assoc]; exact HP.out 8 _ rfl
        have p9 : wr.cell? ⟨g1, o1 + j * 10 + 9, none⟩ = some (.slice aa na ca) := by rw [Nat.add_assoc]; exact HP.out 9 _ rfl
        have ej : IntKind.i64.wrap ((j : Int) + 1) = (j : Int) + 1 := by rw [IntKind.wrap_i64]; omega
        have b0 : (0 : Int) ≤ (j : Int) := by omega
        have HX := Hd ((Below.refl wr.heap.size wr).alloc Nr (.cells #[.string tb, .slice aq lb cq, .int .i64 k, .string (tx nm), .bool f, .int .u64 u, .slice ap np cp, .slice ak nk ck, .slice ab1 nb cb1, .slice aa na ca] 39))
        have HCw := Hd (HCj.out _ (onB' HR.out.2.2 HX.out))
        clear HCj
        go_wp2_with fail
        refine HCw.out.mono ?_
        rintro e w5 ⟨rfl, hb5⟩
        have HB := Hd (onB' HX.out hb5)
        have HLw := Hd (HL.out _ HB.out)
        clear hb5 HCw HL p0 p1 p2 p3 p4 p5 p6 p7 p8 p9 HP
        go_wp2_with fail
        refine HLw.out.mono ?_
        rintro e w6 ⟨rfl, hB6, hb6⟩
        rw [List.append_assoc, ← HT.out] at hB6
        have H6 := Hd (Ai hB6 (HR.out.2.1.trans (Below.trans (belowAt HB.out (by have := HR.out.2.1.size; have := HO.out.2.2.2.2.2; omega)) hb6)))
        clear hB6 hb6 HLw
        go_wp2_with fail
        exact ⟨⟨j + 1, by omega, by go_num, H6.out.1, H6.out.2⟩, by simp [RowKit.intOf]; omega⟩
      · obtain rfl : j = m.2.length := by omega
        rw [List.take_length] at HR
        have HT := Hd (Tryz.Builder_String_any (w.heap.size + 1) (w.heap.size + 1) ([] ++ linesT m.2) wr HR.out.1 (by have := HR.out.2.1.size; have := HO.out.2.2.2.2.2; omega))
        go_wp2_with fail
        refine HT.out.mono ?_
        rintro e w7 ⟨rfl, hb7⟩
        have H7 := Hd (onB' HO.out.1 (show Below (w.alloc (.cells #[.slice ad m.1.length cd, .slice ab m.2.length cb] 26)).heap.size (w.alloc (.cells #[.slice ad m.1.length cd, .slice ab m.2.length cb] 26)) w7 by rw [HO.out.2.2.2.2.2]; exact HR.out.2.1.trans hb7))
        clear hb7 HT
        go_wp2_with fail
        go_ret
        exact ⟨HRES, H7.out⟩
  · have HRES : Ending.returned (.string (tx (headT m.1 ++ linesT m.2))) = .returned (.string (tx (modT m))) := rfl
    have hh : headT m.1 = lineL (wordsL dataL (m.1.map declT)) := by unfold headT; rw [if_neg g]
    have hll : (lineL (wordsL dataL (m.1.map declT))).length = (wordsL dataL (m.1.map declT)).length + 2 := by unfold lineL; simp only [List.length_append, List.length_cons, List.length_nil]
    have HF := Hd (show (headT m.1).length ≤ 20000000002 by rw [hh]; omega)
    have g' : (0 : Int) < (m.1.length : Int) := by omega
    have HH := Hd hh
    have HW : Hid (∀ (V : World) (a : Option Addr) (c : Nat) (_ : RowAt V (fun _ => True) 9 1 (.slice a (m.1.map declT).length c) (m.1.map declT).length (namesV (m.1.map declT))), Calls Tryz.prog 24 #[.string ⟨#[100, 97, 116, 97]⟩, .slice a (m.1.map declT).length c] V fun e w' => e = .returned (.string (tx (wordsL dataL (m.1.map declT)))) ∧ Below V.heap.size V w') :=
      Hd (fun V a c h => words_any dataL (m.1.map declT) a c _ V h (by omega))
    have HL := Hd (fun (V : World) (hb : Below ((w.alloc (.cells #[.slice ad m.1.length cd, .slice ab m.2.length cb] 26)).alloc (.cells #[.pointer none, .slice none 0 0] TB)).heap.size ((w.alloc (.cells #[.slice ad m.1.length cd, .slice ab m.2.length cb] 26)).alloc (.cells #[.pointer none, .slice none 0 0] TB)) V) => line_any (w.heap.size + 1) (w.heap.size + 1) [] (wordsL dataL (m.1.map declT)) hdl (Nat.zero_le _) V (bld_below HS.out.1 hb) (Nt (by simp) hb.size))
    clear hh hdl g hll
    generalize wordsL dataL (m.1.map declT) = dt at *
    generalize m.1.map declT = od at *
    generalize headT m.1 = hT at *
    go_enter Tryz.func10, Tryz.ntmps10
    go_wp2_with fail
    refine HD.out.mono ?_
    rintro e w2 ⟨⟨v2, rfl, ho⟩, hb2⟩
    obtain ⟨a2, c2, rfl, -⟩ := own_shape ho
    have H2 := Hd hb2
    have HWw := Hd (HW.out _ _ _ (row_own ho Br))
    clear hb2 ho HD HW
    go_wp2_with fail
    refine HWw.out.mono ?_
    rintro e w3 ⟨rfl, hb3⟩
    have H3 := Hd (onB' H2.out hb3)
    have HLw := Hd (HL.out _ H3.out)
    clear hb3 HWw HL
    go_wp2_with fail
    refine HLw.out.mono ?_
    rintro e w4 ⟨rfl, hB4, hb4⟩
    rw [List.nil_append, ← HH.out] at hB4
    have H4 := Hd (Ai hB4 (HS.out.2.trans ((belowAt H3.out (by simp)).trans hb4)))
    have c1' : w4.cell? ⟨w.heap.size, 1, none⟩ = some (.slice ab m.2.length cb) := later' (show Below (w.alloc (.cells #[.slice ad m.1.length cd, .slice ab m.2.length cb] 26)).heap.size (w.alloc (.cells #[.slice ad m.1.length cd, .slice ab m.2.length cb] 26)) w4 by rw [HO.out.2.2.2.2.2]; exact H4.out.2) (by simp)
    clear hB4 hb4 HLw c0 c1
    go_wp2_with fail
    go_loopw [21] (fun s wr => ∃ j : Nat, j ≤ m.2.length ∧ s = .int .i64 j ∧ Lib.IsBuilder TB 5 (w.heap.size + 1) (w.heap.size + 1) (Lib.byteCells (hT ++ linesT (m.2.take j))) wr ∧ Below (w.heap.size + 1) (w.alloc (.cells #[.slice ad m.1.length cd, .slice ab m.2.length cb] 26)) wr) (fun s _ => m.2.length - (RowKit.intOf s).toNat)
    case atStart => exact ⟨0, Nat.zero_le _, rfl, by rw [List.take_zero]; show Lib.IsBuilder TB 5 _ _ (Lib.byteCells (hT ++ [])) _; rw [List.append_nil]; exact H4.out.1, H4.out.2⟩
    case round =>
      obtain ⟨j, hj, rfl, hB, hbr⟩ := hrel
      have HR := Hd (Ai hB (Ai hbr (onB' HO.out.1 (show Below (w.alloc (.cells #[.slice ad m.1.length cd, .slice ab m.2.length cb] 26)).heap.size (w.alloc (.cells #[.slice ad m.1.length cd, .slice ab m.2.length cb] 26)) wr by rw [HO.out.2.2.2.2.2]; exact hbr))))
      clear hB hbr
      by_cases gj : j < m.2.length
      · have gj' : (j : Int) < (m.2.length : Int) := by omega
        obtain ⟨aq, cq, k, nm, f, u, ap, np, cp, ak, nk, ck, ab1, nb, cb1, aa, na, ca, hQ, hE, hc⟩ := HO.out.2.2.2.1.cells j gj
        obtain ⟨g1, o1, ea1, k1, m1', -, ht1⟩ := HO.out.2.2.1.at (by omega)
        subst ea1
        have HP := Hd (fun i v h => later' HR.out.2.2 (ht1 _ _ (hc i v h)))
        have HT := Hd (lines_step m.2 gj)
        have hl1 := HLn.out (j + 1)
        rw [lines_step m.2 gj, List.length_append] at hl1
        have hl2 : (lineL (bindT m.2[j])).length = (bindT m.2[j]).length + 2 := by unfold lineL; simp only [List.length_append, List.length_cons, List.length_nil]
        have hl3 : (bindT m.2[j]).length ≤ 20000000000 := by omega
        have HCj := Hd (fun (V : World) (hb : Below w.heap.size w V) => bindText_any m.2[j] (HTb.out _ (List.getElem_mem gj)) hl3 aq cq K V k nm f u ap np cp ak nk ck ab1 nb cb1 aa na ca (HO.out.2.1.below hb) (hQ.blw hb) (hE.blw hb))
        have HL := Hd (fun (V : World) (hb : Below wr.heap.size wr V) => line_any (w.heap.size + 1) (w.heap.size + 1) (hT ++ linesT (m.2.take j)) (bindT m.2[j]) hl3 (by rw [List.length_append]; have := HF.out; omega) V (bld_below HR.out.1 hb) (Nt (by have := HR.out.2.1.size; have := HO.out.2.2.2.2.2; omega) hb.size))
        clear ht1 hc hE hQ hl1 hl2 hl3
        generalize bindT m.2[j] = tk at *
        generalize tx m.2[j].1 = tb at *
        generalize m.2[j].2.1.length = lb at *
        have p0 : wr.cell? ⟨g1, o1 + j * 10, none⟩ = some (.string tb) := HP.out 0 _ rfl
        have p1 : wr.cell? ⟨g1, o1 + j * 10 + 1, none⟩ = some (.slice aq lb cq) := by rw [Nat.add_assoc]; exact HP.out 1 _ rfl
        have p2 : wr.cell? ⟨g1, o1 + j * 10 + 2, none⟩ = some (.int .i64 k) := by rw [Nat.add_assoc]; exact HP.out 2 _ rfl
        have p3 : wr.cell? ⟨g1, o1 + j * 10 + 3, none⟩ = some (.string (tx nm)) := by rw [Nat.add_assoc]; exact HP.out 3 _ rfl
        have p4 : wr.cell? ⟨g1, o1 + j * 10 + 4, none⟩ = some (.bool f) := by rw [Nat.add_assoc]; exact HP.out 4 _ rfl
        have p5 : wr.cell? ⟨g1, o1 + j * 10 + 5, none⟩ = some (.int .u64 u) := by rw [Nat.add_assoc]; exact HP.out 5 _ rfl
        have p6 : wr.cell? ⟨g1, o1 + j * 10 + 6, none⟩ = some (.slice ap np cp) := by rw [Nat.add_assoc]; exact HP.out 6 _ rfl
        have p7 : wr.cell? ⟨g1, o1 + j * 10 + 7, none⟩ = some (.slice ak nk ck) := by rw [Nat.add_assoc]; exact HP.out 7 _ rfl
        have p8 : wr.cell? ⟨g1, o1 + j * 10 + 8, none⟩ = some (.slice ab1 nb cb1) := by rw [Nat.add_assoc]; exact HP.out 8 _ rfl
        have p9 : wr.cell? ⟨g1, o1 + j * 10 + 9, none⟩ = some (.slice aa na ca) := by rw [Nat.add_assoc]; exact HP.out 9 _ rfl
        have ej : IntKind.i64.wrap ((j : Int) + 1) = (j : Int) + 1 := by rw [IntKind.wrap_i64]; omega
        have b0 : (0 : Int) ≤ (j : Int) := by omega
        have HX := Hd ((Below.refl wr.heap.size wr).alloc Nr (.cells #[.string tb, .slice aq lb cq, .int .i64 k, .string (tx nm), .bool f, .int .u64 u, .slice ap np cp, .slice ak nk ck, .slice ab1 nb cb1, .slice aa na ca] 39))
        have HCw := Hd (HCj.out _ (onB' HR.out.2.2 HX.out))
        clear HCj
        go_wp2_with fail
        refine HCw.out.mono ?_
        rintro e w5 ⟨rfl, hb5⟩
        have HB := Hd (onB' HX.out hb5)
        have HLw := Hd (HL.out _ HB.out)
        clear hb5 HCw HL p0 p1 p2 p3 p4 p5 p6 p7 p8 p9 HP
        go_wp2_with fail
        refine HLw.out.mono ?_
        rintro e w6 ⟨rfl, hB6, hb6⟩
        rw [List.append_assoc, ← HT.out] at hB6
        have H6 := Hd (Ai hB6 (HR.out.2.1.trans (Below.trans (belowAt HB.out (by have := HR.out.2.1.size; have := HO.out.2.2.2.2.2; omega)) hb6)))
        clear hB6 hb6 HLw
        go_wp2_with fail
        exact ⟨⟨j + 1, by omega, by go_num, H6.out.1, H6.out.2⟩, by simp [RowKit.intOf]; omega⟩
      · obtain rfl : j = m.2.length := by omega
        rw [List.take_length] at HR
        have HT := Hd (Tryz.Builder_String_any (w.heap.size + 1) (w.heap.size + 1) (hT ++ linesT m.2) wr HR.out.1 (by have := HR.out.2.1.size; have := HO.out.2.2.2.2.2; omega))
        go_wp2_with fail
        refine HT.out.mono ?_
        rintro e w7 ⟨rfl, hb7⟩
        have H7 := Hd (onB' HO.out.1 (show Below (w.alloc (.cells #[.slice ad m.1.length cd, .slice ab m.2.length cb] 26)).heap.size (w.alloc (.cells #[.slice ad m.1.length cd, .slice ab m.2.length cb] 26)) w7 by rw [HO.out.2.2.2.2.2]; exact HR.out.2.1.trans hb7))
        clear hb7 HT
        go_wp2_with fail
        go_ret
        exact ⟨HRES, H7.out⟩
end Go.Proofs.YthehgcmhcioffaaGreatDoor
namespace Go.Proofs.YthehgcmhcioffaaGreatDoor
set_option maxHeartbeats 64000000
set_option maxRecDepth 100000
open Go.RowKit Go.Lib Go.Extern.Stop Go.Stop Go.Extern
end Go.Proofs.YthehgcmhcioffaaGreatDoor
namespace Go.Proofs.YthehgcmhcioffaaGreatDoor
set_option maxHeartbeats 64000000
set_option maxRecDepth 100000
open Go.RowKit Go.Lib
theorem PAt.o2 {W : World} {b p i0 i1 : Nat} {T : List Tok} {s : St} {v0 v1 : Value} (h : PAt W b T s) (hp : b < p) : PAt ((W.setCell ⟨p, i0, none⟩ v0).setCell ⟨p, i1, none⟩ v1) b T s := (h.over hp _).over hp _
theorem PAt.o8 {W : World} {b p i0 i1 i2 i3 i4 i5 i6 i7 : Nat} {T : List Tok} {s : St} {v0 v1 v2 v3 v4 v5 v6 v7 : Value} (h : PAt W b T s) (hp : b < p) : PAt ((((((((W.setCell ⟨p, i0, none⟩ v0).setCell ⟨p, i1, none⟩ v1).setCell ⟨p, i2, none⟩ v2).setCell ⟨p, i3, none⟩ v3).setCell ⟨p, i4, none⟩ v4).setCell ⟨p, i5, none⟩ v5).setCell ⟨p, i6, none⟩ v6).setCell ⟨p, i7, none⟩ v7) b T s := (((((((h.over hp _).over hp _).over hp _).over hp _).over hp _).over hp _).over hp _).over hp _
theorem own_o8 {W : World} {base size n p i0 i1 i2 i3 i4 i5 i6 i7 : Nat} {e : TypeId} {u v0 v1 v2 v3 v4 v5 v6 v7 : Value} {xs : List Value} (h : W.ownsRow base e size u n xs) (hn : ∀ g, u.ownBlock = some g → some g ≠ some p) : World.ownsRow ((((((((W.setCell ⟨p, i0, none⟩ v0).setCell ⟨p, i1, none⟩ v1).setCell ⟨p, i2, none⟩ v2).setCell ⟨p, i3, none⟩ v3).setCell ⟨p, i4, none⟩ v4).setCell ⟨p, i5, none⟩ v5).setCell ⟨p, i6, none⟩ v6).setCell ⟨p, i7, none⟩ v7) base e size u n xs := own_o (own_o (own_o (own_o (own_o (own_o (own_o (own_o h (set_grown _ p i0 v0) hn) (set_grown _ p i1 v1) hn) (set_grown _ p i2 v2) hn) (set_grown _ p i3 v3) hn) (set_grown _ p i4 v4) hn) (set_grown _ p i5 v5) hn) (set_grown _ p i6 v6) hn) (set_grown _ p i7 v7) hn
theorem dkind_any (b : Nat) (T : List Tok) (s : St) (w : World) (hP : PAt w b T s) : Calls Tryz.prog 98 #[.pointer (some ⟨b, 0, none⟩)] w (fun e w' => e = .returned (.int .i64 (kindL s.r)) ∧ Below w.heap.size w w') := by
  obtain ⟨i, a, c, c0, hc, hm, c1, hi, hr, c2, c3, ht⟩ := hP.view
  rw [hr]
  clear hP hr
  unfold maxLen at hm
  by_cases g : i < T.length
  · obtain ⟨gg, o, rfl, hg, htk⟩ := ht.resolve_left (by rintro rfl; simp at g)
    have t0 := (htk i g).1
    rw [List.drop_eq_getElem_cons g]
    generalize T[i] = y at *
    show Calls _ _ _ _ (fun e w' => e = .returned (.int .i64 y.1.k) ∧ _)
    have g1 : (i : Int) < (T.length : Int) := by omega
    have g0 : (0 : Int) ≤ (i : Int) := by omega
    clear ht htk
    go_enter Tryz.func98, Tryz.ntmps98
    go_wp2_with fail
    go_quiet (fail)
    go_wp2_with fail
    go_quiet (fail)
    go_wp2_with fail
    go_ret
    exact ⟨rfl, dbelow (dbelow Br _) _⟩
  · rw [List.drop_eq_nil_of_le (by omega)]
    have g1 : ¬ (i : Int) < (T.length : Int) := by omega
    clear ht
    go_enter Tryz.func98, Tryz.ntmps98
    go_wp2_with fail
    go_quiet (fail)
    go_wp2_with fail
    go_ret
    exact ⟨rfl, dbelow Br _⟩
theorem dsees_any (b : Nat) (T : List Tok) (s : St) (t : Nm) (w : World) (hP : PAt w b T s) : Calls Tryz.prog 57 #[.pointer (some ⟨b, 0, none⟩), .string (tx t)] w (fun e w' => e = .returned (.bool (seesL t s.r)) ∧ Below w.heap.size w w') := by
  have hk := dkind_any b T s w hP
  obtain ⟨i, a, c, c0, hc, hm, c1, hi, hr, c2, c3, ht⟩ := hP.view
  rw [hr] at hk ⊢
  clear hP hr
  unfold maxLen at hm
  by_cases g : i < T.length
  · obtain ⟨gg, o, rfl, hg, htk⟩ := ht.resolve_left (by rintro rfl; simp at g)
    have t1 := (htk i g).2.1
    rw [List.drop_eq_getElem_cons g] at hk ⊢
    generalize T[i] = y at *
    change Calls _ _ _ _ (fun e w' => e = .returned (.int .i64 y.1.k) ∧ _) at hk
    show Calls _ _ _ _ (fun e w' => e = .returned (.bool (decide ((y.1.k = 5 ∨ y.1.k = 6) ∧ y.1.t = t))) ∧ _)
    have HK := Hd hk
    have g1 : (i : Int) < (T.length : Int) := by omega
    have g0 : (0 : Int) ≤ (i : Int) := by omega
    clear ht htk hk
    go_enter Tryz.func57, Tryz.ntmps57
    go_wp2_with fail
    refine HK.out.mono ?_
    rintro e w2 ⟨rfl, hb⟩
    have d0 := later' hb c0
    have d1 := later' hb c1
    have d2 := later' hb t1
    have HB := Hd hb
    clear c0 c1 c2 c3 t1 hb HK
    by_cases h5 : y.1.k = 5 ∨ y.1.k = 6
    · have e5 : (y.1.k == 5) = true ∨ (y.1.k == 5) = false ∧ (y.1.k == 6) = true := by
        rcases h5 with h | h <;> simp [h]
      have ht : decide ((y.1.k = 5 ∨ y.1.k = 6) ∧ y.1.t = t) = ((tx y.1.t).toList == (tx t).toList) := by
        rw [tx_toList, tx_toList]
        by_cases h : y.1.t = t
        · simp [h, h5]
        · simp [h]
      have HT := Hd ht
      clear ht
      rcases e5 with e5 | ⟨e5, e6⟩
      · go_wp2_with fail
        go_quiet (fail)
        go_wp2_with fail
        go_ret
        exact ⟨by rw [HT.out]; rfl, dbelow HB.out _⟩
      · go_wp2_with fail
        go_quiet (fail)
        go_wp2_with fail
        go_ret
        exact ⟨by rw [HT.out]; rfl, dbelow HB.out _⟩
    · have e5 : (y.1.k == 5) = false := by simp; intro h; exact h5 (Or.inl h)
      have e6 : (y.1.k == 6) = false := by simp; intro h; exact h5 (Or.inr h)
      have HT := Hd (show decide ((y.1.k = 5 ∨ y.1.k = 6) ∧ y.1.t = t) = false from decide_eq_false fun h => h5 h.1)
      go_wp2_with fail
      go_quiet (fail)
      go_wp2_with fail
      go_ret
      exact ⟨by rw [HT.out]; rfl, dbelow HB.out _⟩
  · rw [List.drop_eq_nil_of_le (by omega)] at hk ⊢
    have HK := Hd hk
    clear ht hk
    go_enter Tryz.func57, Tryz.ntmps57
    go_wp2_with fail
    refine HK.out.mono ?_
    rintro e w2 ⟨rfl, hb⟩
    have HB := Hd hb
    clear hb HK c0 c1 c2 c3
    have e5 : (kindL ([] : List Tok) == 5) = false := rfl
    have e6 : (kindL ([] : List Tok) == 6) = false := rfl
    go_wp2_with fail
    go_quiet (fail)
    go_wp2_with fail
    go_ret
    exact ⟨rfl, dbelow HB.out _⟩
theorem dfault_any (b : Nat) (T : List Tok) (s : St) (er : Int) (w : World) (hP : PAt w b T s) : Calls Tryz.prog 100 #[.pointer (some ⟨b, 0, none⟩), .int .i64 er] w (fun e w' => e = .returned (.tuple #[]) ∧ PAt w' b T (s.bad (lastOf 1 T) er) ∧ w.grownBy w' (some b)) := by
  obtain ⟨i, a, c, c0, hc, hm, c1, hi, hr, c2, c3, ht⟩ := hP.view
  have z2 := hP.z 2
  have z3 := hP.z 3
  have HP := Hd hP
  unfold maxLen at hm
  by_cases ge : s.e = 0
  · have hbad : s.bad (lastOf 1 T) er = match s.r with | [] => ⟨[], 17, lastOf 1 T⟩ | y :: r => ⟨y :: r, er, y.2⟩ := by unfold St.bad; rw [if_neg (by simpa using ge)]; rfl
    rw [hbad, hr]
    have f0 : (s.e != 0) = false := by simp [ge]
    by_cases g : i < T.length
    · obtain ⟨gg, o, rfl, hg, htk⟩ := ht.resolve_left (by rintro rfl; simp at g)
      have t3 := (htk i g).2.2.2.2
      have hp2 : ∀ er ln, PAt ((w.setCell ⟨b, 2, none⟩ (.int .i64 er)).setCell ⟨b, 3, none⟩ (.int .i64 ln)) b T ⟨T.drop i, er, ln⟩ := fun er ln => by
        have h := (HP.out.setE er).setL ln
        rwa [hr] at h
      have HF := Hd hp2
      rw [List.drop_eq_getElem_cons g] at HF ⊢
      generalize T[i] = y at *
      show Calls _ _ _ _ (fun e w' => e = .returned (.tuple #[]) ∧ PAt w' b T ⟨_, er, y.2⟩ ∧ _)
      have g1 : (i : Int) < (T.length : Int) := by omega
      have g0 : (0 : Int) ≤ (i : Int) := by omega
      have nb : gg ≠ b := by omega
      have t3' := (at_far w b gg 2 (o + i * 5 + 4) (.int .i64 er) (Ne.symm nb)).trans t3
      have d0 := (at_oth w b 2 0 (.int .i64 er) (by decide)).trans c0
      have d1 := (at_oth w b 2 1 (.int .i64 er) (by decide)).trans c1
      have d3 := (at_oth w b 2 3 (.int .i64 er) (by decide)).trans c3
      clear ht htk hp2 hP hbad
      go_enter Tryz.func100, Tryz.ntmps100
      go_wp2_with fail
      go_quiet (fail)
      go_wp2_with fail
      go_region_held3 (fun w' => w'.cell? ⟨b, 0, none⟩ = some (.slice (some ⟨gg, o, none⟩) T.length c) ∧ w'.cell? ⟨b, 1, none⟩ = some (.int .i64 i) ∧ w'.cell? ⟨gg, o + i * 5 + 4, none⟩ = some (.int .i64 y.2)) (first | exact ⟨d0, d1, t3'⟩ | exact ⟨(at_oth _ _ _ _ _ (by decide)).trans d0, (at_oth _ _ _ _ _ (by decide)).trans d1, (at_far _ _ _ _ _ _ (Ne.symm nb)).trans t3'⟩) (fail)
      go_wp2_with fail
      refine bodyPost_ret (v := .tuple #[]) (by simp [results, Tryz.results100, go_sem]) rfl ?_
      exact ⟨rfl, (HF.out _ _).keep (fun _ _ => rfl), Gt (Gt (set_grown ..) (grown_of (dbelow Br _))) (set_grown ..)⟩
    · have hil : i = T.length := by omega
      have hpn : s.r = [] := by rw [hr, List.drop_eq_nil_of_le (by omega)]
      rw [List.drop_eq_nil_of_le (by omega)]
      show Calls _ _ _ _ (fun e w' => e = .returned (.tuple #[]) ∧ PAt w' b T ⟨[], 17, lastOf 1 T⟩ ∧ _)
      have g1 : ¬ (i : Int) < (T.length : Int) := by omega
      have HN := Hd hpn
      have d0 := (at_oth w b 2 0 (.int .i64 er) (by decide)).trans c0
      have d1 := (at_oth w b 2 1 (.int .i64 er) (by decide)).trans c1
      have d2 := at_sam (.int .i64 er) c2
      have d3 := (at_oth w b 2 3 (.int .i64 er) (by decide)).trans c3
      have h1 := HP.out.setE er
      have k0 := (at_oth _ b 2 0 (.int .i64 17) (by decide)).trans d0
      have k3 := (at_oth _ b 2 3 (.int .i64 17) (by decide)).trans d3
      have h2 := h1.setE 17
      have l0 := (at_oth _ b 3 0 (.int .i64 1) (by decide)).trans k0
      have l3 := at_sam (.int .i64 1) k3
      have h3 := h2.setL 1
      by_cases gT : T = []
      · subst gT
        have H3 := Hd h3
        clear ht hP hbad h1 h2 h3 hpn
        go_enter Tryz.func100, Tryz.ntmps100
        go_wp2_with fail
        go_quiet (fail)
        go_wp2_with fail
        go_end0
        have h := H3.out
        rw [show (⟨s.r, 17, 1⟩ : St) = ⟨[], 17, 1⟩ by rw [HN.out]] at h
        exact ⟨rfl, h.keep (fun _ _ => rfl), Gt (Gt (Gt (set_grown ..) (grown_of (dbelow Br _))) (set_grown ..)) (set_grown ..)⟩
      · obtain ⟨gg, o, rfl, hg, htk⟩ := ht.resolve_left gT
        obtain ⟨y, hy, hl⟩ := last_get gT 1
        have hpos : 0 < T.length := List.length_pos_iff.2 gT
        have hlt : T.length - 1 < T.length := by omega
        rw [List.getElem?_eq_getElem hlt] at hy
        have hy' := Oi hy
        have t3 := (htk (T.length - 1) hlt).2.2.2.2
        rw [hy'] at t3
        have nb : gg ≠ b := by omega
        have t3' := ((at_far _ b gg 3 (o + (T.length - 1) * 5 + 4) (.int .i64 1) (Ne.symm nb)).trans ((at_far _ b gg 2 (o + (T.length - 1) * 5 + 4) (.int .i64 17) (Ne.symm nb)).trans ((at_far w b gg 2 (o + (T.length - 1) * 5 + 4) (.int .i64 er) (Ne.symm nb)).trans t3)))
        have h4 := h3.setL y.2
        have H4 := Hd h4
        rw [hl]
        have g3 : (0 : Int) < (T.length : Int) := by omega
        have g4 : IntKind.i64.wrap ((T.length : Int) - 1) = ((T.length - 1 : Nat) : Int) := by rw [IntKind.wrap_i64]; omega
        have g5 : ((T.length - 1 : Nat) : Int) < (T.length : Int) := by omega
        have g6 : (0 : Int) ≤ ((T.length - 1 : Nat) : Int) := by omega
        clear ht htk hP hbad h1 h2 h3 h4 hpn hy hy' hl t3
        go_enter Tryz.func100, Tryz.ntmps100
        go_wp2_with fail
        go_quiet (fail)
        go_wp2_with fail
        go_region_held3 (fun w' => w'.cell? ⟨b, 0, none⟩ = some (.slice (some ⟨gg, o, none⟩) T.length c) ∧ w'.cell? ⟨gg, o + (T.length - 1) * 5 + 4, none⟩ = some (.int .i64 y.2)) (first | exact ⟨l0, t3'⟩ | exact ⟨(at_oth _ _ _ _ _ (by decide)).trans l0, (at_far _ _ _ _ _ _ (Ne.symm nb)).trans t3'⟩) (fail)
        go_wp2_with fail
        go_end0
        have h := H4.out
        rw [show (⟨s.r, 17, y.2⟩ : St) = ⟨[], 17, y.2⟩ by rw [HN.out]] at h
        exact ⟨rfl, h.keep (fun _ _ => rfl), Gt (Gt (Gt (Gt (Gt (set_grown ..) (grown_of (dbelow Br _))) (set_grown ..)) (set_grown ..)) (grown_of (dbelow Br _))) (set_grown ..)⟩
  · have f0 : (s.e != 0) = true := by simp [ge]
    rw [show s.bad (lastOf 1 T) er = s from bad_dead ge]
    clear ht hP
    go_enter Tryz.func100, Tryz.ntmps100
    go_wp2_with fail
    refine bodyPost_ret (v := .tuple #[]) (by simp [results, Tryz.results100, go_sem]) rfl ?_
    exact ⟨rfl, HP.out, grown_of Br⟩
theorem dneed_any (b : Nat) (T : List Tok) (s : St) (t : Nm) (w : World) (hP : PAt w b T s) : Calls Tryz.prog 60 #[.pointer (some ⟨b, 0, none⟩), .string (tx t)] w (fun e w' => e = .returned (.tuple #[]) ∧ PAt w' b T (needD (lastOf 1 T) t s) ∧ w.grownBy w' (some b)) := by
  have hS := fun (W' : World) (hb : Below w.heap.size w W') => dsees_any b T s t W' (hP.later hb)
  obtain ⟨i, a, c, c0, hc, hm, c1, hi, hr, c2, c3, ht⟩ := hP.view
  have HP := Hd hP
  have z1 := hP.z 1
  have hn := hP.n
  have ej : IntKind.i64.wrap ((i : Int) + 1) = (i : Int) + 1 := by rw [IntKind.wrap_i64]; omega
  clear ht hr
  by_cases ge : s.e = 0
  · have f0 : (s.e == 0) = true := by simp [ge]
    by_cases g : seesL t s.r = true
    · rw [show needD (lastOf 1 T) t s = s.next from if_pos ⟨ge, g⟩]
      have HN := Hd (sees_ne g)
      rw [g] at hS
      have HS := Hd hS
      clear hS hP g
      go_enter Tryz.func60, Tryz.ntmps60
      go_wp2_with fail
      refine (HS.out _ Br).mono ?_
      rintro e W2 ⟨rfl, hb⟩
      have HB := Hd hb
      have d1 := later' HB.out c1
      have HQ := Hd (HP.out.later HB.out)
      have y1 := HQ.out.z 1
      clear hb HS c0 c1 c2 c3
      go_wp2_with fail
      refine bodyPost_ret (v := .tuple #[]) (by simp [results, Tryz.results60, go_sem]) rfl ?_
      exact ⟨rfl, HQ.out.next d1 HN.out, Gt (grown_of HB.out) (set_grown ..)⟩
    · have g' : seesL t s.r = false := by simpa using g
      rw [show needD (lastOf 1 T) t s = s.bad (lastOf 1 T) 3 from if_neg (fun h => g h.2)]
      rw [g'] at hS
      have HS := Hd hS
      clear hS hP g g'
      go_enter Tryz.func60, Tryz.ntmps60
      go_wp2_with fail
      refine (HS.out _ Br).mono ?_
      rintro e W2 ⟨rfl, hb⟩
      have HB := Hd hb
      have HF := Hd (dfault_any b T s 3 W2 (HP.out.later HB.out))
      clear hb HS c0 c1 c2 c3
      go_wp2_with fail
      refine HF.out.mono ?_
      rintro e w3 ⟨rfl, h3, hg3⟩
      have HE := Hd (Ai h3 (Gt (grown_of (b := b) HB.out) hg3))
      clear h3 hg3 HF
      go_wp2_with fail
      go_end0
      exact ⟨rfl, HE.out⟩
  · have f0 : (s.e == 0) = false := by simp [ge]
    rw [show needD (lastOf 1 T) t s = s.bad (lastOf 1 T) 3 from if_neg (fun h => ge h.1)]
    clear hS hP
    go_enter Tryz.func60, Tryz.ntmps60
    have HF := Hd (dfault_any b T s 3 w HP.out)
    go_wp2_with fail
    refine HF.out.mono ?_
    rintro e w3 ⟨rfl, h3, hg3⟩
    have HE := Hd (Ai h3 hg3)
    clear h3 hg3 HF
    go_wp2_with fail
    go_end0
    exact ⟨rfl, HE.out⟩
theorem PAt.over5 {w : World} {b p : Nat} {T : List Tok} {s : St} (h : PAt w b T s) (hp : b < p) (v0 v1 v2 v3 v4 : Value) : PAt (((((w.setCell ⟨p, 0, none⟩ v0).setCell ⟨p, 1, none⟩ v1).setCell ⟨p, 2, none⟩ v2).setCell ⟨p, 3, none⟩ v3).setCell ⟨p, 4, none⟩ v4) b T s := ((((h.over hp _).over hp _).over hp _).over hp _).over hp _
theorem dtok_any (b : Nat) (T : List Tok) (s : St) (k : Int) (hk0 : k ≠ 0) (w : World) (hP : PAt w b T s) : Calls Tryz.prog 99 #[.pointer (some ⟨b, 0, none⟩), .int .i64 k] w (DSaid b T TokV (tokD (lastOf 1 T) k s) w) := by
  have hlt : b < w.heap.size := hP.lt
  have hx : Below w.heap.size w (w.alloc (.cells #[.int .i64 0, .string ⟨#[]⟩, .bool false, .int .u64 0, .int .i64 0] 93)) := Br.alloc Nr _
  have hB := BoxW.alloc w #[.int .i64 0, .string ⟨#[]⟩, .bool false, .int .u64 0, .int .i64 0] 93
  have HX := Hd (Ai hx (Ai (hP.later hx) hB))
  clear hx hB hP
  go_enter Tryz.func99, Tryz.ntmps99
  go_upto_region 1 with fail
  generalize (w.alloc (.cells #[.int .i64 0, .string ⟨#[]⟩, .bool false, .int .u64 0, .int .i64 0] 93)) = W at *
  obtain ⟨i, a, c, c0, hc, hm, c1, hi, hr, c2, c3, ht⟩ := HX.out.2.1.view
  have hn := HX.out.2.1.n
  have HS := Hd (dkind_any b T s W HX.out.2.1)
  by_cases ge : s.e = 0
  · have f0 : (s.e == 0) = true := by simp [ge]
    by_cases g : kindL s.r = k
    · have f1 : (kindL s.r == k) = true := by simp [g]
      have hne := kind_ne hk0 g
      have hlt' : i < T.length := by
        rcases Nat.lt_or_ge i T.length with h | h
        · exact h
        · exact absurd (hr.trans (List.drop_eq_nil_of_le h)) hne
      have hto : tokD (lastOf 1 T) k s = (tokO s.r, s.next) := if_pos ⟨ge, g⟩
      obtain ⟨gg, o, rfl, hg, htk⟩ := ht.resolve_left (by rintro rfl; simp at hlt')
      have hti := htk i hlt'
      rw [show tokO s.r = T[i] by rw [hr, List.drop_eq_getElem_cons hlt']; rfl] at hto
      generalize T[i] = y at *
      have ej : IntKind.i64.wrap ((i : Int) + 1) = (i : Int) + 1 := by rw [IntKind.wrap_i64]; omega
      have ek : IntKind.i64.wrap ((i : Int) + 1 - 1) = (i : Int) := by rw [IntKind.wrap_i64]; omega
      have b0 : (0 : Int) ≤ (i : Int) := by omega
      have b1 : (i : Int) < (T.length : Int) := by omega
      have HN := Hd hne
      have HO := Hd hto
      have nb : gg ≠ b := by omega
      have HT := Hd hti
      clear ht htk hr g hne hti hto
      have ek2 : IntKind.i64.wrap (i : Int) = (i : Int) := by rw [IntKind.wrap_i64]; omega
      go_wp2_with fail
      refine HS.out.mono ?_
      rintro e W2 ⟨rfl, hb⟩
      have d1 := later' hb c1
      have d0 := later' hb c0
      have hP2 := HX.out.2.1.later hb
      have hD := HX.out.2.2.below hb
      have x0 := later' hb HT.out.1
      have x1 := later' hb HT.out.2.1
      have x2 := later' hb HT.out.2.2.1
      have x3 := later' hb HT.out.2.2.2.1
      have x4 := later' hb HT.out.2.2.2.2
      have y1 := hP2.z 1
      have H2 := Hd (Ai (onB' HX.out.1 hb) (hP2.next d1 HN.out))
      have hgs := set_grown W2 b 1 (.int .i64 ((i : Int) + 1))
      have HD := Hd (hD.grown hgs (by omega))
      have e0 := (at_oth W2 b 1 0 (.int .i64 ((i : Int) + 1)) (by decide)).trans d0
      have e1 := at_sam (.int .i64 ((i : Int) + 1)) d1
      replace x0 := hgs.cell x0 (by simpa using nb)
      replace x1 := hgs.cell x1 (by simpa using nb)
      replace x2 := hgs.cell x2 (by simpa using nb)
      replace x3 := hgs.cell x3 (by simpa using nb)
      replace x4 := hgs.cell x4 (by simpa using nb)
      have HG := Hd (Gt (grown_of (b := b) H2.out.1) hgs)
      clear hb hD hP2 HS HX c0 c1 c2 c3 hgs
      go_wp2_with fail
      generalize (W2.setCell ⟨b, 1, none⟩ (.int .i64 ((i : Int) + 1))) = W3 at *
      clear d0 d1 y1
      have d0 : W3.cell? ⟨w.heap.size, 0, none⟩ = some _ := HD.out.1 0 _ rfl
      have z0 := HD.out.2 0
      have d1 : W3.cell? ⟨w.heap.size, 1, none⟩ = some _ := HD.out.1 1 _ rfl
      have z1 := HD.out.2 1
      have d2 : W3.cell? ⟨w.heap.size, 2, none⟩ = some _ := HD.out.1 2 _ rfl
      have z2 := HD.out.2 2
      have d3 : W3.cell? ⟨w.heap.size, 3, none⟩ = some _ := HD.out.1 3 _ rfl
      have z3 := HD.out.2 3
      have d4 : W3.cell? ⟨w.heap.size, 4, none⟩ = some _ := HD.out.1 4 _ rfl
      have z4 := HD.out.2 4
      go_still_tail 11, (by kernel_rfl)
      change wpList _ _ _ _ _ W3.drew
      have D0 : W3.drew.cell? ⟨w.heap.size, 0, none⟩ = some (.int .i64 0) := d0
      have D1 : W3.drew.cell? ⟨w.heap.size, 1, none⟩ = some (.string ⟨#[]⟩) := d1
      have D2 : W3.drew.cell? ⟨w.heap.size, 2, none⟩ = some (.bool false) := d2
      have D3 : W3.drew.cell? ⟨w.heap.size, 3, none⟩ = some (.int .u64 0) := d3
      have D4 : W3.drew.cell? ⟨w.heap.size, 4, none⟩ = some (.int .i64 0) := d4
      have Z0 : W3.drew.frozen? ⟨w.heap.size, 0, none⟩ = false := z0
      have Z1 : W3.drew.frozen? ⟨w.heap.size, 1, none⟩ = false := z1
      have Z2 : W3.drew.frozen? ⟨w.heap.size, 2, none⟩ = false := z2
      have Z3 : W3.drew.frozen? ⟨w.heap.size, 3, none⟩ = false := z3
      have Z4 : W3.drew.frozen? ⟨w.heap.size, 4, none⟩ = false := z4
      have HG4 := Hd (Gt HG.out (grown_of (b := b) ((Below.refl W3.heap.size W3).drew)))
      have HP4 := Hd (H2.out.2.later ((Below.refl W3.heap.size W3).drew))
      clear d0 d1 d2 d3 d4 z0 z1 z2 z3 z4 e0 e1 x0 x1 x2 x3 x4
      generalize W3.drew = W4 at *
      go_wp2_with fail
      obtain ⟨v0, v1, v2, v3, v4⟩ := set5 D0 D1 D2 D3 D4 (.int .i64 y.1.k) (.string (tx y.1.t)) (.bool y.1.f) (.int .u64 y.1.x) (.int .i64 y.2)
      refine bodyPost_ret (v := .agg #[.int .i64 y.1.k, .string (tx y.1.t), .bool y.1.f, .int .u64 y.1.x, .int .i64 y.2]) (by simp [results, Tryz.results99, go_sem, v0, v1, v2, v3, v4]) rfl ?_
      rw [HO.out]
      exact ⟨rfl, HP4.out.over5 (p := w.heap.size) hlt _ _ _ _ _, grown_new5 HG4.out Nr _ _ _ _ _⟩
    · have f1 : (kindL s.r == k) = false := by simp [g]
      have HO := Hd (show tokD (lastOf 1 T) k s = (tokO [], s.bad (lastOf 1 T) 3) from if_neg (fun h => g h.2))
      clear ht hr g
      go_wp2_with fail
      refine HS.out.mono ?_
      rintro e W2 ⟨rfl, hb⟩
      have HF := Hd (dfault_any b T s 3 W2 (HX.out.2.1.later hb))
      have H2 := Hd (Ai (onB' HX.out.1 hb) (HX.out.2.2.below hb))
      clear hb HS HX c0 c1 c2 c3
      go_wp2_with fail
      refine HF.out.mono ?_
      rintro e W3 ⟨rfl, h3, hg3⟩
      have HD := Hd (H2.out.2.grown hg3 (by omega))
      have HE := Hd (Ai h3 (Gt (grown_of (b := b) H2.out.1) hg3))
      clear h3 hg3 HF H2
      have d0 : W3.cell? ⟨w.heap.size, 0, none⟩ = some _ := HD.out.1 0 _ rfl
      have z0 := HD.out.2 0
      have d1 : W3.cell? ⟨w.heap.size, 1, none⟩ = some _ := HD.out.1 1 _ rfl
      have z1 := HD.out.2 1
      have d2 : W3.cell? ⟨w.heap.size, 2, none⟩ = some _ := HD.out.1 2 _ rfl
      have z2 := HD.out.2 2
      have d3 : W3.cell? ⟨w.heap.size, 3, none⟩ = some _ := HD.out.1 3 _ rfl
      have z3 := HD.out.2 3
      have d4 : W3.cell? ⟨w.heap.size, 4, none⟩ = some _ := HD.out.1 4 _ rfl
      have z4 := HD.out.2 4
      go_wp2_with fail
      obtain ⟨v0, v1, v2, v3, v4⟩ := set5 d0 d1 d2 d3 d4 (.int .i64 0) (.string ⟨#[]⟩) (.bool false) (.int .u64 0) (.int .i64 0)
      refine bodyPost_ret (v := .agg #[.int .i64 0, .string ⟨#[]⟩, .bool false, .int .u64 0, .int .i64 0]) (by simp [results, Tryz.results99, go_sem, v0, v1, v2, v3, v4]) rfl ?_
      rw [HO.out]
      exact ⟨rfl, HE.out.1.over5 hlt _ _ _ _ _, grown_new5 HE.out.2 Nr _ _ _ _ _⟩
  · have f0 : (s.e == 0) = false := by simp [ge]
    have HO := Hd (show tokD (lastOf 1 T) k s = (tokO [], s.bad (lastOf 1 T) 3) from if_neg (fun h => ge h.1))
    have HF := Hd (dfault_any b T s 3 W HX.out.2.1)
    have H2 := Hd HX.out.2.2
    have H1 := Hd HX.out.1
    clear ht hr HS HX
    go_wp2_with fail
    refine HF.out.mono ?_
    rintro e W3 ⟨rfl, h3, hg3⟩
    have HD := Hd (H2.out.grown hg3 (by omega))
    have HE := Hd (Ai h3 (Gt (grown_of (b := b) H1.out) hg3))
    clear h3 hg3 HF H2 c0 c1 c2 c3
    have d0 : W3.cell? ⟨w.heap.size, 0, none⟩ = some _ := HD.out.1 0 _ rfl
    have z0 := HD.out.2 0
    have d1 : W3.cell? ⟨w.heap.size, 1, none⟩ = some _ := HD.out.1 1 _ rfl
    have z1 := HD.out.2 1
    have d2 : W3.cell? ⟨w.heap.size, 2, none⟩ = some _ := HD.out.1 2 _ rfl
    have z2 := HD.out.2 2
    have d3 : W3.cell? ⟨w.heap.size, 3, none⟩ = some _ := HD.out.1 3 _ rfl
    have z3 := HD.out.2 3
    have d4 : W3.cell? ⟨w.heap.size, 4, none⟩ = some _ := HD.out.1 4 _ rfl
    have z4 := HD.out.2 4
    go_wp2_with fail
    obtain ⟨v0, v1, v2, v3, v4⟩ := set5 d0 d1 d2 d3 d4 (.int .i64 0) (.string ⟨#[]⟩) (.bool false) (.int .u64 0) (.int .i64 0)
    refine bodyPost_ret (v := .agg #[.int .i64 0, .string ⟨#[]⟩, .bool false, .int .u64 0, .int .i64 0]) (by simp [results, Tryz.results99, go_sem, v0, v1, v2, v3, v4]) rfl ?_
    rw [HO.out]
    exact ⟨rfl, HE.out.1.over5 hlt _ _ _ _ _, grown_new5 HE.out.2 Nr _ _ _ _ _⟩
end Go.Proofs.YthehgcmhcioffaaGreatDoor
