import Derived.Test.YtdjcdecbmeickaaDoorRows
import Derived.ChangeSame
import Derived.ChangeVars
import Derived.JoinedOf
import Derived.RowKit
import Derived.RowKitTokens
import Derived.LaidLaws
import Derived.LaidHandle
import Derived.Stop.Joined
import Derived.Test.YtdjcdecbmeickaaDoorMg9
import Derived.Test.YtdjcdecbmeickaaDoorMg19
namespace Go.Proofs.YtdjcdecbmeickaaDoor
set_option maxHeartbeats 64000000
set_option maxRecDepth 100000
open Go.RowKit Go.Lib
def DocV (lo : Nat) (o : Out Md) (e : Ending) (w' : World) : Prop :=
  match o with
  | .ok md _ _ => ∃ vd vb B cs, e = .returned (.tuple #[.agg #[vd, vb], .int .i64 0, .int .i64 0]) ∧ lo ≤ B ∧ w'.ownsRow B 36 2 vd md.1.length (declV md.1) ∧ w'.ownsRow B 48 10 vb md.2.length cs ∧ BndsAt w' (fun g => B ≤ g ∧ some g ≠ vb.ownBlock ∧ some g ≠ vd.ownBlock) md.2 cs
  | .bad er ln => er ≠ 0 ∧ e = .returned (.tuple #[.agg #[.slice none 0 0, .slice none 0 0], .int .i64 er, .int .i64 ln])
theorem doc_shape {lo : Nat} {l : List UInt8} {e : Ending} {w' : World} (h : ParseV lo (lexL l) e w') : DocV lo (modL l) e w' := by
  unfold modL
  cases hR : lexL l with
  | bad k line => rw [hR] at h; exact ⟨lexL_bad hR, h⟩
  | good T =>
    rw [hR] at h
    have hs := parse_sim (lexL_tvs hR)
    obtain ⟨vd, vb, he, hv⟩ := h
    show DocV lo (parseO T) e w'
    cases ho : parseO T with
    | ok md a b =>
      rw [ho] at hs
      obtain ⟨hd, -, -⟩ := hs
      rw [hd] at he hv
      rcases hv with ⟨h0, -⟩ | ⟨-, B, hB, h1, cs, h2, h3⟩
      · exact absurd rfl h0
      · exact ⟨vd, vb, B, cs, he, hB, h1, h2, h3⟩
    | bad er ln =>
      rw [ho] at hs
      obtain ⟨h0, h1, h2⟩ := hs
      rcases hv with ⟨-, rfl, rfl⟩ | ⟨h3, -⟩
      · rw [h1, h2, if_neg h0] at he
        exact ⟨h0, he⟩
      · exact absurd (h1.symm.trans h3) h0
def Told (o : Out Md) (e : Ending) (w' : World) : Prop :=
  match o with
  | .ok md _ _ => ∃ ad cd ab cb, e = .returned (.tuple #[.agg #[.slice ad md.1.length cd, .slice ab md.2.length cb], .int .i64 0, .int .i64 0]) ∧ ModAt w' (fun g => g < w'.heap.size) md ad cd ab cb
  | .bad er ln => er ≠ 0 ∧ e = .returned (.tuple #[.agg #[.slice none 0 0, .slice none 0 0], .int .i64 er, .int .i64 ln])
theorem told_any (s : ByteArray) (hs : s.size ≤ 100000) (w : World) : Calls Tryd.prog 10 #[.string s] w fun e w' => Told (modL s.data.toList) e w' ∧ Below w.heap.size w w' := by
  refine (dparse_any s hs w).mono fun e w' hh => ⟨?_, hh.1⟩
  have h := doc_shape hh.2
  cases ho : modL s.data.toList with
  | bad er ln => rw [ho] at h; exact h
  | ok md a b =>
    rw [ho] at h
    obtain ⟨vd, vb, B, cs, rfl, -, h1, h2, h3⟩ := h
    obtain ⟨ad, cd, rfl, -⟩ := own_shape h1
    obtain ⟨ab, cb, rfl, -⟩ := own_shape h2
    exact ⟨ad, cd, ab, cb, rfl, (RowAt.of (K := fun _ => True) h1 (fun _ _ => trivial)).low Br, cs, (RowAt.of (K := fun _ => True) h2 (fun _ _ => trivial)).low Br, h3.move fun g _ lt => ⟨lt, rfl⟩⟩
theorem modL_ok {l : List UInt8} (hl : l.length ≤ 100000) {md : Md} {a : Int} {b : List Tok} (h : modL l = .ok md a b) : MdOk md ∧ sdM md = scM md ∧ FoOk (scM md) := by
  unfold modL at h
  cases hR : lexL l with
  | bad k line => rw [hR] at h; cases h
  | good T =>
    rw [hR] at h
    obtain ⟨-, h2, h3⟩ := lexL_own hR
    have hv := lexL_tvs hR
    have hw := parse_wf hv (by omega) h
    have ht := parse_wt h
    have hs := parse_scope hv (by omega) h
    unfold wtM at ht
    rw [sumN_nB2] at ht
    exact ⟨⟨hw.1, hw.2, by omega⟩, hs⟩
def FoLen (o : Fo) : Prop := ∀ e n, o = some (e, n) → n.length ≤ 100000
theorem FoLen.or {a b : Fo} (ha : FoLen a) (hb : FoLen b) : FoLen (a.or b) := by
  cases a with
  | none => simpa using hb
  | some x => intro e n h; exact ha e n (by simpa using h)
theorem hasF_len {l : List Nm} {n : Nm} (h : n.length ≤ 100000) : FoLen (hasF l n) := by
  intro e m he
  unfold hasF at he
  split at he
  · cases he
  · cases he; exact h
theorem twF_len {l : List Nm} (h : ∀ x, x ∈ l → x.length ≤ 100000) : FoLen (twF l) := by
  intro e m he
  unfold twF at he
  obtain ⟨x, hx, hy⟩ := Option.map_eq_some_iff.1 he
  cases hy
  exact h _ (twiceL_mem _ _ _ hx)
theorem none_len : FoLen none := fun _ _ h => by cases h
theorem bNames_lens {bs : List (Nm × List Nm × Ex)} (h : wfBs bs) : ∀ x, x ∈ bNames bs → x.length ≤ 100000 := fun x hx => (bNames_ok h x hx).2
mutual
theorem scE_len {cs : List Nm} : ∀ (e : Ex) (sc : List Nm), wfE e → FoLen (scE cs sc e)
  | .mk k n f x ps ks bs al, sc, h => by
    unfold wfE at h
    obtain ⟨h1, h2, h3, h4, h5, h6, h7, -⟩ := h
    unfold scE
    split
    · rename_i g; exact hasF_len (h3 (Or.inl g)).2
    split
    · rename_i g; exact (hasF_len (h3 (Or.inr (Or.inl g))).2).or (scEs_len ks sc h5)
    split
    · exact (twF_len (bNames_lens h6)).or ((scBs_len bs _ h6).or (scEs_len ks _ h5))
    split
    · exact (scEs_len ks sc h5).or (scAs_len al sc h7)
    split
    · exact (twF_len (nms_len h4)).or (scEs_len ks _ h5)
    · exact scEs_len ks sc h5
theorem scEs_len {cs : List Nm} : ∀ (l : List Ex) (sc : List Nm), wfEs l → FoLen (scEs cs sc l)
  | [], _, _ => by unfold scEs; exact none_len
  | e :: r, sc, h => by
    unfold wfEs at h
    unfold scEs
    exact (scE_len e sc h.1).or (scEs_len r sc h.2)
theorem scBs_len {cs : List Nm} : ∀ (l : List (Nm × List Nm × Ex)) (sc : List Nm), wfBs l → FoLen (scBs cs sc l)
  | [], _, _ => by unfold scBs; exact none_len
  | (n, ps, e) :: r, sc, h => by
    unfold wfBs at h
    unfold scBs
    exact ((twF_len (nms_len h.1.2.1)).or (scE_len e _ h.1.2.2)).or (scBs_len r sc h.2)
theorem scAs_len {cs : List Nm} : ∀ (l : List (Int × Nm × Bool × Int × List Nm × Ex)) (sc : List Nm), wfAs l → FoLen (scAs cs sc l)
  | [], _, _ => by unfold scAs; exact none_len
  | (k, n, f, x, ns, e) :: r, sc, h => by
    unfold wfAs at h
    unfold scAs
    refine FoLen.or ?_ (scAs_len r sc h.2)
    split
    · rename_i g; exact (hasF_len (h.1.1 (Or.inl g)).2).or ((twF_len (nms_len h.1.2.1.1)).or (scE_len e _ h.1.2.2))
    split
    · exact scE_len e _ h.1.2.2
    · exact scE_len e _ h.1.2.2
end
theorem MdOk.len {m : Md} (hm : MdOk m) : FoLen (scM m) := by
  have hc : ∀ x, x ∈ conNames m → x.length ≤ 100000 := fun x hx => by
    obtain ⟨d, hd, rfl⟩ := List.mem_map.1 hx
    rcases List.mem_append.1 hd with hd | hd
    · simp only [four, List.mem_cons, List.not_mem_nil, or_false] at hd
      rcases hd with rfl | rfl | rfl | rfl <;> decide
    · exact (hm.wd d hd).2
  refine (twF_len hc).or ((twF_len (bNames_lens (wfBs_of hm.wb))).or (FoLen.or ?_ (scBs_len _ _ (wfBs_of hm.wb))))
  split
  · exact none_len
  · intro e n he; cases he; decide
theorem check_any (m : Md) (hm : MdOk m) (ac : Option Addr) (cc : Nat) (ab : Option Addr) (cb : Nat) (K : Nat → Prop) (w : World) (h : ModAt w K m ac cc ab cb) (hE : ErrT w) :
    Calls Tryd.prog 11 #[.agg #[.slice ac m.1.length cc, .slice ab m.2.length cb]] w fun e w' => e = .returned (.tuple #[.int .i64 (stN (scM m)).1, .string (tx (stN (scM m)).2)]) ∧ Below w.heap.size w w' :=
  pcheck_any m hm ac cc ab cb K w h hE hm.len
def exText : ByteArray := ⟨#[109, 97, 105, 110, 32, 61, 32, 92, 120, 32, 45, 62, 32, 121, 59]⟩
def exMod : Md := ([], [([109, 97, 105, 110], [], .mk 8 [] false 0 [[120]] [.leaf 1 [121]] [] [])])
theorem ex_mod : modL exText.data.toList = .ok exMod 1 [] := by kernel_rfl
theorem ex_fault : scM exMod = some (4, [121]) := by decide +kernel
theorem sawake_any (w : World) (hE : ErrT w) :
    Calls Tryd.prog 9 #[] w fun e w' => e = .returned (.bool true) ∧ Below w.heap.size w w' := by
  have HP := Hd (told_any exText (by decide +kernel) w)
  have HE := Hd hE
  rw [ex_mod] at HP
  unfold exText at HP
  clear hE
  go_enter Tryd.func9, Tryd.ntmps9
  go_wp2_with fail
  refine HP.out.mono ?_
  rintro e w2 ⟨⟨ad, cd, ab, cb, rfl, hm⟩, hb⟩
  have hx := (Below.refl w2.heap.size w2).alloc Nr (.cells #[.slice ad exMod.1.length cd, .slice ab exMod.2.length cb] 26)
  have hmo := (modL_ok (by decide +kernel) ex_mod).1
  have HC := Hd (check_any exMod hmo ad cd ab cb _ (w2.alloc (.cells #[.slice ad exMod.1.length cd, .slice ab exMod.2.length cb] 26)) (hm.below hx) (HE.out.below (onB' hb hx)))
  rw [ex_fault] at HC
  have HM := Hd (Ai (hm.below hx) (Ai (onB' hb hx) (BoxW.alloc w2 #[.slice ad exMod.1.length cd, .slice ab exMod.2.length cb] 26)))
  have HO := Hd hmo
  clear hm hb HP hx hmo
  go_upto_region 2 with fail
  generalize (w2.alloc (.cells #[.slice ad exMod.1.length cd, .slice ab exMod.2.length cb] 26)) = W at *
  have d0 : W.cell? ⟨w2.heap.size, 0, none⟩ = some (.slice ad exMod.1.length cd) := HM.out.2.2.1 0 _ rfl
  have d1 : W.cell? ⟨w2.heap.size, 1, none⟩ = some (.slice ab exMod.2.length cb) := HM.out.2.2.1 1 _ rfl
  go_wp2_with fail
  refine HC.out.mono ?_
  rintro e w3 ⟨rfl, hb3⟩
  have HB3 := Hd hb3
  have e0 := later' hb3 d0
  have e1 := later' hb3 d1
  have HCo := Hd (pcons_any exMod.1 (fun d hd => (HO.out.wd d hd).2) ad cd (.slice ab exMod.2.length cb) _ w3 (by decide) (HM.out.1.below hb3).dr ⟨_, _, _, rfl⟩)
  have hf : stN (some (4, [121])) = (4, [121]) := rfl
  have hy : tx [121] = ⟨#[121]⟩ := rfl
  rw [hf, hy]
  clear hb3 HC d0 d1
  go_wp2_with fail
  refine HCo.out.mono ?_
  rintro e w4 ⟨⟨v, rfl, ho⟩, hb4⟩
  rw [show 4 + exMod.1.length = 4 from rfl] at ho
  obtain ⟨a4, c4, rfl, -⟩ := own_shape ho
  have HB4 := Hd (onB' HM.out.2.1 (onB' HB3.out hb4))
  clear hb4 ho HCo
  go_wp2_with fail
  go_ret
  exact ⟨rfl, HB4.out⟩
theorem decl_refl (d : Nat) (s : ByteArray) (x : Int) (w : World) : (Op.equalIn (d + 2) 36 (.agg #[.string s, .int .i64 x]) (.agg #[.string s, .int .i64 x])).run Tryd.prog w = .ok true w := by
  have hf : Tryd.prog.underlying 36 = some (.struct (Tryd.prog.fieldsOf 36)) := by kernel_rfl
  have q1 : ∀ (w : World), (Op.equalIn (d + 1) 9 (.string s) (.string s)).run Tryd.prog w = .ok true w := fun w => by
    simp [Op.equalIn, run_underlying Tryd.underlying9, go_sem]
    first | exact beq_self_eq_true _ | (show (s.data == s.data) = true; simp)
  have q2 : ∀ (w : World), (Op.equalIn (d + 1) 3 (.int .i64 x) (.int .i64 x)).run Tryd.prog w = .ok true w := fun w => by rw [run_equalIn_int w d 3 .i64 .i64 x x Tryd.underlying3]; simp
  rw [run_equalIn_struct w (d + 1) 36 _ _ hf (by kernel_rfl)]
  generalize hE : Op.equalIn (d + 1) 9 = E at *
  generalize hF : Op.equalIn (d + 1) 3 = F at *
  have p0 : ∀ (w : World), (part 9 #[.string s, .int .i64 x] 0).run Tryd.prog w = .ok (.string s) w := by intro w; simp [part, Tryd.isAgg9, go_sem]
  have p1 : ∀ (w : World), (part 3 #[.string s, .int .i64 x] 1).run Tryd.prog w = .ok (.int .i64 x) w := by intro w; simp [part, Tryd.isAgg3, go_sem]
  have hl : (Tryd.prog.fieldsOf 36).toList = [⟨"Name", 9, 0, false, "", "", 0⟩, ⟨"Arity", 3, 1, false, "", "", 16⟩] := by kernel_rfl
  rw [hl]
  simp [Op.eqFields, hE, hF, p0, p1, q1, q2]
theorem decl_same (s : ByteArray) (x : Int) (w : World) : (binOp .neq 36 (.agg #[.string s, .int .i64 x]) (.agg #[.string s, .int .i64 x])).run Tryd.prog w = .ok (.bool false) w := by
  have he : (Op.equal 36 (.agg #[.string s, .int .i64 x]) (.agg #[.string s, .int .i64 x])).run Tryd.prog w = .ok true w := decl_refl 9998 s x w
  generalize hq : Op.equal = E at he
  simp [binOp, hq, he]
theorem stells_walk (s : ByteArray) (w : World) (hE : ErrT w) :
    Calls Tryd.prog 3 #[.string s] w fun e w' => e = .returned (.bool true) ∧ Below w.heap.size w w' := by
  have HE0 := Hd hE
  clear hE
  go_enter Tryd.func3, Tryd.ntmps3
  go_wp2_with fail
  refine (sawake_any w HE0.out).mono ?_
  rintro e w1 ⟨rfl, hb⟩
  have H1 := Hd (Ai hb (HE0.out.below hb))
  clear hb
  by_cases g3 : 3000 < s.size
  · have f3 : decide ((3000 : Int) < (s.size : Int)) = true := decide_eq_true (by omega)
    go_wp2_with fail
    go_ret
    exact ⟨rfl, H1.out.1⟩
  have f3 : decide ((3000 : Int) < (s.size : Int)) = false := decide_eq_false (by omega)
  have HP := Hd (told_any s (by omega) w1)
  have hsl : s.data.toList.length ≤ 100000 := by
    have := size_eq s
    omega
  go_wp2_with fail
  clear f3
  refine HP.out.mono ?_
  rintro e w2 ⟨hv, hb2⟩
  have HV := Hd (Ai hv (onB' H1.out.1 hb2))
  clear hb2 hv HP
  cases ho : modL s.data.toList with
  | bad er ln =>
    have hv := HV.out.1
    rw [ho] at hv
    obtain ⟨hne, rfl⟩ := hv
    have f4 : (er != 0) = true := by simpa using hne
    have hx := Hd (onB' HV.out.2 ((Below.refl w2.heap.size w2).alloc Nr (.cells #[.slice none 0 0, .slice none 0 0] 26)))
    go_wp2_with fail
    go_ret
    exact ⟨rfl, hx.out⟩
  | ok md la ra =>
    have hv := HV.out.1
    rw [ho] at hv
    obtain ⟨ad, cd, ab, cb, rfl, hm⟩ := hv
    have hok := modL_ok hsl ho
    have hx := (Below.refl w2.heap.size w2).alloc Nr (.cells #[.slice ad md.1.length cd, .slice ab md.2.length cb] 26)
    have hw1x := HV.out.2
    have HEW := Hd (show ErrT (w2.alloc (.cells #[.slice ad md.1.length cd, .slice ab md.2.length cb] 26)) from HE0.out.below (onB' HV.out.2 hx))
    have HX := Hd (Ai (onB' HV.out.2 hx) (Ai (BoxW.alloc w2 #[.slice ad md.1.length cd, .slice ab md.2.length cb] 26) (hm.below hx)))
    have HK := Hd hok
    clear hm hx hok hsl
    go_upto_region 7 with fail
    generalize (w2.alloc (.cells #[.slice ad md.1.length cd, .slice ab md.2.length cb] 26)) = W at *
    clear hw1x
    have HC := Hd (check_any md HK.out.1 ad cd ab cb _ W HX.out.2.2 HEW.out)
    go_wp2_with fail
    refine HC.out.mono ?_
    rintro e w3 ⟨rfl, hb3⟩
    have H3 := Hd (Ai (HX.out.2.1.below hb3) (Ai (HX.out.2.2.below hb3) (onB' HX.out.1 hb3)))
    clear hb3 HC
    have x0 : w3.cell? ⟨w2.heap.size, 0, none⟩ = some (.slice ad md.1.length cd) := H3.out.1.1 0 _ rfl
    have x1 : w3.cell? ⟨w2.heap.size, 1, none⟩ = some (.slice ab md.2.length cb) := H3.out.1.1 1 _ rfl
    have HD := Hd (dcheck_any md HK.out.1 ad cd ab cb _ w3 H3.out.2.1)
    rw [HK.out.2.1] at HD
    go_wp2_with fail
    refine HD.out.mono ?_
    rintro e w4 ⟨rfl, hb4⟩
    have H4 := Hd (Ai (H3.out.1.below hb4) (Ai (H3.out.2.1.below hb4) (onB' H3.out.2.2 hb4)))
    clear hb4 HD H3 x0 x1
    have d0 : w4.cell? ⟨w2.heap.size, 0, none⟩ = some (.slice ad md.1.length cd) := H4.out.1.1 0 _ rfl
    have d1 : w4.cell? ⟨w2.heap.size, 1, none⟩ = some (.slice ab md.2.length cb) := H4.out.1.1 1 _ rfl
    generalize (stN (scM md)).1 = er at *
    generalize (stN (scM md)).2 = nn at *
    have hwt := HK.out.1.wt
    have HPc := Hd (fun (V : World) (hb : Below w4.heap.size w4 V) => pcons_any md.1 (fun d hd => (HK.out.1.wd d hd).2) ad cd (.slice ab md.2.length cb) _ V (by omega) (H4.out.2.1.below hb).dr ⟨_, _, _, rfl⟩)
    have HDc := Hd (fun (V : World) (hb : Below w4.heap.size w4 V) => scons_any md.1 (.slice ad md.1.length cd) (.slice ab md.2.length cb) _ V (by omega) (H4.out.2.1.below hb).dr)
    obtain ⟨ds, hds⟩ : ∃ ds : List (Nm × Int), ds = four ++ md.1 := ⟨_, rfl⟩
    have HDL := Hd (show 4 + md.1.length = ds.length ∧ four ++ md.1 = ds from ⟨by rw [hds]; simp [four]; omega, hds.symm⟩)
    clear hds
    go_wp2_with fail
    go_region_held3 (fun W' => W'.cell? ⟨w2.heap.size, 0, none⟩ = some (.slice ad md.1.length cd) ∧ W'.cell? ⟨w2.heap.size, 1, none⟩ = some (.slice ab md.2.length cb)) (first | exact ⟨k0, k1⟩ | exact ⟨e0, e1⟩ | exact ⟨d0, d1⟩ | go_keep) (first
      | (go_at_call 13
         refine (HPc.out _ ?hb).mono ?_
         case hb => exact Br.drew
         rintro e w5 ⟨⟨v5, rfl, ho5⟩, hb5⟩
         rw [HDL.out.1, HDL.out.2] at ho5
         obtain ⟨a5, c5, rfl, -⟩ := own_shape ho5
         have H5 : Below w4.heap.size w4 w5 := onB' (Below.refl w4.heap.size w4).drew hb5
         have e0 := later' H5 d0
         have e1 := later' H5 d1)
      | (go_at_call 14
         refine (HDc.out _ H5).mono ?_
         rintro e w6 ⟨⟨v6, rfl, ho6⟩, hb6⟩
         rw [HDL.out.1, HDL.out.2] at ho6
         obtain ⟨a6, c6, rfl, -⟩ := own_shape ho6
         have H6 := onB' H5 hb6
         have k0 := later' hb6 e0
         have k1 := later' hb6 e1))
    have HR5 := Hd (show RowAt w6 (fun _ => True) 36 2 (.slice a5 ds.length c5) ds.length (declV ds) from (RowAt.of ho5 (fun _ _ => trivial)).move fun g _ lt => ⟨trivial, hb6.block g lt⟩)
    have HR6 := Hd (show RowAt w6 (fun _ => True) 36 2 (.slice a6 ds.length c6) ds.length (declV ds) from RowAt.of ho6 (fun _ _ => trivial))
    have HE6 := Hd (onB' H4.out.2.2 H6)
    have hdl : ds.length ≤ 100000 := by have := HDL.out.1; omega
    have hfz : (er != er) = false := by simp
    clear ho5 ho6 hb5 hb6 H5 H6 e0 e1 k0 k1 d0 d1 HPc HDc H4
    go_wp2_with fail
    clear hfz
    go_loopw [12] (fun s wr => ∃ j : Nat, j ≤ ds.length ∧ s = .int .i64 j ∧ Below w6.heap.size w6 wr) (fun s _ => ds.length - (RowKit.intOf s).toNat)
    case atStart => exact ⟨0, Nat.zero_le _, rfl, Below.refl _ _⟩
    case round =>
      obtain ⟨j, hj, rfl, hbr⟩ := hrel
      have HR := Hd hbr
      by_cases gj : j < ds.length
      · have gj' : (j : Int) < (ds.length : Int) := by omega
        obtain ⟨g1, o1, ea1, k1, m1', -, ht1⟩ := HR5.out.at (by omega)
        obtain ⟨g2, o2, ea2, k2, m2', -, ht2⟩ := HR6.out.at (by omega)
        subst ea1
        subst ea2
        obtain ⟨z0, z1⟩ := declV_here gj
        have p0 : wr.cell? ⟨g1, o1 + j * 2, none⟩ = some (.string (tx ds[j].1)) := later' hbr (ht1 _ _ z0)
        have p1 : wr.cell? ⟨g1, o1 + j * 2 + 1, none⟩ = some (.int .i64 ds[j].2) := by rw [Nat.add_assoc]; exact later' hbr (ht1 _ _ z1)
        have q0 : wr.cell? ⟨g2, o2 + j * 2, none⟩ = some (.string (tx ds[j].1)) := later' hbr (ht2 _ _ z0)
        have q1 : wr.cell? ⟨g2, o2 + j * 2 + 1, none⟩ = some (.int .i64 ds[j].2) := by rw [Nat.add_assoc]; exact later' hbr (ht2 _ _ z1)
        clear ht1 ht2 z0 z1 hbr
        generalize ds[j].1 = nm at *
        generalize ds[j].2 = xx at *
        have hds := fun W => decl_same (tx nm) xx W
        have ej : IntKind.i64.wrap ((j : Int) + 1) = (j : Int) + 1 := by rw [IntKind.wrap_i64]; omega
        have b0 : (0 : Int) ≤ (j : Int) := by omega
        go_wp2_with fail
        go_quiet (fail)
        go_wp2_with fail
        exact ⟨⟨j + 1, by omega, by go_num, below_dN HR.out _⟩, by simp [RowKit.intOf]; omega⟩
      · obtain rfl : j = ds.length := by omega
        clear hbr
        go_wp2_with fail
        go_ret
        exact ⟨rfl, onB' HE6.out HR.out⟩
end Go.Proofs.YtdjcdecbmeickaaDoor
namespace Go.Proofs.YtdjcdecbmeickaaDoor
open Go.ChangeShapes Go.WideShapes Go.RowKit Go.ChangeAt Go.Stop Go.Extern.Stop Go.Extern
theorem own : ownKnob Tryd.prog.godebug = none := by kernel_rfl
theorem et_at : Tryd.prog.globalNamed "errors.errorType" = some 0 := by kernel_rfl
theorem rt_at : (Tryd.prog.cutTypes.find? (·.1 == "internal/reflectlite.rtype")).map (·.2) = some 135 := by kernel_rfl
theorem err_row : ((List.range Tryd.prog.types.size).filter fun t => Tryd.prog.rowNamed t [101, 114, 114, 111, 114]) = [62] := by kernel_rfl
theorem errT_of_laid {W : World} (h : laidMetH Tryd.prog Rows.scopeTellsRow.laid W) : ErrT W := by
  have h' : laidMet Tryd.prog [] W ∧ handlesMet Tryd.prog Rows.scopeTellsRow.laid W := h
  obtain ⟨name, u, ty, e1, e2, e3, e4, e5⟩ := h'.2 _ (List.mem_singleton.2 rfl)
  have en : name = [101, 114, 114, 111, 114] := (Oi e1).symm
  subst en
  obtain rfl := Oi (rt_at.symm.trans e2)
  have hm : ty ∈ (List.range Tryd.prog.types.size).filter fun t => Tryd.prog.rowNamed t [101, 114, 114, 111, 114] := List.mem_filter.2 ⟨List.mem_range.2 e3, e4⟩
  rw [err_row] at hm
  obtain rfl := List.mem_singleton.1 hm
  have hh : typeHandle Tryd.prog 62 = .pointer (some ⟨1, 62, none⟩) := by kernel_rfl
  rw [hh] at e5
  simpa [ErrT] using World.var?_cell et_at e5 0
noncomputable def laidWorld (os : Os) : World :=
  let w0 := World.holding Tryd.prog os ⟨#[], #[], []⟩
  { w0 with heap := w0.heap.modify 0 fun
      | .cells _ t frozen => .cells #[.iface 135 (.agg #[.pointer (some ⟨1, 62, none⟩)])] t frozen
      | o => o }
theorem laidWorld_met (os : Os) (args : Array Value) : laidMetH Tryd.prog Rows.scopeTellsRow.laid ((laidWorld os).forCall (fun _ _ => 0) ⟨#[], args, []⟩).memory :=
  laidMetH_of_parts (laidMet_nil _ _) (by kernel_rfl)
end Go.Proofs.YtdjcdecbmeickaaDoor
