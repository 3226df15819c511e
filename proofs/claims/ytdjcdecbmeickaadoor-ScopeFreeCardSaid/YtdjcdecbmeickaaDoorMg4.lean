import Derived.RegionDies
import Derived.Deep.RegionHeldLaw
import Derived.Lib.QuietBelow
import Derived.Test.YtdjcdecbmeickaaDoorMg2
import Derived.Test.YtdjcdecbmeickaaDoorMg3
namespace Go.Proofs.YtdjcdecbmeickaaDoor
set_option maxHeartbeats 64000000
set_option maxRecDepth 100000
open Go.RowKit Go.Lib
theorem RowAt.past {w w' : World} {K : Nat → Prop} {e : TypeId} {size n b : Nat} {v : Value} {xs : List Value} (h : RowAt w K e size v n xs) (hg : w.grownBy w' (some b)) (hK : ∀ g, K g → g ≠ b) : RowAt w' K e size v n xs :=
  h.move fun g hk lt => ⟨hk, hg.block g lt (fun e => hK g hk (Oi e))⟩
theorem or_assoc_f (a b c : Fo) : (a.or b).or c = a.or (b.or c) := by cases a <;> rfl
theorem stwice_any (b : Nat) (st : Fo) (vc : Value) (l : List Nm) (a : Option Addr) (c : Nat) (K : Nat → Prop) (hK : ∀ g, K g → g ≠ b) (w : World) (h : SAt w b st vc) (hr : RowAt w K 9 1 (.slice a l.length c) l.length (namesV l)) : Calls Tryd.prog 22 #[.pointer (some ⟨b, 0, none⟩), .slice a l.length c] w fun e w' => e = .returned (.tuple #[]) ∧ SAt w' b (st.or (twF l)) vc ∧ w.grownBy w' (some b) := by
  have HS := Hd h
  have HO := Hd hr
  have hmx := hr.cap
  unfold maxLen at hmx
  have hcap : l.length ≤ c := by
    obtain ⟨-, ⟨h1, h2⟩ | ⟨g, o, c', cur, h1, -, -, h4, -⟩⟩ := hr
    · obtain ⟨-, q, -⟩ := Value.slice.inj h1; omega
    · obtain ⟨-, -, rfl⟩ := Value.slice.inj h1; exact h4
  clear h hr
  go_enter Tryd.func22, Tryd.ntmps22
  go_wp2_with fail
  go_loopw [4] (fun s2 wr => ∃ j : Nat, j ≤ l.length ∧ s2 = .int .i64 j ∧ SAt wr b (st.or (twF (l.take j))) vc ∧ w.grownBy wr (some b)) (fun s2 _ => l.length - (RowKit.intOf s2).toNat)
  case atStart => exact ⟨0, Nat.zero_le _, rfl, by rw [List.take_zero, show twF [] = none from rfl, or_nil_l]; exact HS.out, grown_of Br⟩
  case round =>
    obtain ⟨j, hj, rfl, hs, hg⟩ := hrel
    have HR := Hd (Ai hs hg)
    have HO2 := Hd (HO.out.past hg hK)
    clear hs hg
    by_cases gj : j < l.length
    · have gj' : (j : Int) < (l.length : Int) := by omega
      have hjc : (j : Int) ≤ (c : Int) := by omega
      obtain ⟨g1, o1, ea1, k1, m1', -, ht1⟩ := HO2.out.at (by omega)
      subst ea1
      have p0 := ht1 j _ (namesV_get gj)
      have HT := Hd (show l.take (j + 1) = l.take j ++ [l[j]] from List.take_succ_eq_append_getElem gj)
      have hz : (l.take j).length = j := by rw [List.length_take]; omega
      have hI : ∀ W, Below wr.heap.size wr W → Calls Tryd.prog 24 #[.slice (some ⟨g1, o1, none⟩) j c, .string (tx l[j])] W fun e w' => e = .returned (.bool (decide (l[j] ∈ l.take j))) ∧ Below W.heap.size W w' := fun W hb => by
        have h := in_any (l.take j) l[j] (some ⟨g1, o1, none⟩) c K W (row_take (HO2.out.move fun g hk lt => ⟨hk, hb.block g lt⟩) hj)
        rwa [hz] at h
      have HI := Hd hI
      clear hI ht1 hz
      generalize l[j] = tk at *
      have ej : IntKind.i64.wrap ((j : Int) + 1) = (j : Int) + 1 := by rw [IntKind.wrap_i64]; omega
      have b0 : (0 : Int) ≤ (j : Int) := by omega
      go_wp2_with fail
      go_region_with (go_at_call 24; refine (HI.out _ (by first | exact Br | exact Br.drew | exact below_dN Br _)).mono ?_; rintro e w1 ⟨rfl, hb⟩; have HB1 := Hd (show Below wr.heap.size wr w1 from ⟨hb.os, hb.tape, hb.output, hb.size, hb.block⟩); clear hb)
      have p1 := later' HB1.out p0
      have HT2 := Hd (show twF (l.take (j + 1)) = (twF (l.take j)).or (if tk ∈ l.take j then some (5, tk) else none) by rw [HT.out, twF_snoc])
      have HS1 := Hd (HR.out.1.later HB1.out)
      have HG1 := Hd (Gt HR.out.2 (grown_of (b := b) HB1.out))
      by_cases g : tk ∈ l.take j
      · rw [decide_eq_true g]
        have HF := Hd (sfault_any b (st.or (twF (l.take j))) vc 5 (by decide) tk w1 HS1.out)
        go_wp2_with fail
        refine HF.out.mono ?_
        rintro e w2 ⟨rfl, hs, hg⟩
        have HE := Hd (Ai hs (Gt HG1.out hg))
        clear hs hg
        go_wp2_with fail
        refine ⟨⟨j + 1, by omega, by go_num, ?_, HE.out.2⟩, by simp [RowKit.intOf]; omega⟩
        rw [HT2.out, if_pos g]
        have h := HE.out.1
        rwa [or_assoc_f] at h
      · rw [decide_eq_false g]
        go_wp2_with fail
        refine ⟨⟨j + 1, by omega, by go_num, ?_, HG1.out⟩, by simp [RowKit.intOf]; omega⟩
        rw [HT2.out, if_neg g, or_nil_l]
        exact HS1.out
    · obtain rfl : j = l.length := by omega
      go_wp2_with fail
      go_end0
      have h := HR.out.1
      rw [List.take_length] at h
      exact ⟨rfl, h, HR.out.2⟩
theorem Kp.past {lo hi : Nat} {W W' : World} {q : Nat} (hg : W.grownBy W' (some q)) (hq : hi ≤ q) (hi' : hi ≤ W.heap.size) : Kp lo hi W W' := fun g _ h2 => hg.block g (by omega) (by simp; omega)
def BndV (lo : Nat) (x : Bnd) (e : Ending) (w : World) : Prop :=
  ∃ vp k n f u vq vk vb va, e = .returned (.agg #[.string (tx x.1), vp, .int .i64 k, .string n, .bool f, .int .u64 u, vq, vk, vb, va]) ∧ RowAt w (fun g => lo ≤ g) 9 1 vp x.2.1.length (namesV x.2.1) ∧ ExAt w (fun g => lo ≤ g) x.2.2 [.int .i64 k, .string n, .bool f, .int .u64 u, vq, vk, vb, va]
def AltV (lo : Nat) (x : Alt) (e : Ending) (w : World) : Prop :=
  ∃ vp k n f u vq vk vb va, e = .returned (.agg #[.int .i64 x.1, .string (tx x.2.1), .bool x.2.2.1, .int .u64 x.2.2.2.1, vp, .int .i64 k, .string n, .bool f, .int .u64 u, vq, vk, vb, va]) ∧ RowAt w (fun g => lo ≤ g) 9 1 vp x.2.2.2.2.1.length (namesV x.2.2.2.2.1) ∧ ExAt w (fun g => lo ≤ g) x.2.2.2.2.2 [.int .i64 k, .string n, .bool f, .int .u64 u, vq, vk, vb, va]
def BndsV (lo : Nat) (xs : List Bnd) (e : Ending) (w : World) : Prop := ∃ v cs, e = .returned v ∧ w.ownsRow lo 48 10 v xs.length cs ∧ BndsAt w (fun g => lo ≤ g) xs cs
def AltsV (lo : Nat) (xs : List Alt) (e : Ending) (w : World) : Prop := ∃ v cs, e = .returned v ∧ w.ownsRow lo 52 13 v xs.length cs ∧ AltsAt w (fun g => lo ≤ g) xs cs
theorem Tryd.info_bind : (Tryd.prog.info? 48).map (fun i => (i.zero, i.size, i.bytes)) = some (some (.agg #[.string ⟨#[]⟩, .slice none 0 0, .int .i64 0, .string ⟨#[]⟩, .bool false, .int .u64 0, .slice none 0 0, .slice none 0 0, .slice none 0 0, .slice none 0 0]), 10, 176) := by kernel_rfl
theorem Tryd.info_alt : (Tryd.prog.info? 52).map (fun i => (i.zero, i.size, i.bytes)) = some (some (.agg #[.int .i64 0, .string ⟨#[]⟩, .bool false, .int .u64 0, .slice none 0 0, .int .i64 0, .string ⟨#[]⟩, .bool false, .int .u64 0, .slice none 0 0, .slice none 0 0, .slice none 0 0, .slice none 0 0]), 13, 200) := by kernel_rfl
theorem BndsAt.snoc {W : World} {K : Nat → Prop} : ∀ {bs : List Bnd} {xs : List Value} {x : Bnd} {vp : Value} {cs : List Value}, BndsAt W K bs xs → RowAt W K 9 1 vp x.2.1.length (namesV x.2.1) → ExAt W K x.2.2 cs → BndsAt W K (bs ++ [x]) (xs ++ (.string (tx x.1) :: vp :: cs))
  | [], _, (n, ps, e), vp, cs, .nil, hp, h => by simpa using BndsAt.cons n ps e [] vp cs [] hp h .nil
  | _ :: bs, _, x, vp, cs, .cons n ps e _ v0 c0 x0 hp0 h0 t0, hp, h => by simpa [List.append_assoc] using BndsAt.cons n ps e _ v0 c0 _ hp0 h0 (t0.snoc hp h)
theorem AltsAt.snoc {W : World} {K : Nat → Prop} : ∀ {bs : List Alt} {xs : List Value} {x : Alt} {vp : Value} {cs : List Value}, AltsAt W K bs xs → RowAt W K 9 1 vp x.2.2.2.2.1.length (namesV x.2.2.2.2.1) → ExAt W K x.2.2.2.2.2 cs → AltsAt W K (bs ++ [x]) (xs ++ (.int .i64 x.1 :: .string (tx x.2.1) :: .bool x.2.2.1 :: .int .u64 x.2.2.2.1 :: vp :: cs))
  | [], _, (k, n, f, u, ps, e), vp, cs, .nil, hp, h => by simpa using AltsAt.cons k n f u ps e [] vp cs [] hp h .nil
  | _ :: bs, _, x, vp, cs, .cons k n f u ps e _ v0 c0 x0 hp0 h0 t0, hp, h => by simpa [List.append_assoc] using AltsAt.cons k n f u ps e _ v0 c0 _ hp0 h0 (t0.snoc hp h)
def arityO : Par Int := fun l r => if shapeL r = sNum then (takeO l r).bind fun u l2 r2 => if u.1.f = true ∨ 24 < u.1.x then refuseO 1 l r else .ok u.1.x l2 r2 else refuseO 3 l r
def declV : List (Nm × Int) → List Value
  | [] => []
  | (n, x) :: ds => .string (tx n) :: .int .i64 x :: declV ds
theorem declV_snoc (ds : List (Nm × Int)) (x : Nm × Int) : declV (ds ++ [x]) = declV ds ++ [.string (tx x.1), .int .i64 x.2] := by
  induction ds with
  | nil => rfl
  | cons y ds ih => simp [declV, ih]
theorem declV_len (ds : List (Nm × Int)) : (declV ds).length = ds.length * 2 := by
  induction ds with
  | nil => rfl
  | cons y ds ih => simp [declV, ih]; omega
theorem declV_app (ds es : List (Nm × Int)) : declV (ds ++ es) = declV ds ++ declV es := by
  induction ds with
  | nil => rfl
  | cons y ds ih => simp [declV, ih]
theorem declV_one (ds : List (Nm × Int)) : ∀ u ∈ declV ds, u.oneCell' = true := by
  induction ds with
  | nil => intro u hu; cases hu
  | cons y ds ih =>
    intro u hu
    simp only [declV, List.mem_cons] at hu
    rcases hu with rfl | rfl | hu
    · rfl
    · rfl
    · exact ih u hu
def DeclsV (lo : Nat) (ds : List (Nm × Int)) (e : Ending) (w : World) : Prop := ∃ v, e = .returned v ∧ w.ownsRow lo 36 2 v ds.length (declV ds)
theorem Tryd.info_decl : (Tryd.prog.info? 36).map (fun i => (i.zero, i.size, i.bytes)) = some (some (.agg #[.string ⟨#[]⟩, .int .i64 0]), 2, 24) := by kernel_rfl
def Onto (w : World) (base : Nat) (e : TypeId) (size : Nat) (v : Value) (n : Nat) (xs : List Value) (ao : Option Addr) (cap : Nat) (w' : World) : Prop :=
  w'.ownsRow base e size (.slice ao n cap) n xs ∧ w.grownBy w' v.ownBlock ∧ ((Value.slice ao n cap).ownBlock = v.ownBlock ∨ (Value.slice ao n cap).ownBlock = some w.heap.size)
theorem run_nil_decl (ty : TypeId) (v : Value) (base n : Nat) (xs : List Value) (c : Nat) (w : World) (h : w.ownsRow base 36 2 v n xs) :
    (Builtin.append_ #[23, 23] ty #[v, .slice none 0 c]).run Tryd.prog w = .ok v w := by
  have hu : Tryd.prog.underlying 23 = some (.slice 36) := Tryd.underlying23
  rcases h.2 with ⟨rfl, rfl⟩ | ⟨g, cap, cur, rfl, _, _, hcap, _⟩
  · simp [Builtin.append_, run_underlying hu, Tryd.sizeOf36, Builtin.firstCells, Builtin.lenOf, go_sem]
  · simp [Builtin.append_, run_underlying hu, Tryd.sizeOf36, Builtin.firstCells, Builtin.lenOf, go_sem, hcap]
theorem run_onto_decl (ty : TypeId) (w : World) (base n : Nat) (v : Value) (xs : List Value) (hown : w.ownsRow base 36 2 v n xs) (b2 m : Nat) (ys : List Value) (x : Value) (hx : w.ownsRow b2 36 2 x m ys) (h1 : ∀ u ∈ ys, u.oneCell' = true) (hb : n + m ≤ 100000) (hbase : base ≤ w.heap.size) :
    ∃ ao cap w', (Builtin.append_ #[23, 23] ty #[v, x]).run Tryd.prog w = .ok (.slice ao (n + m) cap) w' ∧ Onto w base 36 2 v (n + m) (xs ++ ys) ao cap w' := by
  obtain ⟨i0, hi, hz0, hz1, hz2⟩ := info_parts Tryd.info_decl
  obtain ⟨hl, ⟨rfl, rfl⟩ | ⟨g, cap, cur, rfl, h2, h3, h4, h5, h6, h7⟩⟩ := id hx
  · have hy : ys = [] := List.length_eq_zero_iff.1 (by simpa using hl)
    subst hy
    obtain ⟨ao, cap, rfl, hlow⟩ := own_shape hown
    exact ⟨ao, cap, w, run_nil_decl ty _ base n xs 0 w hown, by simpa using hown, ⟨rfl, rfl, rfl, Nat.le_refl _, fun _ _ _ => rfl⟩, Or.inl rfl⟩
  · obtain ⟨v', w', hr, q2, q3, _, q5⟩ := run_append_own_at (P := Tryd.prog) w base 23 ty 36 i0 (.agg #[.string ⟨#[]⟩, .int .i64 0]) 2 24 Tryd.underlying23 hi hz0 hz1 hz2 rfl (by decide) v n xs hown ⟨g, 0, none⟩ m cap ys hl (own_news hx) h1 (by unfold maxLen; omega) (by omega) hbase
    obtain ⟨ao, c2, rfl, hlow⟩ := own_shape q2
    exact ⟨ao, c2, w', hr, q2, q3, q5⟩
theorem wp_onto_decl {o : Oper} {a : Act} {K : Act → World → Prop} {Q : Exit → Act → World → Prop} (s x : Operand) (ho : o.op = .call { callee := .builtin .append, args := #[s, x], argTypes := #[23, 23] })
    (w : World) (base n : Nat) (v : Value) (xs : List Value) (hs : a.eval s = v) (hown : w.ownsRow base 36 2 v n xs) (b2 m : Nat) (ys : List Value) (xv : Value) (hx : a.eval x = xv) (hsrc : w.ownsRow b2 36 2 xv m ys) (h1 : ∀ u ∈ ys, u.oneCell' = true) (hb : n + m ≤ 100000) (hbase : base ≤ w.heap.size)
    (h : ∀ ao cap w', Onto w base 36 2 v (n + m) (xs ++ ys) ao cap w' → K (a.put o.dst (.slice ao (n + m) cap)) w') : o.wp Tryd.prog a w K Q := by
  obtain ⟨ao, cap, w', hr, h2⟩ := run_onto_decl o.type w base n v xs hown b2 m ys xv hsrc h1 hb hbase
  unfold Oper.wp execOp
  simp only [ho, resolve, invoke, builtin, Sem.run_bind, Sem.run_pure, Result.andThen_ok, List.map_toArray, List.map_cons, List.map_nil, hs, hx, hr]
  exact h ao cap w' h2
theorem step_onto_decl {ops : Array Oper} {o : Oper} {a : Act} {K : Act → World → Prop} {Q : Exit → Act → World → Prop} {E : Prop} (hgd : o.guard = none) (s x : Operand) (ho : o.op = .call { callee := .builtin .append, args := #[s, x], argTypes := #[23, 23] })
    (w : World) (base n : Nat) (v : Value) (xs : List Value) (hs : a.eval s = v) (hown : w.ownsRow base 36 2 v n xs) (b2 m : Nat) (ys : List Value) (xv : Value) (hx : a.eval x = xv) (hsrc : w.ownsRow b2 36 2 xv m ys) (h1 : ∀ u ∈ ys, u.oneCell' = true) (hb : n + m ≤ 100000) (hbase : base ≤ w.heap.size)
    (h : ∀ ao cap w', Onto w base 36 2 v (n + m) (xs ++ ys) ao cap w' → K (a.put o.dst (.slice ao (n + m) cap)) w') :
    if Region.wanted o (yielded ops a.tmps) = true then Oper.wp Tryd.prog o a w K Q else E := by
  have hw : Region.wanted o (yielded ops a.tmps) = true := by simp [Region.wanted, hgd]
  rw [if_pos hw]
  exact wp_onto_decl s x ho w base n v xs hs hown b2 m ys xv hx hsrc h1 hb hbase h
theorem run_nil_bind (ty : TypeId) (v : Value) (base n : Nat) (xs : List Value) (c : Nat) (w : World) (h : w.ownsRow base 48 10 v n xs) :
    (Builtin.append_ #[24, 24] ty #[v, .slice none 0 c]).run Tryd.prog w = .ok v w := by
  have hu : Tryd.prog.underlying 24 = some (.slice 48) := Tryd.underlying24
  rcases h.2 with ⟨rfl, rfl⟩ | ⟨g, cap, cur, rfl, _, _, hcap, _⟩
  · simp [Builtin.append_, run_underlying hu, Tryd.sizeOf48, Builtin.firstCells, Builtin.lenOf, go_sem]
  · simp [Builtin.append_, run_underlying hu, Tryd.sizeOf48, Builtin.firstCells, Builtin.lenOf, go_sem, hcap]
theorem run_onto_bind (ty : TypeId) (w : World) (base n : Nat) (v : Value) (xs : List Value) (hown : w.ownsRow base 48 10 v n xs) (b2 m : Nat) (ys : List Value) (x : Value) (hx : w.ownsRow b2 48 10 x m ys) (h1 : ∀ u ∈ ys, u.oneCell' = true) (hb : n + m ≤ 100000) (hbase : base ≤ w.heap.size) :
    ∃ ao cap w', (Builtin.append_ #[24, 24] ty #[v, x]).run Tryd.prog w = .ok (.slice ao (n + m) cap) w' ∧ Onto w base 48 10 v (n + m) (xs ++ ys) ao cap w' := by
  obtain ⟨i0, hi, hz0, hz1, hz2⟩ := info_parts Tryd.info_bind
  obtain ⟨hl, ⟨rfl, rfl⟩ | ⟨g, cap, cur, rfl, h2, h3, h4, h5, h6, h7⟩⟩ := id hx
  · have hy : ys = [] := List.length_eq_zero_iff.1 (by simpa using hl)
    subst hy
    obtain ⟨ao, cap, rfl, hlow⟩ := own_shape hown
    exact ⟨ao, cap, w, run_nil_bind ty _ base n xs 0 w hown, by simpa using hown, ⟨rfl, rfl, rfl, Nat.le_refl _, fun _ _ _ => rfl⟩, Or.inl rfl⟩
  · obtain ⟨v', w', hr, q2, q3, _, q5⟩ := run_append_own_at (P := Tryd.prog) w base 24 ty 48 i0 (.agg #[.string ⟨#[]⟩, .slice none 0 0, .int .i64 0, .string ⟨#[]⟩, .bool false, .int .u64 0, .slice none 0 0, .slice none 0 0, .slice none 0 0, .slice none 0 0]) 10 176 Tryd.underlying24 hi hz0 hz1 hz2 rfl (by decide) v n xs hown ⟨g, 0, none⟩ m cap ys hl (own_news hx) h1 (by unfold maxLen; omega) (by omega) hbase
    obtain ⟨ao, c2, rfl, hlow⟩ := own_shape q2
    exact ⟨ao, c2, w', hr, q2, q3, q5⟩
theorem wp_onto_bind {o : Oper} {a : Act} {K : Act → World → Prop} {Q : Exit → Act → World → Prop} (s x : Operand) (ho : o.op = .call { callee := .builtin .append, args := #[s, x], argTypes := #[24, 24] })
    (w : World) (base n : Nat) (v : Value) (xs : List Value) (hs : a.eval s = v) (hown : w.ownsRow base 48 10 v n xs) (b2 m : Nat) (ys : List Value) (xv : Value) (hx : a.eval x = xv) (hsrc : w.ownsRow b2 48 10 xv m ys) (h1 : ∀ u ∈ ys, u.oneCell' = true) (hb : n + m ≤ 100000) (hbase : base ≤ w.heap.size)
    (h : ∀ ao cap w', Onto w base 48 10 v (n + m) (xs ++ ys) ao cap w' → K (a.put o.dst (.slice ao (n + m) cap)) w') : o.wp Tryd.prog a w K Q := by
  obtain ⟨ao, cap, w', hr, h2⟩ := run_onto_bind o.type w base n v xs hown b2 m ys xv hsrc h1 hb hbase
  unfold Oper.wp execOp
  simp only [ho, resolve, invoke, builtin, Sem.run_bind, Sem.run_pure, Result.andThen_ok, List.map_toArray, List.map_cons, List.map_nil, hs, hx, hr]
  exact h ao cap w' h2
theorem step_onto_bind {ops : Array Oper} {o : Oper} {a : Act} {K : Act → World → Prop} {Q : Exit → Act → World → Prop} {E : Prop} (hgd : o.guard = none) (s x : Operand) (ho : o.op = .call { callee := .builtin .append, args := #[s, x], argTypes := #[24, 24] })
    (w : World) (base n : Nat) (v : Value) (xs : List Value) (hs : a.eval s = v) (hown : w.ownsRow base 48 10 v n xs) (b2 m : Nat) (ys : List Value) (xv : Value) (hx : a.eval x = xv) (hsrc : w.ownsRow b2 48 10 xv m ys) (h1 : ∀ u ∈ ys, u.oneCell' = true) (hb : n + m ≤ 100000) (hbase : base ≤ w.heap.size)
    (h : ∀ ao cap w', Onto w base 48 10 v (n + m) (xs ++ ys) ao cap w' → K (a.put o.dst (.slice ao (n + m) cap)) w') :
    if Region.wanted o (yielded ops a.tmps) = true then Oper.wp Tryd.prog o a w K Q else E := by
  have hw : Region.wanted o (yielded ops a.tmps) = true := by simp [Region.wanted, hgd]
  rw [if_pos hw]
  exact wp_onto_bind s x ho w base n v xs hs hown b2 m ys xv hx hsrc h1 hb hbase h
theorem step_wanted {P : Program} {ops : Array Oper} {o : Oper} {a : Act} {w : World} {K : Act → World → Prop} {Q : Exit → Act → World → Prop} {E : Prop} (hg : o.guard = none) (h : Oper.wp P o a w K Q) :
    if Region.wanted o (yielded ops a.tmps) = true then Oper.wp P o a w K Q else E := by
  have hw : Region.wanted o (yielded ops a.tmps) = true := by simp [Region.wanted, hg]
  rw [if_pos hw]
  exact h
theorem boxw_o {W W' : World} {p : Nat} {c : Value} {cs : List Value} {o : Option Nat} (h : BoxW W p (c :: cs)) (hg : W.grownBy W' o) (hp : some p ≠ o) : BoxW W' p (c :: cs) :=
  ⟨fun j v hj => (World.cell?_of_block (hg.block p h.lt hp)).trans (h.1 j v hj), fun j => (World.frozen?_of_block (w := W) (hg.block p h.lt hp)).trans (h.2 j)⟩
theorem own_o {w w' : World} {base : Nat} {e : TypeId} {size : Nat} {v : Value} {n : Nat} {xs : List Value} (h : w.ownsRow base e size v n xs) {o : Option Nat} (hb : w.grownBy w' o) (hn : ∀ g, v.ownBlock = some g → some g ≠ o) : w'.ownsRow base e size v n xs := by
  obtain ⟨h0, h | ⟨g, cap, cur, rfl, h2, h3, h4⟩⟩ := h
  · exact ⟨h0, Or.inl h⟩
  · refine ⟨h0, Or.inr ⟨g, cap, cur, rfl, h2, ?_, h4⟩⟩
    have hg : g < w.heap.size := by
      rcases Nat.lt_or_ge g w.heap.size with h | h
      · exact h
      · rw [Array.getElem?_eq_none h] at h3; cases h3
    rw [hb.block g hg (hn g rfl)]
    exact h3
def Sf {α : Type} (o : Out α) (rest : List Tok) : Prop :=
  match o with
  | .ok _ _ r => ∀ y, y ∈ r → y ∈ rest
  | .bad _ _ => True
theorem Sf.bind {α β : Type} {o : Out α} {f : α → Int → List Tok → Out β} {rest : List Tok} (h : Sf o rest) (hf : ∀ a l r, Sf (f a l r) r) : Sf (o.bind f) rest := by
  cases o with
  | bad e l => trivial
  | ok a l r =>
    have h2 := hf a l r
    show Sf (f a l r) rest
    cases hq : f a l r with
    | bad e l => trivial
    | ok b l2 r2 => rw [hq] at h2; exact fun y hy => h y (h2 y hy)
def Suf {α : Type} (p : Par α) : Prop := ∀ l r, Sf (p l r) r
theorem Sf.mono {α : Type} {o : Out α} {r q : List Tok} (h : Sf o r) (hm : ∀ y, y ∈ r → y ∈ q) : Sf o q := by
  cases o with
  | ok a l r => exact fun y hy => hm y (h y hy)
  | bad e l => trivial
def MdV (lo : Nat) (md : Md) (e : Ending) (w : World) : Prop :=
  ∃ vc vb xb, e = .returned (.agg #[vc, vb]) ∧ w.ownsRow lo 36 2 vc md.1.length (declV md.1) ∧ w.ownsRow lo 48 10 vb md.2.length xb ∧ BndsAt w (fun g => lo ≤ g) md.2 xb
structure MdI (w : World) (b me ma : Nat) (N : Nat) (wr : World) (l : Int) (r : List Tok) (cs : List (Nm × Int)) (bs : List Bnd) (vc vb : Value) (xb : List Value) : Prop where
  R : Rdr wr b me ma l r 0
  g : w.grownBy wr (some b)
  n : cs.length + bs.length + r.length ≤ N
  x : ∀ y, y ∈ r → 0 ≤ y.1.x
  p : BoxW wr w.heap.size [.slice none 0 0, .slice none 0 0]
  q : BoxW wr (w.heap.size + 1) [vc, vb]
  oc : wr.ownsRow (w.heap.size + 2) 36 2 vc cs.length (declV cs)
  ob : wr.ownsRow (w.heap.size + 2) 48 10 vb bs.length xb
  bt : BndsAt wr (fun g => w.heap.size + 2 ≤ g ∧ some g ≠ vc.ownBlock ∧ some g ≠ vb.ownBlock) bs xb
  ne : ∀ g, vc.ownBlock = some g → vb.ownBlock ≠ some g
theorem MdI.grown {w wr w' : World} {b me ma N : Nat} {l l' : Int} {r r' : List Tok} {cs : List (Nm × Int)} {bs : List Bnd} {vc vb : Value} {xb : List Value} (h : MdI w b me ma N wr l r cs bs vc vb xb) (hb : b < w.heap.size) (hg : wr.grownBy w' (some b)) (hR : Rdr w' b me ma l' r' 0) (hl : r'.length ≤ r.length) (hx : ∀ y, y ∈ r' → y ∈ r) : MdI w b me ma N w' l' r' cs bs vc vb xb :=
  ⟨hR, Gt h.g hg, by have := h.n; omega, fun y hy => h.x y (hx y hy), boxw_grown h.p hg (by omega), boxw_grown h.q hg (by omega),
   own_o h.oc hg (fun g e e2 => by have := (h.oc.lt g e).1; have := Oi e2; omega), own_o h.ob hg (fun g e e2 => by have := (h.ob.lt g e).1; have := Oi e2; omega),
   h.bt.move (fun g hk lt => ⟨hk, hg.block g lt (by have := hk.1; simp; omega)⟩), h.ne⟩
theorem MdI.bind {w w5 w9 : World} {b me ma N : Nat} {l : Int} {r : List Tok} {cs : List (Nm × Int)} {bs : List Bnd} {vc vb : Value} {xb ya : List Value} {a : Bnd} {ao : Option Addr} {cap lo2 : Nat} (h : MdI w b me ma N w5 l r cs bs vc vb xb) (hb : b < w.heap.size) (h9 : Onto w5 (w.heap.size + 2) 48 10 vb (bs.length + 1) (xb ++ ya) ao cap w9) (hn : cs.length + bs.length + 1 + r.length ≤ N)
    (hlo : w.heap.size + 2 ≤ lo2) (ha : BndsAt w5 (fun g => lo2 ≤ g) [a] ya) (hvc : ∀ g, vc.ownBlock = some g → g < lo2) (hvb : ∀ g, vb.ownBlock = some g → g < lo2) :
    MdI w b me ma N (w9.setCell ⟨w.heap.size + 1, 1, none⟩ (.slice ao (bs.length + 1) cap)) l r cs (bs ++ [a]) vc (.slice ao (bs.length + 1) cap) (xb ++ ya) := by
  obtain ⟨h1, h2, h3⟩ := h9
  have hq5 := h.q.lt
  have lo : ∀ g, vb.ownBlock = some g → w.heap.size + 2 ≤ g := fun g e => (h.ob.lt g e).1
  have lb : ∀ g, vc.ownBlock = some g → w.heap.size + 2 ≤ g ∧ g < w5.heap.size := fun g e => h.oc.lt g e
  have lx : ∀ g, (Value.slice ao (bs.length + 1) cap).ownBlock = some g → w.heap.size + 2 ≤ g := fun g e => (h1.lt g e).1
  have hgs := set_grown w9 (w.heap.size + 1) 1 (.slice ao (bs.length + 1) cap)
  obtain ⟨q, hq, hg⟩ := grown_some (b := b) h2 (fun g e => by have := lo g e; omega)
  refine ⟨(h.R.past hg hq).over (by omega) _, grown_new (grown_past h.g h2 (fun g e => by have := lo g e; omega)) (by omega) _, by simp; omega, h.x, ?_, ?_, ?_, ?_, ?_, ?_⟩
  · exact boxw_o (boxw_o h.p h2 (fun e => by have := lo _ e.symm; omega)) hgs (fun e => by have := Oi e; omega)
  · exact (boxw_o h.q h2 (fun e => by have := lo _ e.symm; omega)).set 1 (show 1 < 2 by decide) _
  · exact own_o (own_o h.oc h2 (fun g e e2 => h.ne g e e2.symm)) hgs (fun g e e2 => by have := (lb g e).1; have := Oi e2; omega)
  · rw [List.length_append]
    exact own_o h1 hgs (fun g e e2 => by have := lx g e; have := Oi e2; omega)
  · have far : ∀ g, w.heap.size + 2 ≤ g → g < w5.heap.size → some g ≠ vc.ownBlock → some g ≠ vb.ownBlock → (w.heap.size + 2 ≤ g ∧ some g ≠ vc.ownBlock ∧ some g ≠ (Value.slice ao (bs.length + 1) cap).ownBlock) ∧ (w9.setCell ⟨w.heap.size + 1, 1, none⟩ (.slice ao (bs.length + 1) cap)).heap[g]? = w5.heap[g]? := by
      intro g k1 lt k2 k3
      refine ⟨⟨k1, k2, ?_⟩, (hgs.block g (Nat.lt_of_lt_of_le lt h2.size) (fun e => by have := Oi e; omega)).trans (h2.block g lt k3)⟩
      rcases h3 with h3 | h3
      · rw [h3]; exact k3
      · rw [h3]; intro e; have := Oi e; omega
    have hold := h.bt.move (K' := fun g => w.heap.size + 2 ≤ g ∧ some g ≠ vc.ownBlock ∧ some g ≠ (Value.slice ao (bs.length + 1) cap).ownBlock) (fun g hk lt => far g hk.1 lt hk.2.1 hk.2.2)
    have hnew := ha.move (K' := fun g => w.heap.size + 2 ≤ g ∧ some g ≠ vc.ownBlock ∧ some g ≠ (Value.slice ao (bs.length + 1) cap).ownBlock) (fun g hk lt => far g (by omega) lt (fun e => by have := hvc g e.symm; omega) (fun e => by have := hvb g e.symm; omega))
    cases hnew with
    | cons n ps e _ v0 c0 x0 hp he tl =>
      cases tl
      rw [List.append_nil]
      exact hold.snoc (x := (n, ps, e)) hp he
  · intro g e e2
    rcases h3 with h3 | h3
    · exact h.ne g e (h3.symm.trans e2)
    · have := Oi (h3.symm.trans e2)
      have := (lb g e).2
      omega
theorem own_at {w : World} {base : Nat} {e : TypeId} {size : Nat} {a : Option Addr} {n c : Nat} {xs : List Value} (h : w.ownsRow base e size (.slice a n c) n xs) (hn : 0 < n) : ∃ g, a = some ⟨g, 0, none⟩ ∧ n ≤ c ∧ ∀ j u, xs[j]? = some u → w.cell? ⟨g, j, none⟩ = some u := by
  rcases id h.2 with ⟨e, e2⟩ | ⟨g, cap, cur, e, hg, hb, h1, h2, -⟩
  · omega
  · cases e
    refine ⟨g, rfl, h1, fun j u hj => ?_⟩
    have hadd : (⟨g, 0, none⟩ : Addr).add j = ⟨g, j, none⟩ := by unfold Addr.add; split <;> simp_all
    rw [← hadd]
    exact own_news h j u hj
theorem shift_at (n i j : Nat) (c x : List Value) (hc : c.length = n) : (c ++ x)[(j + 1) * n + i]? = x[j * n + i]? := by
  have h : (j + 1) * n = j * n + n := Nat.succ_mul j n
  rw [List.getElem?_append_right (by omega), hc, h]
  congr 1
  omega
theorem ExsAt.at {W : World} {K : Nat → Prop} : ∀ {bs : List Ex} {xs : List Value}, ExsAt W K bs xs → ∀ j (hj : j < bs.length), ∃ k nm f u vp vk vb va, ExAt W K bs[j] [.int .i64 k, .string nm, .bool f, .int .u64 u, vp, vk, vb, va] ∧ xs[j * 8 + 0]? = some (.int .i64 k) ∧ xs[j * 8 + 1]? = some (.string nm) ∧ xs[j * 8 + 2]? = some (.bool f) ∧ xs[j * 8 + 3]? = some (.int .u64 u) ∧ xs[j * 8 + 4]? = some vp ∧ xs[j * 8 + 5]? = some vk ∧ xs[j * 8 + 6]? = some vb ∧ xs[j * 8 + 7]? = some va
  | _ :: _, _, .cons e es cs xs h t, 0, _ => by
    cases h with
    | mk k n f x ps ks bs al vp vk vb va xk xb xa hp hk hb ha tk tb ta => exact ⟨k, _, f, x, vp, vk, vb, va, .mk k n f x ps ks bs al vp vk vb va xk xb xa hp hk hb ha tk tb ta, rfl, rfl, rfl, rfl, rfl, rfl, rfl, rfl⟩
  | _ :: es, _, .cons e _ cs xs h t, j + 1, hj => by
    have hc : cs.length = 8 := by cases h; rfl
    obtain ⟨k, nm, f, u, vp, vk, vb, va, h1, q0, q1, q2, q3, q4, q5, q6, q7⟩ := t.at j (by simpa using hj)
    exact ⟨k, nm, f, u, vp, vk, vb, va, h1, (shift_at 8 0 j cs xs hc).trans q0, (shift_at 8 1 j cs xs hc).trans q1, (shift_at 8 2 j cs xs hc).trans q2, (shift_at 8 3 j cs xs hc).trans q3, (shift_at 8 4 j cs xs hc).trans q4, (shift_at 8 5 j cs xs hc).trans q5, (shift_at 8 6 j cs xs hc).trans q6, (shift_at 8 7 j cs xs hc).trans q7⟩
theorem BndsAt.at {W : World} {K : Nat → Prop} : ∀ {bs : List Bnd} {xs : List Value}, BndsAt W K bs xs → ∀ j (hj : j < bs.length), ∃ vq k nm f u vp vk vb va, RowAt W K 9 1 vq bs[j].2.1.length (namesV bs[j].2.1) ∧ ExAt W K bs[j].2.2 [.int .i64 k, .string nm, .bool f, .int .u64 u, vp, vk, vb, va] ∧ xs[j * 10 + 0]? = some (.string (tx bs[j].1)) ∧ xs[j * 10 + 1]? = some vq ∧ xs[j * 10 + 2]? = some (.int .i64 k) ∧ xs[j * 10 + 3]? = some (.string nm) ∧ xs[j * 10 + 4]? = some (.bool f) ∧ xs[j * 10 + 5]? = some (.int .u64 u) ∧ xs[j * 10 + 6]? = some vp ∧ xs[j * 10 + 7]? = some vk ∧ xs[j * 10 + 8]? = some vb ∧ xs[j * 10 + 9]? = some va
  | _ :: _, _, .cons n0 p0 e es vq cs xs hr h t, 0, _ => by
    cases h with
    | mk k n f x ps ks bs al vp vk vb va xk xb xa hp hk hb ha tk tb ta => exact ⟨vq, k, _, f, x, vp, vk, vb, va, hr, .mk k n f x ps ks bs al vp vk vb va xk xb xa hp hk hb ha tk tb ta, rfl, rfl, rfl, rfl, rfl, rfl, rfl, rfl, rfl, rfl⟩
  | _ :: es, _, .cons n0 p0 e _ vq cs xs hr h t, j + 1, hj => by
    have hc : (.string (tx n0) :: vq :: cs).length = 10 := by cases h; rfl
    obtain ⟨vq', k, nm, f, u, vp, vk, vb, va, h0, h1, q0, q1, q2, q3, q4, q5, q6, q7, q8, q9⟩ := t.at j (by simpa using hj)
    have s := fun i => shift_at 10 i j (.string (tx n0) :: vq :: cs) xs hc
    exact ⟨vq', k, nm, f, u, vp, vk, vb, va, h0, h1, (s 0).trans q0, (s 1).trans q1, (s 2).trans q2, (s 3).trans q3, (s 4).trans q4, (s 5).trans q5, (s 6).trans q6, (s 7).trans q7, (s 8).trans q8, (s 9).trans q9⟩
theorem AltsAt.at {W : World} {K : Nat → Prop} : ∀ {bs : List Alt} {xs : List Value}, AltsAt W K bs xs → ∀ j (hj : j < bs.length), ∃ vq k nm f u vp vk vb va, RowAt W K 9 1 vq bs[j].2.2.2.2.1.length (namesV bs[j].2.2.2.2.1) ∧ ExAt W K bs[j].2.2.2.2.2 [.int .i64 k, .string nm, .bool f, .int .u64 u, vp, vk, vb, va] ∧ xs[j * 13 + 0]? = some (.int .i64 bs[j].1) ∧ xs[j * 13 + 1]? = some (.string (tx bs[j].2.1)) ∧ xs[j * 13 + 2]? = some (.bool bs[j].2.2.1) ∧ xs[j * 13 + 3]? = some (.int .u64 bs[j].2.2.2.1) ∧ xs[j * 13 + 4]? = some vq ∧ xs[j * 13 + 5]? = some (.int .i64 k) ∧ xs[j * 13 + 6]? = some (.string nm) ∧ xs[j * 13 + 7]? = some (.bool f) ∧ xs[j * 13 + 8]? = some (.int .u64 u) ∧ xs[j * 13 + 9]? = some vp ∧ xs[j * 13 + 10]? = some vk ∧ xs[j * 13 + 11]? = some vb ∧ xs[j * 13 + 12]? = some va
  | _ :: _, _, .cons k0 n0 f0 x0 p0 e es vq cs xs hr h t, 0, _ => by
    cases h with
    | mk k n f x ps ks bs al vp vk vb va xk xb xa hp hk hb ha tk tb ta => exact ⟨vq, k, _, f, x, vp, vk, vb, va, hr, .mk k n f x ps ks bs al vp vk vb va xk xb xa hp hk hb ha tk tb ta, rfl, rfl, rfl, rfl, rfl, rfl, rfl, rfl, rfl, rfl, rfl, rfl, rfl⟩
  | _ :: es, _, .cons k0 n0 f0 x0 p0 e _ vq cs xs hr h t, j + 1, hj => by
    have hc : (.int .i64 k0 :: .string (tx n0) :: .bool f0 :: .int .u64 x0 :: vq :: cs).length = 13 := by cases h; rfl
    obtain ⟨vq', k, nm, f, u, vp, vk, vb, va, h0, h1, q0, q1, q2, q3, q4, q5, q6, q7, q8, q9, q10, q11, q12⟩ := t.at j (by simpa using hj)
    have s := fun i => shift_at 13 i j (.int .i64 k0 :: .string (tx n0) :: .bool f0 :: .int .u64 x0 :: vq :: cs) xs hc
    exact ⟨vq', k, nm, f, u, vp, vk, vb, va, h0, h1, (s 0).trans q0, (s 1).trans q1, (s 2).trans q2, (s 3).trans q3, (s 4).trans q4, (s 5).trans q5, (s 6).trans q6, (s 7).trans q7, (s 8).trans q8, (s 9).trans q9, (s 10).trans q10, (s 11).trans q11, (s 12).trans q12⟩
theorem RowAt.below {W W' : World} {K : Nat → Prop} {e : TypeId} {size : Nat} {v : Value} {n : Nat} {xs : List Value} (h : RowAt W K e size v n xs) (hb : Below W.heap.size W W') : RowAt W' K e size v n xs := h.move fun g hk lt => ⟨hk, hb.block g lt⟩
theorem ExAt.low {W W' : World} {K : Nat → Prop} {x : Ex} {cs : List Value} (h : ExAt W K x cs) (hb : Below W.heap.size W W') : ExAt W' K x cs := h.move fun g hk lt => ⟨hk, hb.block g lt⟩
theorem snames_any (bs : List Bnd) (a : Option Addr) (c : Nat) (K K2 : Nat → Prop) (xb : List Value) (w : World) (hn : bs.length ≤ 100000) (hr : RowAt w K 48 10 (.slice a bs.length c) bs.length xb) (hb : BndsAt w K2 bs xb) :
    Calls Tryd.prog 23 #[.slice a bs.length c] w fun e w' => (∃ v, e = .returned v ∧ w'.ownsRow w.heap.size 9 1 v bs.length (namesV (bNames bs))) ∧ Below w.heap.size w w' := by
  have HO := Hd (Ai hr hb)
  obtain ⟨i0, hi0, hz0, hzs, hzb⟩ := info_parts Tryd.info_text
  clear hr hb
  go_enter Tryd.func23, Tryd.ntmps23
  go_wp2_with fail
  go_loopw [3, 4] (fun s2 s3 wr => ∃ (j : Nat) (vv : Value), j ≤ bs.length ∧ vv = s2 ∧ s3 = .int .i64 j ∧ wr.ownsRow w.heap.size 9 1 vv j (namesV (bNames (bs.take j))) ∧ Below w.heap.size w wr) (fun _ s3 _ => bs.length - (RowKit.intOf s3).toNat)
  case atStart => exact ⟨0, _, Nat.zero_le _, rfl, rfl, World.ownsRow_nil _ _ _ _, Below.refl _ _⟩
  case round =>
    obtain ⟨j, vv, hj, rfl, rfl, hown, hbr⟩ := hrel
    obtain ⟨aa, cc, rfl, hlow⟩ := own_shape hown
    have HW := Hd (Ai hown (Ai hbr hlow))
    clear hown hbr hlow
    by_cases gj : j < bs.length
    · have gj' : (j : Int) < (bs.length : Int) := by omega
      obtain ⟨vq, q1, q2, q3, q4, q5, q6, q7, q8, -, -, z0, -⟩ := HO.out.2.at j gj
      obtain ⟨g1, o1, ea1, k1, m1', -, ht1⟩ := HO.out.1.at (by omega)
      subst ea1
      have p0 := later' HW.out.2.1 (ht1 _ _ z0)
      simp only [Nat.add_zero] at p0
      have hwz : w.heap.size ≤ wr.heap.size := HW.out.2.1.size
      have HT := Hd (show namesV (bNames (bs.take (j + 1))) = namesV (bNames (bs.take j)) ++ [.string (tx bs[j].1)] by rw [List.take_succ_eq_append_getElem gj]; simp only [namesV, bNames, List.map_append, List.map_cons, List.map_nil])
      generalize bs[j].1 = nm at *
      have ej : IntKind.i64.wrap ((j : Int) + 1) = (j : Int) + 1 := by rw [IntKind.wrap_i64]; omega
      have b0 : (0 : Int) ≤ (j : Int) := by omega
      have one1 : ∀ u ∈ [Value.string (tx nm)], u.oneCell' = true := by intro u hu; simp at hu; rw [hu]; rfl
      have m9 : j + 1 ≤ maxLen := by unfold maxLen; omega
      have m8 : (j + 1) * 16 ≤ 140737488355328 := by omega
      clear ht1 z0
      go_wp2_with (at_builtin; refine wpList_append_lies _ rfl _ _ 39 rfl w.heap.size 9 i0 (.string ⟨#[]⟩) 1 16 Tryd.underlying39 hi0 hz0 hzs hzb rfl (by decide) (.slice aa j cc) j (namesV (bNames (bs.take j))) rfl (HW.out.1.alloc _) ⟨wr.heap.size, 0, none⟩ 1 1 [.string (tx nm)] rfl rfl (World.news_of_block (heap_alloc_new _ _)) one1 (by decide) m9 m8 (by simp; omega) _ rfl ?_; intro g9 cap9 w9 o1 o2 o3 o4)
      refine ⟨⟨j + 1, _, by omega, rfl, by go_num, by rw [HT.out]; exact o1, ?_⟩, by simp [RowKit.intOf]; omega⟩
      have hx := onB' HW.out.2.1 ((Below.refl wr.heap.size wr).alloc Nr (.cells #[.string (tx nm)] 9))
      exact ⟨o2.os.trans hx.os, o2.tape.trans hx.tape, o2.output.trans hx.output, Nt hx.size o2.size, fun k hk => (o2.block k (by have := hx.size; omega) (fun e => by have := HW.out.2.2 k e.symm; omega)).trans (hx.block k hk)⟩
    · obtain rfl : j = bs.length := by omega
      go_wp2_with fail
      refine bodyPost_ret (v := .slice aa bs.length cc) (by simp [results, Tryd.results23, go_sem]) rfl ?_
      have h := HW.out.1
      rw [List.take_length] at h
      exact ⟨⟨_, rfl, h⟩, HW.out.2.1⟩
theorem add_at (g o j : Nat) : (⟨g, o, none⟩ : Addr).add j = ⟨g, o + j, none⟩ := by
  unfold Addr.add
  split <;> simp_all
theorem run_nil_str (ty : TypeId) (v : Value) (base n : Nat) (xs : List Value) (c : Nat) (w : World) (h : w.ownsRow base 9 1 v n xs) :
    (Builtin.append_ #[39, 39] ty #[v, .slice none 0 c]).run Tryd.prog w = .ok v w := by
  have hu : Tryd.prog.underlying 39 = some (.slice 9) := Tryd.underlying39
  rcases h.2 with ⟨rfl, rfl⟩ | ⟨g, cap, cur, rfl, _, _, hcap, _⟩
  · simp [Builtin.append_, run_underlying hu, Tryd.sizeOf9, Builtin.firstCells, Builtin.lenOf, go_sem]
  · simp [Builtin.append_, run_underlying hu, Tryd.sizeOf9, Builtin.firstCells, Builtin.lenOf, go_sem, hcap]
theorem run_onto_str (ty : TypeId) (w : World) (base n : Nat) (v : Value) (xs : List Value) (hown : w.ownsRow base 9 1 v n xs) (K : Nat → Prop) (m : Nat) (ys : List Value) (x : Value) (hx : RowAt w K 9 1 x m ys) (h1 : ∀ u ∈ ys, u.oneCell' = true) (hb : n + m ≤ 100000) (hbase : base ≤ w.heap.size) :
    ∃ ao cap w', (Builtin.append_ #[39, 39] ty #[v, x]).run Tryd.prog w = .ok (.slice ao (n + m) cap) w' ∧ Onto w base 9 1 v (n + m) (xs ++ ys) ao cap w' := by
  obtain ⟨i0, hi, hz0, hz1, hz2⟩ := info_parts Tryd.info_text
  obtain ⟨hl, ⟨rfl, rfl⟩ | ⟨g, o, c, cur, rfl, h2, h3, h4, h5, h6⟩⟩ := id hx
  · have hy : ys = [] := List.length_eq_zero_iff.1 (by simpa using hl)
    subst hy
    obtain ⟨ao, cap, rfl, hlow⟩ := own_shape hown
    exact ⟨ao, cap, w, run_nil_str ty _ base n xs 0 w hown, by simpa using hown, ⟨rfl, rfl, rfl, Nat.le_refl _, fun _ _ _ => rfl⟩, Or.inl rfl⟩
  · obtain ⟨v', w', hr, q2, q3, _, q5⟩ := run_append_own_at (P := Tryd.prog) w base 39 ty 9 i0 (.string ⟨#[]⟩) 1 16 Tryd.underlying39 hi hz0 hz1 hz2 rfl (by decide) v n xs hown ⟨g, o, none⟩ m c ys hl (fun j u hj => by rw [add_at]; exact h6 j u hj) h1 (by unfold maxLen; omega) (by omega) hbase
    obtain ⟨ao, c2, rfl, hlow⟩ := own_shape q2
    exact ⟨ao, c2, w', hr, q2, q3, q5⟩
theorem wp_onto_str {o : Oper} {a : Act} {K : Act → World → Prop} {Q : Exit → Act → World → Prop} (s x : Operand) (ho : o.op = .call { callee := .builtin .append, args := #[s, x], argTypes := #[39, 39] })
    (w : World) (base n : Nat) (v : Value) (xs : List Value) (hs : a.eval s = v) (hown : w.ownsRow base 9 1 v n xs) (K2 : Nat → Prop) (m : Nat) (ys : List Value) (xv : Value) (hx : a.eval x = xv) (hsrc : RowAt w K2 9 1 xv m ys) (h1 : ∀ u ∈ ys, u.oneCell' = true) (hb : n + m ≤ 100000) (hbase : base ≤ w.heap.size)
    (h : ∀ ao cap w', Onto w base 9 1 v (n + m) (xs ++ ys) ao cap w' → K (a.put o.dst (.slice ao (n + m) cap)) w') : o.wp Tryd.prog a w K Q := by
  obtain ⟨ao, cap, w', hr, h2⟩ := run_onto_str o.type w base n v xs hown K2 m ys xv hsrc h1 hb hbase
  unfold Oper.wp execOp
  simp only [ho, resolve, invoke, builtin, Sem.run_bind, Sem.run_pure, Result.andThen_ok, List.map_toArray, List.map_cons, List.map_nil, hs, hx, hr]
  exact h ao cap w' h2
theorem list_onto_str {ops : Array Oper} {rest : List Oper} {o : Oper} {a : Act} {Q : Exit → Act → World → Prop} (hgd : o.guard = none) (s x : Operand) (ho : o.op = .call { callee := .builtin .append, args := #[s, x], argTypes := #[39, 39] })
    (w : World) (base n : Nat) (v : Value) (xs : List Value) (hs : a.eval s = v) (hown : w.ownsRow base 9 1 v n xs) (K2 : Nat → Prop) (m : Nat) (ys : List Value) (xv : Value) (hx : a.eval x = xv) (hsrc : RowAt w K2 9 1 xv m ys) (h1 : ∀ u ∈ ys, u.oneCell' = true) (hb : n + m ≤ 100000) (hbase : base ≤ w.heap.size)
    (h : ∀ ao cap w', Onto w base 9 1 v (n + m) (xs ++ ys) ao cap w' → wpList Tryd.prog ops Q rest (a.put o.dst (.slice ao (n + m) cap)) w') : wpList Tryd.prog ops Q (o :: rest) a w :=
  wpList_plain hgd fun _ hK => wp_onto_str s x ho w base n v xs hs hown K2 m ys xv hx hsrc h1 hb hbase fun ao cap w' h1 => hK _ _ (h ao cap w' h1)
theorem namesV_one {l : List Nm} : ∀ u ∈ namesV l, u.oneCell' = true := by
  intro u hu
  simp only [namesV, List.mem_map] at hu
  obtain ⟨_, _, rfl⟩ := hu
  rfl
theorem sjoin_any (l r : List Nm) (a b : Value) (K K2 : Nat → Prop) (w : World) (hn : l.length + r.length ≤ 100000) (hl : RowAt w K 9 1 a l.length (namesV l)) (hr : RowAt w K2 9 1 b r.length (namesV r)) :
    Calls Tryd.prog 48 #[a, b] w fun e w' => (∃ v, e = .returned v ∧ w'.ownsRow w.heap.size 9 1 v (l.length + r.length) (namesV (l ++ r))) ∧ Below w.heap.size w w' := by
  obtain ⟨aa, ca, rfl⟩ := hl.sl
  obtain ⟨ab, cb, rfl⟩ := hr.sl
  have ba := (Below.refl w.heap.size w).alloc Nr (.cells #[] 9)
  have HA : (w.alloc (.cells #[] 9)).ownsRow w.heap.size 9 1 (.slice (some ⟨w.heap.size, 0, none⟩) 0 0) 0 [] := ⟨by simp, Or.inr ⟨w.heap.size, 0, #[], rfl, Nat.le_refl _, heap_alloc_new _ _, Nat.le_refl _, Nat.zero_le _, rfl, rfl⟩⟩
  have HB : RowAt (w.alloc (.cells #[] 9)) (fun _ => True) 9 1 (.slice aa l.length ca) l.length (namesV l) := hl.move (fun g _ lt => ⟨trivial, ba.block g lt⟩)
  have b1 : ∀ {ao cap w1}, Onto (w.alloc (.cells #[] 9)) w.heap.size 9 1 (.slice (some ⟨w.heap.size, 0, none⟩) 0 0) l.length (namesV l) ao cap w1 → Below w.heap.size w w1 := fun h =>
    ⟨h.2.1.os.trans ba.os, h.2.1.tape.trans ba.tape, h.2.1.output.trans ba.output, Nt ba.size h.2.1.size, fun k hk => (h.2.1.block k (by have := ba.size; omega) (fun e => by have e' : k = w.heap.size := Oi e; omega)).trans (ba.block k hk)⟩
  have HC : ∀ {w1 : World}, Below w.heap.size w w1 → RowAt w1 (fun _ => True) 9 1 (.slice ab r.length cb) r.length (namesV r) := fun h => hr.move (fun g _ lt => ⟨trivial, h.block g lt⟩)
  have HD := Hd (Ai HA HB)
  have HE := Hd ba.size
  clear hl hr HA HB
  go_enter Tryd.func48, Tryd.ntmps48
  go_wp2_with (at_builtin; first
    | (refine list_onto_str rfl _ _ rfl _ w.heap.size 0 (.slice (some ⟨w.heap.size, 0, none⟩) 0 0) [] rfl HD.out.1 (fun _ => True) l.length (namesV l) (.slice aa l.length ca) rfl HD.out.2 namesV_one (by omega) HE.out ?_; intro ao cap w1 O1; rw [Nat.zero_add, List.nil_append] at O1)
    | (refine list_onto_str rfl _ _ rfl _ w.heap.size l.length (.slice ao l.length cap) (namesV l) rfl O1.1 (fun _ => True) r.length (namesV r) (.slice ab r.length cb) rfl (HC (b1 O1)) namesV_one (by omega) (b1 O1).size ?_; intro ao2 cap2 w2 O2))
  refine bodyPost_ret (v := .slice ao2 (l.length + r.length) cap2) (by simp [results, Tryd.results48, go_sem]) rfl ⟨⟨_, rfl, ?_⟩, ?_⟩
  · have h := O2.1
    rwa [show namesV l ++ namesV r = namesV (l ++ r) by simp only [namesV, List.map_append]] at h
  · have h1 := b1 O1
    have hz := HE.out
    refine ⟨O2.2.1.os.trans h1.os, O2.2.1.tape.trans h1.tape, O2.2.1.output.trans h1.output, Nt h1.size O2.2.1.size, fun k hk => (O2.2.1.block k (by have := h1.size; omega) (fun e => ?_)).trans (h1.block k hk)⟩
    rcases O1.2.2 with q | q
    · rw [q] at e
      have e' : k = w.heap.size := Oi e
      omega
    · rw [q] at e
      have e' : k = (w.alloc (.cells #[] 9)).heap.size := Oi e
      omega
theorem run_onto_declR (ty : TypeId) (w : World) (base n : Nat) (v : Value) (xs : List Value) (hown : w.ownsRow base 36 2 v n xs) (K : Nat → Prop) (m : Nat) (ys : List Value) (x : Value) (hx : RowAt w K 36 2 x m ys) (h1 : ∀ u ∈ ys, u.oneCell' = true) (hb : n + m ≤ 100000) (hbase : base ≤ w.heap.size) :
    ∃ ao cap w', (Builtin.append_ #[23, 23] ty #[v, x]).run Tryd.prog w = .ok (.slice ao (n + m) cap) w' ∧ Onto w base 36 2 v (n + m) (xs ++ ys) ao cap w' := by
  obtain ⟨i0, hi, hz0, hz1, hz2⟩ := info_parts Tryd.info_decl
  obtain ⟨hl, ⟨rfl, rfl⟩ | ⟨g, o, c, cur, rfl, h2, h3, h4, h5, h6⟩⟩ := id hx
  · have hy : ys = [] := List.length_eq_zero_iff.1 (by simpa using hl)
    subst hy
    obtain ⟨ao, cap, rfl, hlow⟩ := own_shape hown
    exact ⟨ao, cap, w, run_nil_decl ty _ base n xs 0 w hown, by simpa using hown, ⟨rfl, rfl, rfl, Nat.le_refl _, fun _ _ _ => rfl⟩, Or.inl rfl⟩
  · obtain ⟨v', w', hr, q2, q3, _, q5⟩ := run_append_own_at (P := Tryd.prog) w base 23 ty 36 i0 (.agg #[.string ⟨#[]⟩, .int .i64 0]) 2 24 Tryd.underlying23 hi hz0 hz1 hz2 rfl (by decide) v n xs hown ⟨g, o, none⟩ m c ys hl (fun j u hj => by rw [add_at]; exact h6 j u hj) h1 (by unfold maxLen; omega) (by omega) hbase
    obtain ⟨ao, c2, rfl, hlow⟩ := own_shape q2
    exact ⟨ao, c2, w', hr, q2, q3, q5⟩
theorem wp_onto_declR {o : Oper} {a : Act} {K : Act → World → Prop} {Q : Exit → Act → World → Prop} (s x : Operand) (ho : o.op = .call { callee := .builtin .append, args := #[s, x], argTypes := #[23, 23] })
    (w : World) (base n : Nat) (v : Value) (xs : List Value) (hs : a.eval s = v) (hown : w.ownsRow base 36 2 v n xs) (K2 : Nat → Prop) (m : Nat) (ys : List Value) (xv : Value) (hx : a.eval x = xv) (hsrc : RowAt w K2 36 2 xv m ys) (h1 : ∀ u ∈ ys, u.oneCell' = true) (hb : n + m ≤ 100000) (hbase : base ≤ w.heap.size)
    (h : ∀ ao cap w', Onto w base 36 2 v (n + m) (xs ++ ys) ao cap w' → K (a.put o.dst (.slice ao (n + m) cap)) w') : o.wp Tryd.prog a w K Q := by
  obtain ⟨ao, cap, w', hr, h2⟩ := run_onto_declR o.type w base n v xs hown K2 m ys xv hsrc h1 hb hbase
  unfold Oper.wp execOp
  simp only [ho, resolve, invoke, builtin, Sem.run_bind, Sem.run_pure, Result.andThen_ok, List.map_toArray, List.map_cons, List.map_nil, hs, hx, hr]
  exact h ao cap w' h2
theorem list_onto_declR {ops : Array Oper} {rest : List Oper} {o : Oper} {a : Act} {Q : Exit → Act → World → Prop} (hgd : o.guard = none) (s x : Operand) (ho : o.op = .call { callee := .builtin .append, args := #[s, x], argTypes := #[23, 23] })
    (w : World) (base n : Nat) (v : Value) (xs : List Value) (hs : a.eval s = v) (hown : w.ownsRow base 36 2 v n xs) (K2 : Nat → Prop) (m : Nat) (ys : List Value) (xv : Value) (hx : a.eval x = xv) (hsrc : RowAt w K2 36 2 xv m ys) (h1 : ∀ u ∈ ys, u.oneCell' = true) (hb : n + m ≤ 100000) (hbase : base ≤ w.heap.size)
    (h : ∀ ao cap w', Onto w base 36 2 v (n + m) (xs ++ ys) ao cap w' → wpList Tryd.prog ops Q rest (a.put o.dst (.slice ao (n + m) cap)) w') : wpList Tryd.prog ops Q (o :: rest) a w :=
  wpList_plain hgd fun _ hK => wp_onto_declR s x ho w base n v xs hs hown K2 m ys xv hx hsrc h1 hb hbase fun ao cap w' h1 => hK _ _ (h ao cap w' h1)
theorem scons_any (ds : List (Nm × Int)) (a b : Value) (K : Nat → Prop) (w : World) (hn : 4 + ds.length ≤ 100000) (hl : RowAt w K 36 2 a ds.length (declV ds)) :
    Calls Tryd.prog 14 #[.agg #[a, b]] w fun e w' => (∃ v, e = .returned v ∧ w'.ownsRow w.heap.size 36 2 v (4 + ds.length) (declV (four ++ ds))) ∧ Below w.heap.size w w' := by
  obtain ⟨aa, ca, rfl⟩ := hl.sl
  have ba := (Below.refl w.heap.size w).alloc Nr (.cells #[.slice aa ds.length ca, b] 26)
  have bb := ba.alloc ba.size (.cells (declV four).toArray 36)
  have hz : (w.alloc (.cells #[.slice aa ds.length ca, b] 26)).heap.size = w.heap.size + 1 := Array.size_push ..
  have HA : ((w.alloc (.cells #[.slice aa ds.length ca, b] 26)).alloc (.cells (declV four).toArray 36)).ownsRow w.heap.size 36 2 (.slice (some ⟨w.heap.size + 1, 0, none⟩) 4 4) 4 (declV four) := ⟨rfl, Or.inr ⟨w.heap.size + 1, 4, (declV four).toArray, rfl, by omega, by rw [← hz]; exact heap_alloc_new _ _, Nat.le_refl _, by decide, rfl, rfl⟩⟩
  have HB : RowAt ((w.alloc (.cells #[.slice aa ds.length ca, b] 26)).alloc (.cells (declV four).toArray 36)) (fun _ => True) 36 2 (.slice aa ds.length ca) ds.length (declV ds) := hl.move (fun g _ lt => ⟨trivial, bb.block g lt⟩)
  have HD := Hd (Ai HA (Ai HB bb))
  clear hl HA HB ba bb hz
  go_enter Tryd.func14, Tryd.ntmps14
  go_wp2_with (at_builtin; refine list_onto_declR rfl _ _ rfl _ w.heap.size 4 (.slice (some ⟨w.heap.size + 1, 0, none⟩) 4 4) (declV four) rfl HD.out.1 (fun _ => True) ds.length (declV ds) (.slice aa ds.length ca) rfl HD.out.2.1 (declV_one ds) hn HD.out.2.2.size ?_; intro ao cap w1 O1)
  refine bodyPost_ret (v := .slice ao (4 + ds.length) cap) (by simp [results, Tryd.results14, go_sem]) rfl ⟨⟨_, rfl, ?_⟩, ?_⟩
  · have h := O1.1
    rwa [← declV_app] at h
  · have bb := HD.out.2.2
    exact ⟨O1.2.1.os.trans bb.os, O1.2.1.tape.trans bb.tape, O1.2.1.output.trans bb.output, Nt bb.size O1.2.1.size, fun k hk => (O1.2.1.block k (Nat.lt_of_lt_of_le hk bb.size) (fun e => by have e' : k = w.heap.size + 1 := Oi e; omega)).trans (bb.block k hk)⟩
theorem or_none {a b : Fo} : a.or b = none ↔ a = none ∧ b = none := by
  cases a <;> simp [Option.or]
def Sub (a b : List Nm) : Prop := ∀ x, x ∈ a → x ∈ b
def NmOk (x : Nm) : Prop := x ≠ [] ∧ x.length ≤ 100000
def Nms (l : List Nm) : Prop := ∀ x, x ∈ l → NmOk x
mutual
def wfE : Ex → Prop
  | .mk k n _ _ ps ks bs al => (k = 1 → ks = []) ∧ (k ≠ 7 → al = []) ∧ (k = 1 ∨ k = 2 ∨ k = 5 → NmOk n) ∧ Nms ps ∧ wfEs ks ∧ wfBs bs ∧ wfAs al ∧ (k ≠ 6 → bs = []) ∧ (k ≠ 8 → ps = [])
def wfEs : List Ex → Prop
  | [] => True
  | e :: r => wfE e ∧ wfEs r
def wfBs : List (Nm × List Nm × Ex) → Prop
  | [] => True
  | (n, ps, e) :: r => (NmOk n ∧ Nms ps ∧ wfE e) ∧ wfBs r
def wfAs : List (Int × Nm × Bool × Int × List Nm × Ex) → Prop
  | [] => True
  | (k, n, _, _, ns, e) :: r => ((k = 0 ∨ k = 2 → NmOk n) ∧ (Nms ns ∧ (k ≠ 0 → ns = [])) ∧ wfE e) ∧ wfAs r
end
theorem or_nil (a : Fo) : a.or none = a := by cases a <;> rfl
mutual
theorem sdE_eq {cs : List Nm} : ∀ (e : Ex) (sc : List Nm), wfE e → sdE cs sc e = scE cs sc e
  | .mk k n f x ps ks bs al, sc, h => by
    unfold wfE at h
    obtain ⟨h1, h2, -, -, h5, h6, h7, -⟩ := h
    have a0 : ∀ sc, sdAs cs sc [] = none := fun sc => by unfold sdAs; rfl
    have k0 : ∀ sc, sdEs cs sc [] = none := fun sc => by unfold sdEs; rfl
    unfold sdE scE
    by_cases g1 : k = 1
    · rw [if_pos g1, if_pos g1, h1 g1, h2 (by omega), a0, k0]
      simp
    rw [if_neg g1, if_neg g1]
    by_cases g2 : k = 2
    · rw [if_pos g2, if_pos g2, h2 (by omega), a0, or_nil, sdEs_eq ks _ h5]
    rw [if_neg g2, if_neg g2]
    by_cases g3 : k = 6
    · rw [if_pos g3, if_pos g3, h2 (by omega), a0, or_nil, sdBs_eq bs _ h6, sdEs_eq ks _ h5]
    rw [if_neg g3, if_neg g3]
    by_cases g5 : k = 8
    · rw [if_pos g5, if_neg (by omega), if_pos g5, h2 (by omega), a0, or_nil, sdEs_eq ks _ h5]
    rw [if_neg g5]
    by_cases g4 : k = 7
    · rw [if_pos g4, sdEs_eq ks _ h5, sdAs_eq al _ h7]
    · rw [if_neg g4, if_neg g5, h2 g4, a0, or_nil, sdEs_eq ks _ h5]
theorem sdEs_eq {cs : List Nm} : ∀ (l : List Ex) (sc : List Nm), wfEs l → sdEs cs sc l = scEs cs sc l
  | [], _, _ => by unfold sdEs scEs; rfl
  | e :: r, sc, h => by
    unfold wfEs at h
    unfold sdEs scEs
    rw [sdE_eq e sc h.1, sdEs_eq r sc h.2]
theorem sdBs_eq {cs : List Nm} : ∀ (l : List (Nm × List Nm × Ex)) (sc : List Nm), wfBs l → sdBs cs sc l = scBs cs sc l
  | [], _, _ => by unfold sdBs scBs; rfl
  | (n, ps, e) :: r, sc, h => by
    unfold wfBs at h
    unfold sdBs scBs
    rw [sdE_eq e _ h.1.2.2, sdBs_eq r sc h.2]
theorem sdAs_eq {cs : List Nm} : ∀ (l : List (Int × Nm × Bool × Int × List Nm × Ex)) (sc : List Nm), wfAs l → sdAs cs sc l = scAs cs sc l
  | [], _, _ => by unfold sdAs scAs; rfl
  | (k, n, f, x, ns, e) :: r, sc, h => by
    unfold wfAs at h
    unfold sdAs scAs
    rw [sdE_eq e _ h.1.2.2, sdE_eq e _ h.1.2.2, sdE_eq e _ h.1.2.2, sdAs_eq r sc h.2]
end
theorem sdM_eq {m : Md} (h : wfBs m.2) : sdM m = scM m := by
  unfold sdM scM
  rw [sdBs_eq m.2 _ h]
def FoOk (o : Fo) : Prop := ∀ e n, o = some (e, n) → e ≠ 0 ∧ n ≠ []
theorem FoOk.or {a b : Fo} (ha : FoOk a) (hb : FoOk b) : FoOk (a.or b) := by
  cases a with
  | none => simpa using hb
  | some x => intro e n h; exact ha e n (by simpa using h)
theorem hasF_ok {l : List Nm} {n : Nm} (h : n ≠ []) : FoOk (hasF l n) := by
  intro e m he
  unfold hasF at he
  split at he
  · cases he
  · cases he; exact ⟨by decide, h⟩
theorem twiceL_mem : ∀ (l seen : List Nm) (x : Nm), twiceL seen l = some x → x ∈ l
  | [], _, _, h => by cases h
  | y :: r, seen, x, h => by
    unfold twiceL at h
    split at h
    · cases h; exact List.mem_cons_self ..
    · exact List.mem_cons_of_mem _ (twiceL_mem r _ x h)
theorem twF_ok {l : List Nm} (h : Nms l) : FoOk (twF l) := by
  intro e m he
  unfold twF at he
  obtain ⟨x, hx, hy⟩ := Option.map_eq_some_iff.1 he
  cases hy
  exact ⟨by decide, (h _ (twiceL_mem _ _ _ hx)).1⟩
theorem none_ok : FoOk none := fun _ _ h => by cases h
theorem bNames_ok : ∀ {bs : List (Nm × List Nm × Ex)}, wfBs bs → Nms (bNames bs)
  | [], _ => fun _ hx => by cases hx
  | (n, ps, e) :: r, h => fun x hx => by
    unfold wfBs at h
    rcases List.mem_cons.1 hx with rfl | hx
    · exact h.1.1
    · exact bNames_ok h.2 x hx
mutual
theorem scE_ok {cs : List Nm} : ∀ (e : Ex) (sc : List Nm), wfE e → FoOk (scE cs sc e)
  | .mk k n f x ps ks bs al, sc, h => by
    unfold wfE at h
    obtain ⟨h1, h2, h3, h4, h5, h6, h7, -⟩ := h
    unfold scE
    split
    · rename_i g; exact hasF_ok (h3 (Or.inl g)).1
    split
    · rename_i g; exact (hasF_ok (h3 (Or.inr (Or.inl g))).1).or (scEs_ok ks sc h5)
    split
    · exact (twF_ok (bNames_ok h6)).or ((scBs_ok bs _ h6).or (scEs_ok ks _ h5))
    split
    · exact (scEs_ok ks sc h5).or (scAs_ok al sc h7)
    split
    · exact (twF_ok h4).or (scEs_ok ks _ h5)
    · exact scEs_ok ks sc h5
theorem scEs_ok {cs : List Nm} : ∀ (l : List Ex) (sc : List Nm), wfEs l → FoOk (scEs cs sc l)
  | [], _, _ => by unfold scEs; exact none_ok
  | e :: r, sc, h => by
    unfold wfEs at h
    unfold scEs
    exact (scE_ok e sc h.1).or (scEs_ok r sc h.2)
theorem scBs_ok {cs : List Nm} : ∀ (l : List (Nm × List Nm × Ex)) (sc : List Nm), wfBs l → FoOk (scBs cs sc l)
  | [], _, _ => by unfold scBs; exact none_ok
  | (n, ps, e) :: r, sc, h => by
    unfold wfBs at h
    unfold scBs
    exact ((twF_ok h.1.2.1).or (scE_ok e _ h.1.2.2)).or (scBs_ok r sc h.2)
theorem scAs_ok {cs : List Nm} : ∀ (l : List (Int × Nm × Bool × Int × List Nm × Ex)) (sc : List Nm), wfAs l → FoOk (scAs cs sc l)
  | [], _, _ => by unfold scAs; exact none_ok
  | (k, n, f, x, ns, e) :: r, sc, h => by
    unfold wfAs at h
    unfold scAs
    refine FoOk.or ?_ (scAs_ok r sc h.2)
    split
    · rename_i g; exact (hasF_ok (h.1.1 (Or.inl g)).1).or ((twF_ok h.1.2.1.1).or (scE_ok e _ h.1.2.2))
    split
    · exact scE_ok e _ h.1.2.2
    · exact scE_ok e _ h.1.2.2
end
theorem scM_ok {m : Md} (h : wfBs m.2) (hc : ∀ d, d ∈ m.1 → NmOk d.1) : FoOk (scM m) := by
  have hn : Nms (conNames m) := fun x hx => by
    obtain ⟨d, hd, rfl⟩ := List.mem_map.1 hx
    rcases List.mem_append.1 hd with hd | hd
    · simp only [four, List.mem_cons, List.not_mem_nil, or_false] at hd
      rcases hd with rfl | rfl | rfl | rfl <;> exact ⟨by decide, by decide⟩
    · exact hc d hd
  refine (twF_ok hn).or ((twF_ok (bNames_ok h)).or (FoOk.or ?_ (scBs_ok _ _ h)))
  split
  · exact none_ok
  · intro e n he; cases he; exact ⟨by decide, by decide⟩
def Gap (b : UInt8) : Prop := b = 32 ∨ b = 10
theorem find_same {α : Type} {p q : α → Bool} : ∀ (l : List α), (∀ x, x ∈ l → p x = q x) → l.find? p = l.find? q
  | [], _ => rfl
  | a :: l, h => by
    rw [List.find?_cons, List.find?_cons, h a (List.mem_cons_self ..), find_same l fun x hx => h x (List.mem_cons_of_mem _ hx)]
theorem signs_gap : ∀ x, x ∈ signsB → (32 : UInt8) ∉ x.1.data.toList ∧ (10 : UInt8) ∉ x.1.data.toList := by decide
theorem inRun_gap {b : UInt8} (hb : Gap b) : inRun b = false := by
  rcases hb with rfl | rfl <;> decide
theorem run_run (l : List UInt8) : runL (runL l) = runL l := by
  unfold runL
  induction l with
  | nil => rfl
  | cons c l ih =>
    rw [List.takeWhile_cons]
    split
    · rename_i h
      rw [List.takeWhile_cons, if_pos h, ih]
    · rfl
theorem run_mem {l : List UInt8} {x : UInt8} (h : x ∈ runL l) : inRun x = true := by
  unfold runL at h
  induction l with
  | nil => cases h
  | cons c l ih =>
    rw [List.takeWhile_cons] at h
    split at h
    · rename_i g
      rcases List.mem_cons.1 h with rfl | h
      · exact g
      · exact ih h
    · cases h
theorem run_take (l : List UInt8) : l.take (runL l).length = runL l := (List.prefix_iff_eq_take.1 (List.takeWhile_prefix _)).symm
theorem marked_minus (q : List UInt8) : markedL (35 :: 45 :: q) = 35 :: 45 :: runL q := by
  have e : trimPrefix ((35 :: 45 :: q : List UInt8).drop 1) [45] = q := by simp [trimPrefix, hasPrefix]
  unfold markedL
  rw [e]
  have e2 : (35 :: 45 :: q : List UInt8).length - q.length + (runL q).length = (runL q).length + 1 + 1 := by simp only [List.length_cons]; omega
  rw [e2, List.take_succ_cons, List.take_succ_cons, run_take]
theorem marked_plain {m : List UInt8} (h : hasPrefix m [45] = false) : markedL (35 :: m) = 35 :: runL m := by
  have e : trimPrefix ((35 :: m : List UInt8).drop 1) [45] = m := by simp [trimPrefix, h]
  unfold markedL
  rw [e]
  have e2 : (35 :: m : List UInt8).length - m.length + (runL m).length = (runL m).length + 1 := by simp only [List.length_cons]; omega
  rw [e2, List.take_succ_cons, run_take]
theorem minus_split (m : List UInt8) : (∃ q, m = 45 :: q) ∨ hasPrefix m [45] = false := by
  cases m with
  | nil => exact Or.inr (by decide)
  | cons c q =>
    by_cases h : c = 45
    · exact Or.inl ⟨q, by rw [h]⟩
    · refine Or.inr ?_
      unfold hasPrefix
      rw [Bool.eq_false_iff]
      intro g
      exact h (List.cons_prefix_cons.1 (List.isPrefixOf_iff_prefix.1 g)).1.symm
theorem has35 {l : List UInt8} (h : hasPrefix l [35] = true) : ∃ m, l = 35 :: m := by
  unfold hasPrefix at h
  obtain ⟨t, rfl⟩ := List.isPrefixOf_iff_prefix.1 h
  exact ⟨t, rfl⟩
theorem signs_own : ∀ x, x ∈ signsB → signL x.1.data.toList = some x := by decide
theorem sign_pre {t l : List UInt8} (ht : t <+: l) (h : signL l = none) : signL t = none := by
  unfold signL at *
  rw [List.find?_eq_none] at *
  intro x hx g
  refine h x hx ?_
  unfold hasPrefix at *
  exact List.isPrefixOf_iff_prefix.2 ((List.isPrefixOf_iff_prefix.1 g).trans ht)
theorem marked_pre (m : List UInt8) : markedL (35 :: m) <+: 35 :: m ∧ markedL (markedL (35 :: m)) = markedL (35 :: m) := by
  rcases minus_split m with ⟨q, rfl⟩ | h
  · rw [marked_minus, marked_minus, run_run]
    exact ⟨List.cons_prefix_cons.2 ⟨rfl, List.cons_prefix_cons.2 ⟨rfl, List.takeWhile_prefix _⟩⟩, rfl⟩
  · rw [marked_plain h, marked_plain, run_run]
    · exact ⟨List.cons_prefix_cons.2 ⟨rfl, List.takeWhile_prefix _⟩, rfl⟩
    · rcases minus_split (runL m) with ⟨q, e⟩ | g
      · exact absurd (run_mem (l := m) (x := 45) (by rw [e]; exact List.mem_cons_self ..)) (by decide)
      · exact g
theorem marked_gaps {m : List UInt8} {x : UInt8} (h : x ∈ markedL (35 :: m)) : ¬ Gap x := by
  have hr : ∀ q, x ∈ runL q → ¬ Gap x := fun q hx g => by have := run_mem hx; rw [inRun_gap g] at this; cases this
  have h35 : x = 35 → ¬ Gap x := fun e g => by subst e; rcases g with g | g <;> revert g <;> decide
  have h45 : x = 45 → ¬ Gap x := fun e g => by subst e; rcases g with g | g <;> revert g <;> decide
  rcases minus_split m with ⟨q, rfl⟩ | g
  · rw [marked_minus] at h
    rcases List.mem_cons.1 h with h | h
    · exact h35 h
    · rcases List.mem_cons.1 h with h | h
      · exact h45 h
      · exact hr _ h
  · rw [marked_plain g] at h
    rcases List.mem_cons.1 h with h | h
    · exact h35 h
    · exact hr _ h
theorem read_own {l : List UInt8} (hl : l ≠ []) (h : (readL l).2 = 0) : readL (readL l).1.t = ((readL l).1, 0) ∧ (readL l).1.t <+: l ∧ ∀ x, x ∈ (readL l).1.t → ¬ Gap x := by
  cases hs : signL l with
  | some x =>
    have e : readL l = (⟨x.2, x.1.data.toList, false, 0⟩, 0) := by unfold readL; rw [hs]
    have hx : x ∈ signsB := by unfold signL at hs; exact List.mem_of_find?_eq_some hs
    have hp := by unfold signL at hs; exact List.find?_some hs
    rw [e]
    refine ⟨?_, ?_, ?_⟩
    · unfold readL
      simp only
      rw [signs_own x hx]
    · unfold hasPrefix at hp
      exact List.isPrefixOf_iff_prefix.1 hp
    · intro b hb g
      rcases g with rfl | rfl
      · exact (signs_gap x hx).1 hb
      · exact (signs_gap x hx).2 hb
  | none =>
    by_cases g : hasPrefix l [35] = true
    · have e : readL l = numT (markedL l) := by unfold readL; rw [hs]; exact if_pos g
      rw [e] at h ⊢
      rw [numT_ok h]
      obtain ⟨m, rfl⟩ := has35 g
      obtain ⟨hp, hm⟩ := marked_pre m
      refine ⟨?_, hp, fun x hx => marked_gaps hx⟩
      have h35 : hasPrefix (markedL (35 :: m)) [35] = true := by
        rcases minus_split m with ⟨q, rfl⟩ | gm
        · rw [marked_minus]; rfl
        · rw [marked_plain gm]; rfl
      have e2 : readL (markedL (35 :: m)) = numT (markedL (markedL (35 :: m))) := by
        unfold readL
        rw [sign_pre hp hs]
        exact if_pos h35
      rw [e2, hm, ← h]
    · have e : readL l = readR l := by unfold readL; rw [hs]; exact if_neg g
      rw [e] at h ⊢
      have hne : kindOf l ≠ 0 := by
        intro k
        unfold readR at h
        rw [if_pos k] at h
        cases h
      have hrn : runL l ≠ [] := by
        intro k
        cases l with
        | nil => exact hl rfl
        | cons c r => exact hne (kindOf_nil k)
      have hkk : kindOf (runL l) = kindOf l := by
        unfold kindOf
        rw [run_run]
        have : (runL l).take 1 = l.take 1 := by
          cases l with
          | nil => exact absurd rfl hl
          | cons c r =>
            unfold runL at hrn ⊢
            rw [List.takeWhile_cons] at hrn ⊢
            split
            · rfl
            · rename_i k
              rw [if_neg k] at hrn
              exact absurd rfl hrn
        rw [this]
      have ht : (readR l).1.t = runL l := by
        unfold readR at h ⊢
        rw [if_neg hne] at h ⊢
        split at h
        · rename_i g3
          rw [if_pos g3]
          exact numT_ok h
        · rename_i g3
          rw [if_neg g3]
          split at h
          · cases h
          · rename_i g16
            rw [if_neg g16]
      rw [ht]
      refine ⟨?_, List.takeWhile_prefix _, fun x hx gx => by have := run_mem hx; rw [inRun_gap gx] at this; cases this⟩
      have g2 : ¬ hasPrefix (runL l) [35] = true := by
        intro k
        obtain ⟨m, hm⟩ := has35 k
        exact absurd (run_mem (l := l) (x := 35) (by rw [hm]; exact List.mem_cons_self ..)) (by decide)
      have e2 : readL (runL l) = readR (runL l) := by
        unfold readL
        rw [sign_pre (show runL l <+: l from List.takeWhile_prefix _) hs]
        exact if_neg g2
      have e3 : readR (runL l) = readR l := by
        unfold readR
        rw [hkk, run_run]
      rw [e2, e3, ← h]
def Own (y : Tk) : Prop := ∃ c r, y.t = c :: r ∧ c ≠ 10 ∧ ¬ (c = 9 ∨ c = 13 ∨ c = 32) ∧ hasPrefix y.t [45, 45] = false ∧ readL y.t = (y, 0)
theorem fuel : ∀ (f g : Nat) (l : List UInt8) (line : Int) (acc : List (Tk × Int)), l.length < f → l.length < g → lexA f l line acc = lexA g l line acc
  | 0, _, l, _, _, hf, _ => by omega
  | _, 0, l, _, _, _, hg => by omega
  | f + 1, g + 1, [], _, _, _, _ => by unfold lexA; rfl
  | f + 1, g + 1, c :: r, line, acc, hf, hg => by
    simp only [List.length_cons] at hf hg
    unfold lexA
    split
    · exact fuel f g _ _ _ (by omega) (by omega)
    · rename_i h10
      split
      · exact fuel f g _ _ _ (by omega) (by omega)
      · split
        · have hip := index_pos (r := r) h10
          split
          · rfl
          · exact fuel f g _ _ _ (by rw [List.length_drop, List.length_cons]; omega) (by rw [List.length_drop, List.length_cons]; omega)
        · split
          · rename_i hr
            have hle := read_len hr
            split
            · rfl
            · exact fuel f g _ _ _ (by rw [List.length_drop, List.length_cons]; omega) (by rw [List.length_drop, List.length_cons]; omega)
          · rfl
def spaced (T : List (Tk × Int)) : List UInt8 := T.flatMap fun x => x.1.t ++ [32]
theorem lexA_bad : ∀ (f : Nat) (l : List UInt8) (line : Int) (acc : List (Tk × Int)) (e k : Int), lexA f l line acc = .bad e k → e ≠ 0
  | 0, l, line, acc, e, k, h => by unfold lexA at h; cases h
  | f + 1, [], line, acc, e, k, h => by unfold lexA at h; cases h
  | f + 1, c :: r, line, acc, e, k, h => by
    unfold lexA at h
    split at h
    · exact lexA_bad f _ _ _ _ _ h
    · split at h
      · exact lexA_bad f _ _ _ _ _ h
      · split at h
        · split at h
          · cases h
          · exact lexA_bad f _ _ _ _ _ h
        · split at h
          · split at h
            · cases h
              decide
            · exact lexA_bad f _ _ _ _ _ h
          · rename_i g
            cases h
            exact g
theorem lexL_bad {l : List UInt8} {e k : Int} (h : lexL l = .bad e k) : e ≠ 0 := lexA_bad _ _ _ _ _ _ h
def bytesT (T : List (Tk × Int)) : Nat := (T.map fun x => x.1.t.length).sum
theorem own_of {c : UInt8} {r : List UInt8} (h10 : c ≠ 10) (hbl : ¬ (c = 9 ∨ c = 13 ∨ c = 32)) (hp : ¬ hasPrefix (c :: r) [45, 45] = true) (h : (readL (c :: r)).2 = 0) : Own (readL (c :: r)).1 := by
  obtain ⟨h1, h2, -⟩ := read_own (List.cons_ne_nil c r) h
  have hl := read_len h
  cases ht : (readL (c :: r)).1.t with
  | nil => rw [ht] at hl; simp at hl
  | cons d q =>
    obtain ⟨u, hu⟩ := h2
    rw [ht] at hu
    obtain rfl : d = c := by simpa using (List.cons.inj hu).1
    refine ⟨d, q, ht, h10, hbl, ?_, h1⟩
    rw [Bool.eq_false_iff]
    intro g
    refine hp ?_
    unfold hasPrefix at *
    refine List.isPrefixOf_iff_prefix.2 ((List.isPrefixOf_iff_prefix.1 g).trans ⟨u, ?_⟩)
    rw [ht, hu]
theorem lexA_own : ∀ (f : Nat) (l : List UInt8) (line : Int) (acc T : List (Tk × Int)) (B : Nat), (∀ x, x ∈ acc → Own x.1) → acc.length ≤ 4096 → bytesT acc + l.length ≤ B → lexA f l line acc = .good T → (∀ x, x ∈ T → Own x.1) ∧ T.length ≤ 4096 ∧ bytesT T ≤ B
  | 0, l, line, acc, T, B, ha, hn, hB, h => by unfold lexA at h; cases h; exact ⟨ha, hn, by omega⟩
  | f + 1, [], line, acc, T, B, ha, hn, hB, h => by unfold lexA at h; cases h; exact ⟨ha, hn, by simpa using hB⟩
  | f + 1, c :: r, line, acc, T, B, ha, hn, hB, h => by
    simp only [List.length_cons] at hB
    unfold lexA at h
    split at h
    · exact lexA_own f _ _ _ _ _ ha hn (by omega) h
    · rename_i h10
      split at h
      · exact lexA_own f _ _ _ _ _ ha hn (by omega) h
      · rename_i hbl
        split at h
        · split at h
          · cases h; exact ⟨ha, hn, by omega⟩
          · exact lexA_own f _ _ _ _ _ ha hn (by rw [List.length_drop, List.length_cons]; omega) h
        · rename_i hp
          split at h
          · rename_i hr
            split at h
            · cases h
            · have hle := read_len hr
              refine lexA_own f _ _ _ _ _ (fun x hx => ?_) (by rw [List.length_append, List.length_singleton]; omega) ?_ h
              · rcases List.mem_append.1 hx with hx | hx
                · exact ha x hx
                · rw [List.mem_singleton] at hx
                  subst hx
                  exact own_of h10 hbl hp hr
              · have e : bytesT (acc ++ [((readL (c :: r)).1, line)]) = bytesT acc + (readL (c :: r)).1.t.length := by simp [bytesT]
                rw [e, List.length_drop, List.length_cons]
                simp only [List.length_cons] at hle
                omega
          · cases h
theorem lexL_own {l : List UInt8} {T : List (Tk × Int)} (h : lexL l = .good T) : (∀ x, x ∈ T → Own x.1) ∧ T.length ≤ 4096 ∧ bytesT T ≤ l.length :=
  lexA_own _ _ _ _ _ _ (fun x hx => by cases hx) (by simp) (by simp [bytesT]) h
theorem bytes_mem : ∀ {T : List (Tk × Int)} {x : Tk × Int}, x ∈ T → x.1.t.length ≤ bytesT T
  | y :: T, x, h => by
    rcases List.mem_cons.1 h with rfl | h
    · simp [bytesT]
    · have := bytes_mem h
      simp only [bytesT, List.map_cons, List.sum_cons] at *
      omega
end Go.Proofs.YtdjcdecbmeickaaDoor
